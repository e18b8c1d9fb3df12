/-
  Layer 16: contract of the reference's Ack. Written by gen_snref3.py.
-/
import Derived.Test.YtglhaclehdkagaaSnRef2
namespace Go.Proofs.Ytglhaclehdkagaa
open Go.ChangeShapes Go.WideShapes Go.ChangeAt Go.RowKit
set_option linter.unusedVariables false

theorem snAkB_is {s : SnS} {b : Int} : snAkB s b = ((decide (dsE (snBase s) b = 0) && decide (dsV (snBase s) b < 32768)) && decide (dsV (snBase s) b ≤ dsV (snBase s) s.nx)) := rfl
/-- What the two lists are once the loop is through. -/
theorem ack_end {S : Nat} {s : SnS} {b m : Int} {T : Nat → Prop} {w wr : World} {base : Nat} {A1 A2 : Option Addr} {c1 c2 m1 m2 : Nat} {vL : Value} (hbs : w.heap.size ≤ base) (hok : SnOk s) (h1 : ∀ k, T k → k < w.heap.size) (h2 : T S) (hS : Whole wr S 42 (snC s vL)) (hE : snAkB s b = true)
    (hro : wr.ownsRow base 3 1 (.slice A1 m1 c1) m1 (srs csI ((s.l.filter (snGone b m)).map (·.i)))) (hrl : wr.ownsRow base 38 3 (.slice A2 m2 c2) m2 (srs csN (s.l.filter (fun x => !snGone b m x))))
    (hl1 : (s.l.filter (snGone b m)).length = m1) (hl2 : (s.l.filter (fun x => !snGone b m x)).length = m2) (hb : Below w.heap.size w wr) :
    (∃ T', Star (LsP csI 1 3 (.slice A1 m1 c1) (snAkL s b m)) (RsP S (s.ack b m)) T' (wr.setCell ⟨S, 3, none⟩ (.slice A2 m2 c2)) ∧ ∀ j, T' j → T j ∨ w.heap.size ≤ j) ∧ Chg T w (wr.setCell ⟨S, 3, none⟩ (.slice A2 m2 c2)) := by
  have hSw := h1 S h2
  have eL : snAkL s b m = (s.l.filter (snGone b m)).map (·.i) := by unfold snAkL; rw [if_pos hE]
  have eA : s.ack b m = { s with l := s.l.filter (fun x => !snGone b m x) } := by unfold SnS.ack; rw [if_pos hE]
  have hokA := hok.ack b m
  rw [eA] at hokA ⊢
  rw [eL]
  have ho1 := fun k e => own_lt hro (k := k) e
  have ho2 := fun k e => own_lt hrl (k := k) e
  have keep : ∀ k, k ≠ S → (wr.setCell ⟨S, 3, none⟩ (.slice A2 m2 c2)).heap[k]? = wr.heap[k]? := fun k hk => Below.heap_setCell _ _ _ _ (by simpa using hk)
  have lsO := (intElt.row_ls1 hro (by rw [List.length_map, hl1])).keep (w' := wr.setCell ⟨S, 3, none⟩ (.slice A2 m2 c2)) fun k hk => keep k (by have := ho1 k hk; omega)
  have lsL := (snElt.row_ls1 hrl hl2.symm).keep (w' := wr.setCell ⟨S, 3, none⟩ (.slice A2 m2 c2)) fun k hk => keep k (by have := ho2 k hk; omega)
  have hsz : (wr.setCell ⟨S, 3, none⟩ (.slice A2 m2 c2)).heap.size = wr.heap.size := by simp [World.setCell]
  refine ⟨⟨fun k => (Value.slice A1 m1 c1).ownBlock = some k ∨ (k = S ∨ (Value.slice A2 m2 c2).ownBlock = some k), ⟨fun k => (Value.slice A1 m1 c1).ownBlock = some k, fun k => k = S ∨ (Value.slice A2 m2 c2).ownBlock = some k, fun k => Iff.rfl, fun k h3 h4 => ?_, ⟨fun k hk => by rw [hsz]; exact (ho1 k hk).2, lsO⟩, hokA, fun k hk => ?_, .inl rfl, .slice A2 m2 c2, hS.put 3 (.slice A2 m2 c2), lsL.wider fun k hk => .inr hk⟩, fun k hk => ?_⟩, (Chg.of_below hb).setCell h2 3 _⟩
  · rcases h4 with rfl | h4
    · have := ho1 k h3; omega
    · exact own_other hro hrl (by decide) h3 h4
  · rw [hsz]
    rcases hk with rfl | hk
    · exact hS.size_lt
    · exact (ho2 k hk).2
  · rcases hk with hk | rfl | hk
    · have := ho1 k hk; exact .inr (by omega)
    · exact .inl h2
    · have := ho2 k hk; exact .inr (by omega)
set_option maxRecDepth 100000 in
set_option maxHeartbeats 16000000 in
theorem rsack_any {S : Nat} {s : SnS} (hn : s.l.length ≤ 99999) {base : Nat} (b m : Int) (hm : Wd m) : Acts 28 #[.pointer (some ⟨S, 0, none⟩), .agg #[.int .i64 b, .int .u64 m]] base (RsP S s) (fun v : Value => v) fun v => Star (LsP csI 1 3 v (snAkL s b m)) (RsP S (s.ack b m)) := by
  intro T w hP hb hs
  have HBX := Lib.hid (fun (W : World) (hw : Below w.heap.size w W) => (rsbase_any (hP.later hw)))
  have hdist := hP.1.dist
  have hP' := hP
  obtain ⟨h0, h1, h2, vL, h3, h4⟩ := hP
  have hSw := h1 S h2
  have HS3 := Lib.hid h3
  have HSet := Lib.hid (And.intro h1 h2)
  have d2 := h3.read 2
  have d3 := h3.read 3
  simp [snC] at d2 d3
  have HA1 := Lib.hid (fun (W : World) (hw : Below (w.alloc (.cells #[.int .i64 b, .int .u64 m] 47)).heap.size (w.alloc (.cells #[.int .i64 b, .int .u64 m] 47)) W) => ((Below.refl w.heap.size w).alloc (Nat.le_refl _) (.cells #[.int .i64 b, .int .u64 m] 47)).trans (hw.mono (by simp)))
  have hfr := Whole.fresh w 47 #[.int .i64 b, .int .u64 m]
  have HBM := Lib.hid (fun (W : World) (hw : Below (w.alloc (.cells #[.int .i64 b, .int .u64 m] 47)).heap.size (w.alloc (.cells #[.int .i64 b, .int .u64 m] 47)) W) => (by
    have h9 := hfr.later hw
    have g0 := h9.read 0
    have g1 := h9.read 1
    simp at g0 g1
    exact ⟨g0, g1⟩ : W.cell? ⟨w.heap.size, 0, none⟩ = some (.int .i64 b) ∧ W.cell? ⟨w.heap.size, 1, none⟩ = some (.int .u64 m)))
  have HL := Lib.hid (fun k (hk : k < s.l.length) => h4.sn hk)
  obtain ⟨A, c, rfl, hcl, _⟩ := h4.shape
  have HCD := Lib.hid (fun (W : World) (hw : Below w.heap.size w W) => And.intro ((hw.cell (p := ⟨S, 2, none⟩) hSw).trans d2) ((hw.cell (p := ⟨S, 3, none⟩) hSw).trans d3))
  have HB1 := Lib.hid (fun (W : World) (hw : Below (w.alloc (.cells #[.int .i64 b, .int .u64 m] 47)).drew.heap.size (w.alloc (.cells #[.int .i64 b, .int .u64 m] 47)).drew W) => HBX.out W (HA1.out W ((Below.refl _ (w.alloc (.cells #[.int .i64 b, .int .u64 m] 47))).drew.trans hw)))
  have HC1 := Lib.hid (fun (W : World) (hw : Below (w.alloc (.cells #[.int .i64 b, .int .u64 m] 47)).drew.heap.size (w.alloc (.cells #[.int .i64 b, .int .u64 m] 47)).drew W) => (HBM.out W ((Below.refl _ (w.alloc (.cells #[.int .i64 b, .int .u64 m] 47))).drew.trans hw)).1)
  have HOK := Lib.hid h0
  have HNO0 := Lib.hid (fun (W : World) (hw : Below w.heap.size w W) (hE : snAkB s b = false) => (by
    have e1 : snAkL s b m = [] := by unfold snAkL; rw [hE]; rfl
    have e2 : s.ack b m = s := by unfold SnS.ack; rw [hE]; rfl
    rw [e1, e2]
    exact ⟨⟨T, ⟨fun _ => False, T, fun k => by simp, fun k hk => hk.elim, ⟨fun k hk => hk.elim, LsG.nil _ _⟩, hP'.later hw⟩, fun k hk => .inl hk⟩, Chg.of_below hw⟩ :
    (∃ T', Star (LsP csI 1 3 (.slice none 0 0) (snAkL s b m)) (RsP S (s.ack b m)) T' W ∧ ∀ j, T' j → T j ∨ w.heap.size ≤ j) ∧ Chg T w W))
  have HEND := Lib.hid (fun (wr : World) (A1 A2 : Option Addr) (c1 c2 m1 m2 : Nat) (hS : Whole wr S 42 (snC s (.slice A s.l.length c))) (hE : snAkB s b = true) hro hrl hl1 hl2 hbw => ack_end (S := S) (s := s) (b := b) (m := m) (T := T) (w := w) (wr := wr) (base := w.heap.size + 1) (A1 := A1) (A2 := A2) (c1 := c1) (c2 := c2) (m1 := m1) (m2 := m2) (by omega) h0 h1 h2 hS hE hro hrl hl1 hl2 hbw)
  have hEq := snAkB_is (s := s) (b := b)
  unfold snD at hdist
  clear hP' h0 h1 h2 h3 h4 d2 d3 hb hs hfr
  generalize snBase s = ba at *
  have HD1 := Lib.hid (fun (W : World) (hw : Below (w.alloc (.cells #[.int .i64 b, .int .u64 m] 47)).drew.heap.size (w.alloc (.cells #[.int .i64 b, .int .u64 m] 47)).drew W) => (refDist_any ba b W).mono fun e w' k => Calm.same k)
  have HD0 := Lib.hid (fun (W : World) => (refDist_any ba s.nx W).mono fun e w' k => Calm.same k)
  generalize dsV ba b = d at *
  generalize dsE ba b = de at *
  generalize dsV ba s.nx = dn at *
  generalize dsE ba s.nx = dne at *
  generalize s.nx = nx at *
  unfold Calm at *
  go_enter Try.func28, Try.ntmps28
  go_wp2_with fail
  refine wp_region_looseS 99 (by kernel_rfl) (by kernel_rfl) (StB (w.alloc (.cells #[.int .i64 b, .int .u64 m] 47)).drew (fun vI => [.pointer (some ⟨S, 0, none⟩), .int .i64 ba, .pointer (some ⟨w.heap.size, 0, none⟩), .int .i64 b, .tuple #[.int .i64 d, .int .i64 de], .tuple #[.int .i64 d, .int .i64 de], .int .i64 d, .int .i64 de, .int .i64 d, .int .i64 de].getD vI undef)) rfl StB.start ?_ ?_
  · simp only [OblAllS]
    refine ⟨?_, ?_, ?_, ?_, ?_, ?_, ?_, ?_, ?_, ?_, trivial⟩
    · intro L wx vals hi hu hcl hC
      have HCx := Lib.hid hC
      clear hC hcl hu hi
      simp only [fillA, if_true, Act.put]
      simp
      go_wp2
      exact ⟨rfl, HCx.out.quiet 0 rfl⟩
    · intro L wx vals hi hu hcl hC
      simp [predL, predE, Region.binds, UpL] at hu
      have e0 : vals 0 = .pointer (some ⟨S, 0, none⟩) := hC.v 0 (by simp [hu])
      have HL := Lib.hid (HB1.out wx hC.b)
      have HCx := Lib.hid hC
      clear hC hcl hu hi
      simp only [fillA, if_true, Act.put]
      simp
      simp only [e0]
      clear e0
      go_wp2_with fail
      (with_reducible refine HL.out.mono ?_); rintro e w9 ⟨rfl, hb⟩
      have HX := Lib.hid (HCx.out.step 1 (x := .int .i64 ba) rfl (HCx.out.b.trans (hb.mono HCx.out.b.size)))
      clear hb
      go_wp2
      exact ⟨rfl, HX.out⟩
    · intro L wx vals hi hu hcl hC
      have HCx := Lib.hid hC
      clear hC hcl hu hi
      simp only [fillA, if_true, Act.put]
      simp
      go_wp2
      exact ⟨rfl, HCx.out.quiet 2 rfl⟩
    · intro L wx vals hi hu hcl hC
      simp [predL, predE, Region.binds, UpL] at hu
      have e2 : vals 2 = .pointer (some ⟨w.heap.size, 0, none⟩) := hC.v 2 (by simp [hu])
      have h0 := (HC1.out wx hC.b)
      have HCx := Lib.hid hC
      clear hC hcl hu hi
      simp only [fillA, if_true, Act.put]
      simp
      simp only [e2]
      clear e2
      go_wp2
      exact ⟨rfl, HCx.out.quiet 3 rfl⟩
    · intro L wx vals hi hu hcl hC
      simp [predL, predE, Region.binds, UpL] at hu
      have e1 : vals 1 = .int .i64 ba := hC.v 1 (by simp [hu])
      have e3 : vals 3 = .int .i64 b := hC.v 3 (by simp [hu])
      have HL := Lib.hid (HD1.out wx hC.b)
      have HCx := Lib.hid hC
      clear hC hcl hu hi
      simp only [fillA, if_true, Act.put]
      simp
      simp only [e1, e3]
      clear e1 e3
      go_wp2_with fail
      (with_reducible refine HL.out.mono ?_); rintro e w9 ⟨rfl, hb⟩
      have HX := Lib.hid (HCx.out.step 4 (x := .tuple #[.int .i64 d, .int .i64 de]) rfl (HCx.out.b.trans (hb.mono HCx.out.b.size)))
      clear hb
      go_wp2
      exact ⟨rfl, HX.out⟩
    · intro L wx vals hi hu hcl hC
      simp [predL, predE, Region.binds, UpL] at hu
      have e4 : vals 4 = .tuple #[.int .i64 d, .int .i64 de] := hC.v 4 (by simp [hu])
      have HCx := Lib.hid hC
      clear hC hcl hu hi
      simp only [fillA, if_true, Act.put]
      simp
      simp only [e4]
      clear e4
      go_wp2
      exact ⟨rfl, HCx.out.quiet 5 rfl⟩
    · intro L wx vals hi hu hcl hC
      simp [predL, predE, Region.binds, UpL] at hu
      have e5 : vals 5 = .tuple #[.int .i64 d, .int .i64 de] := hC.v 5 (by simp [hu])
      have HCx := Lib.hid hC
      clear hC hcl hu hi
      simp only [fillA, if_true, Act.put]
      simp
      simp only [e5]
      clear e5
      go_wp2
      exact ⟨rfl, HCx.out.quiet 6 rfl⟩
    · intro L wx vals hi hu hcl hC
      simp [predL, predE, Region.binds, UpL] at hu
      have e5 : vals 5 = .tuple #[.int .i64 d, .int .i64 de] := hC.v 5 (by simp [hu])
      have HCx := Lib.hid hC
      clear hC hcl hu hi
      simp only [fillA, if_true, Act.put]
      simp
      simp only [e5]
      clear e5
      go_wp2
      exact ⟨rfl, HCx.out.quiet 7 rfl⟩
    · intro L wx vals hi hu hcl hC
      simp [predL, predE, Region.binds, UpL] at hu
      have e6 : vals 6 = .int .i64 d := hC.v 6 (by simp [hu])
      have HCx := Lib.hid hC
      clear hC hcl hu hi
      simp only [fillA, if_true, Act.put]
      simp
      simp only [e6]
      clear e6
      go_wp2
      exact ⟨rfl, HCx.out.quiet 8 rfl⟩
    · intro L wx vals hi hu hcl hC
      simp [predL, predE, Region.binds, UpL] at hu
      have e7 : vals 7 = .int .i64 de := hC.v 7 (by simp [hu])
      have HCx := Lib.hid hC
      clear hC hcl hu hi
      simp only [fillA, if_true, Act.put]
      simp
      simp only [e7]
      clear e7
      go_wp2
      exact ⟨rfl, HCx.out.quiet 9 rfl⟩
  · intro wz vals U hC hall
    have e8 : vals 8 = .int .i64 d := hC.v 8 (hall 8 (by simp))
    have e9 : vals 9 = .int .i64 de := hC.v 9 (hall 9 (by simp))
    have HZ := Lib.hid ((Below.refl _ (w.alloc (.cells #[.int .i64 b, .int .u64 m] 47))).drew.trans hC.b)
    simp only [fillA, if_true, Act.put]
    simp
    simp only [e8, e9]
    clear hC hall e8 e9 HC1 HB1 HD1
    generalize vals 0 = t_0 at *
    generalize vals 1 = t_1 at *
    generalize vals 2 = t_2 at *
    generalize vals 3 = t_3 at *
    generalize vals 4 = t_4 at *
    generalize vals 5 = t_5 at *
    generalize vals 6 = t_6 at *
    generalize vals 7 = t_7 at *
    have HB2 := Lib.hid (fun (W : World) (hw : Below wz.drew.heap.size wz.drew W) => HBX.out W (HA1.out W (HZ.out.trans (((Below.refl _ wz).drew.trans hw).mono HZ.out.size))))
    have HC2 := Lib.hid (fun (W : World) (hw : Below wz.drew.heap.size wz.drew W) => (HCD.out W (HA1.out W (HZ.out.trans (((Below.refl _ wz).drew.trans hw).mono HZ.out.size)))).1)
    have HD2 := Lib.hid (fun (W : World) (hw : Below wz.drew.heap.size wz.drew W) => HD0.out W)
    go_wp2_with fail
    refine wp_region_looseS 99 (by kernel_rfl) (by kernel_rfl) (StB wz.drew (fun vI => [.pointer (some ⟨S, 0, none⟩), .int .i64 ba, .pointer (some ⟨S, 0, none⟩), .pointer (some ⟨S, 0, none⟩), .pointer (some ⟨S, 2, none⟩), .int .i64 nx, .tuple #[.int .i64 dn, .int .i64 dne], .tuple #[.int .i64 dn, .int .i64 dne], .int .i64 dn, .int .i64 dne, .int .i64 dn, .int .i64 dne].getD vI undef)) rfl StB.start ?_ ?_
    · simp only [OblAllS]
      refine ⟨?_, ?_, ?_, ?_, ?_, ?_, ?_, ?_, ?_, ?_, ?_, ?_, trivial⟩
      · intro L wx vals hi hu hcl hC
        have HCx := Lib.hid hC
        clear hC hcl hu hi
        simp only [fillA, if_true, Act.put]
        simp
        go_wp2
        exact ⟨rfl, HCx.out.quiet 0 rfl⟩
      · intro L wx vals hi hu hcl hC
        simp [predL, predE, Region.binds, UpL] at hu
        have e0 : vals 0 = .pointer (some ⟨S, 0, none⟩) := hC.v 0 (by simp [hu])
        have HL := Lib.hid (HB2.out wx hC.b)
        have HCx := Lib.hid hC
        clear hC hcl hu hi
        simp only [fillA, if_true, Act.put]
        simp
        simp only [e0]
        clear e0
        go_wp2_with fail
        (with_reducible refine HL.out.mono ?_); rintro e w9 ⟨rfl, hb⟩
        have HX := Lib.hid (HCx.out.step 1 (x := .int .i64 ba) rfl (HCx.out.b.trans (hb.mono HCx.out.b.size)))
        clear hb
        go_wp2
        exact ⟨rfl, HX.out⟩
      · intro L wx vals hi hu hcl hC
        have HCx := Lib.hid hC
        clear hC hcl hu hi
        simp only [fillA, if_true, Act.put]
        simp
        go_wp2
        exact ⟨rfl, HCx.out.quiet 2 rfl⟩
      · intro L wx vals hi hu hcl hC
        simp [predL, predE, Region.binds, UpL] at hu
        have e2 : vals 2 = .pointer (some ⟨S, 0, none⟩) := hC.v 2 (by simp [hu])
        have HCx := Lib.hid hC
        clear hC hcl hu hi
        simp only [fillA, if_true, Act.put]
        simp
        simp only [e2]
        clear e2
        go_wp2
        exact ⟨rfl, HCx.out.quiet 3 rfl⟩
      · intro L wx vals hi hu hcl hC
        simp [predL, predE, Region.binds, UpL] at hu
        have e3 : vals 3 = .pointer (some ⟨S, 0, none⟩) := hC.v 3 (by simp [hu])
        have HCx := Lib.hid hC
        clear hC hcl hu hi
        simp only [fillA, if_true, Act.put]
        simp
        simp only [e3]
        clear e3
        go_wp2
        exact ⟨rfl, HCx.out.quiet 4 rfl⟩
      · intro L wx vals hi hu hcl hC
        simp [predL, predE, Region.binds, UpL] at hu
        have e4 : vals 4 = .pointer (some ⟨S, 2, none⟩) := hC.v 4 (by simp [hu])
        have h0 := (HC2.out wx hC.b)
        have HCx := Lib.hid hC
        clear hC hcl hu hi
        simp only [fillA, if_true, Act.put]
        simp
        simp only [e4]
        clear e4
        go_wp2
        exact ⟨rfl, HCx.out.quiet 5 rfl⟩
      · intro L wx vals hi hu hcl hC
        simp [predL, predE, Region.binds, UpL] at hu
        have e1 : vals 1 = .int .i64 ba := hC.v 1 (by simp [hu])
        have e5 : vals 5 = .int .i64 nx := hC.v 5 (by simp [hu])
        have HL := Lib.hid (HD2.out wx hC.b)
        have HCx := Lib.hid hC
        clear hC hcl hu hi
        simp only [fillA, if_true, Act.put]
        simp
        simp only [e1, e5]
        clear e1 e5
        go_wp2_with fail
        (with_reducible refine HL.out.mono ?_); rintro e w9 ⟨rfl, hb⟩
        have HX := Lib.hid (HCx.out.step 6 (x := .tuple #[.int .i64 dn, .int .i64 dne]) rfl (HCx.out.b.trans (hb.mono HCx.out.b.size)))
        clear hb
        go_wp2
        exact ⟨rfl, HX.out⟩
      · intro L wx vals hi hu hcl hC
        simp [predL, predE, Region.binds, UpL] at hu
        have e6 : vals 6 = .tuple #[.int .i64 dn, .int .i64 dne] := hC.v 6 (by simp [hu])
        have HCx := Lib.hid hC
        clear hC hcl hu hi
        simp only [fillA, if_true, Act.put]
        simp
        simp only [e6]
        clear e6
        go_wp2
        exact ⟨rfl, HCx.out.quiet 7 rfl⟩
      · intro L wx vals hi hu hcl hC
        simp [predL, predE, Region.binds, UpL] at hu
        have e7 : vals 7 = .tuple #[.int .i64 dn, .int .i64 dne] := hC.v 7 (by simp [hu])
        have HCx := Lib.hid hC
        clear hC hcl hu hi
        simp only [fillA, if_true, Act.put]
        simp
        simp only [e7]
        clear e7
        go_wp2
        exact ⟨rfl, HCx.out.quiet 8 rfl⟩
      · intro L wx vals hi hu hcl hC
        simp [predL, predE, Region.binds, UpL] at hu
        have e7 : vals 7 = .tuple #[.int .i64 dn, .int .i64 dne] := hC.v 7 (by simp [hu])
        have HCx := Lib.hid hC
        clear hC hcl hu hi
        simp only [fillA, if_true, Act.put]
        simp
        simp only [e7]
        clear e7
        go_wp2
        exact ⟨rfl, HCx.out.quiet 9 rfl⟩
      · intro L wx vals hi hu hcl hC
        simp [predL, predE, Region.binds, UpL] at hu
        have e8 : vals 8 = .int .i64 dn := hC.v 8 (by simp [hu])
        have HCx := Lib.hid hC
        clear hC hcl hu hi
        simp only [fillA, if_true, Act.put]
        simp
        simp only [e8]
        clear e8
        go_wp2
        exact ⟨rfl, HCx.out.quiet 10 rfl⟩
      · intro L wx vals hi hu hcl hC
        simp [predL, predE, Region.binds, UpL] at hu
        have e9 : vals 9 = .int .i64 dne := hC.v 9 (by simp [hu])
        have HCx := Lib.hid hC
        clear hC hcl hu hi
        simp only [fillA, if_true, Act.put]
        simp
        simp only [e9]
        clear e9
        go_wp2
        exact ⟨rfl, HCx.out.quiet 11 rfl⟩
    · intro wy vals U hC hall
      have e10 : vals 10 = .int .i64 dn := hC.v 10 (hall 10 (by simp))
      have e11 : vals 11 = .int .i64 dne := hC.v 11 (hall 11 (by simp))
      have HY := Lib.hid (HZ.out.trans (((Below.refl _ wz).drew.trans hC.b).mono HZ.out.size))
      simp only [fillA, if_true, Act.put]
      simp
      simp only [e10, e11]
      clear hC hall e10 e11 HC2 HB2 HD2 HD0 HBX HZ
      generalize vals 0 = t_0 at *
      generalize vals 1 = t_1 at *
      generalize vals 2 = t_2 at *
      generalize vals 3 = t_3 at *
      generalize vals 4 = t_4 at *
      generalize vals 5 = t_5 at *
      generalize vals 6 = t_6 at *
      generalize vals 7 = t_7 at *
      generalize vals 8 = t_8 at *
      generalize vals 9 = t_9 at *
      cases hE : snAkB s b
      · have HFN := Lib.hid (HNO0.out wy (HA1.out wy HY.out) hE)
        rw [hE] at hEq
        have hc : ¬ de = 0 ∨ (de = 0 ∧ 32768 ≤ d) ∨ (de = 0 ∧ d < 32768 ∧ dn < d) := by
          by_cases a1 : de = 0
          · by_cases a2 : d < 32768
            · by_cases a3 : d ≤ dn
              · simp [a1, a2, a3] at hEq
              · omega
            · omega
          · exact .inl a1
        clear hEq HNO0 HEND HL HCD HBM HA1 HY HOK HS3 HSet hcl hdist hE
        rcases hc with a1 | ⟨rfl, a1⟩ | ⟨rfl, a1, a2⟩
        · have hb0 : (de != 0) = true := by simpa using a1
          go_wp2
          go_ret
          exact ⟨_, rfl, HFN.out⟩
        · go_wp2
          go_ret
          exact ⟨_, rfl, HFN.out⟩
        · go_wp2
          go_ret
          exact ⟨_, rfl, HFN.out⟩
      · have HE := Lib.hid hE
        rw [hE] at hEq
        have hc : de = 0 ∧ d < 32768 ∧ d ≤ dn := by
          simp only [Bool.true_eq, Bool.and_eq_true, decide_eq_true_eq] at hEq
          exact ⟨hEq.1.1, hEq.1.2, hEq.2⟩
        clear hEq hE HNO0
        obtain ⟨rfl, a1, a2⟩ := hc
        obtain ⟨s1, s2, s3, l⟩ := s
        simp only at hn HL hcl HEND HCD HS3 HOK HE hdist
        have HFY := Lib.hid (fun k (hk : k < l.length) (h : snGone b m l[k] = true) => filter_yes (snGone b m) l hk h)
        have HFN := Lib.hid (fun k (hk : k < l.length) (h : snGone b m l[k] = false) => filter_no (snGone b m) l hk h)
        have HGY := Lib.hid (fun k (hk : k < l.length) (h : snGone b m l[k] = false) => filter_yes (fun x => !snGone b m x) l hk (by rw [h]; rfl))
        have HGN := Lib.hid (fun k (hk : k < l.length) (h : snGone b m l[k] = true) => filter_no (fun x => !snGone b m x) l hk (by rw [h]; rfl))
        obtain ⟨n, hN⟩ : ∃ n, l.length = n := ⟨_, rfl⟩
        have HN := Lib.hid hN
        have hnn : n ≤ 99999 := by omega
        rw [hN] at HCD hcl HEND HS3
        clear hN hn hdist hcl
        have HWm := Lib.hid hm
        clear hm
        go_wp2_with fail
        go_loopw [9, 10, 11] (fun s9 s10 s11 wr => ∃ (k m1 m2 : Nat) (A1 A2 : Option Addr) (c1 c2 : Nat), k ≤ n ∧ m1 ≤ k ∧ m2 ≤ k ∧ s11 = .int .i64 k ∧ s9 = .slice A1 m1 c1 ∧ s10 = .slice A2 m2 c2 ∧ Hid (((l.take k).filter (snGone b m)).length = m1 ∧ ((l.take k).filter (fun x => !snGone b m x)).length = m2) ∧
          Hid (wr.ownsRow (w.heap.size + 1) 3 1 (.slice A1 m1 c1) m1 (srs csI (((l.take k).filter (snGone b m)).map (·.i)))) ∧ Hid (wr.ownsRow (w.heap.size + 1) 38 3 (.slice A2 m2 c2) m2 (srs csN ((l.take k).filter (fun x => !snGone b m x)))) ∧ Hid (Below (w.heap.size + 1) (w.alloc (.cells #[.int .i64 b, .int .u64 m] 47)) wr)) (fun _ _ s11 _ => n - (intOf s11).toNat)
        case atStart => exact ⟨0, 0, 0, none, none, 0, 0, Nat.zero_le _, Nat.le_refl _, Nat.le_refl _, rfl, rfl, rfl, Lib.hid (by simp), Lib.hid (World.ownsRow_nil _ _ _ _), Lib.hid (World.ownsRow_nil _ _ _ _), Lib.hid (HY.out.mono (by simp))⟩
        case round =>
          obtain ⟨k, m1, m2, A1, A2, c1, c2, hk, hm1, hm2, rfl, rfl, rfl, HM, HRO, HRL, HW⟩ := hrel
          have HA2 := Lib.hid (fun (W : World) (hw : Below wr.drew.heap.size wr.drew W) => (HW.out.trans (((Below.refl _ wr).drew.trans hw).mono (by have := HW.out.size; simp at this ⊢; omega)) : Below (w.heap.size + 1) (w.alloc (.cells #[.int .i64 b, .int .u64 m] 47)) W))
          have HA3 := Lib.hid (fun (W : World) (hw : Below (w.heap.size + 1) (w.alloc (.cells #[.int .i64 b, .int .u64 m] 47)) W) => HA1.out W (hw.mono (by simp)))
          have HA4 := Lib.hid (fun (W : World) (hw : Below (w.heap.size + 1) (w.alloc (.cells #[.int .i64 b, .int .u64 m] 47)) W) => HBM.out W (hw.mono (by simp)))
          have cc := HCD.out wr (HA3.out wr HW.out)
          obtain ⟨_, dd3⟩ := cc
          by_cases hlt : k < n
          · have hlt' : (k : Int) < n := by omega
            have hk0 : (0 : Int) ≤ k := by omega
            have hkl : k < l.length := by have := HN.out; omega
            obtain ⟨bb, off, c', e1, hlc, _, hbw, q0, q1, q2⟩ := HL.out k hkl
            obtain ⟨rfl, rfl⟩ : A = some ⟨bb, off, none⟩ ∧ c = c' := by simpa using e1
            have HC3 := Lib.hid (fun (W : World) (hw : Below wr.drew.heap.size wr.drew W) => And.intro (HCD.out W (HA3.out W (HA2.out W hw))).2 (And.intro (((HA3.out W (HA2.out W hw)).cell (p := ⟨bb, off + k * 3, none⟩) hbw).trans q0) (HA4.out W (HA2.out W hw))))
            have HC5 := Lib.hid (fun (W : World) (hw : Below wr.drew.heap.size wr.drew W) => And.intro (HCD.out W (HA3.out W (HA2.out W hw))).2 (And.intro (((HA3.out W (HA2.out W hw)).cell (p := ⟨bb, off + k * 3, none⟩) hbw).trans q0) (And.intro (((HA3.out W (HA2.out W hw)).cell (p := ⟨bb, off + k * 3 + 1, none⟩) hbw).trans q1) (((HA3.out W (HA2.out W hw)).cell (p := ⟨bb, off + k * 3 + 2, none⟩) hbw).trans q2))))
            have hFY := HFY.out k hkl
            have hFN := HFN.out k hkl
            have hGY := HGY.out k hkl
            have hGN := HGN.out k hkl
            have hgone : snGone b m l[k] = (befB l[k].q b || hasB b m l[k].q) := rfl
            have HBF := Lib.hid (fun (W : World) (hw : Below wr.drew.heap.size wr.drew W) => (refBefore_any l[k].q b W).mono fun e w' k => Calm.same k)
            have HHS := Lib.hid (fun (W : World) (hw : Below wr.drew.heap.size wr.drew W) => refHas_any b m l[k].q HWm.out W)
            generalize l[k] = x at *
            obtain ⟨q0, i0, t0⟩ := x
            simp only at hFY hFN hGY hGN hgone HC3 HC5 HBF HHS
            clear q0 q1 q2 HL e1 HFY HFN HGY HGN HCD hlc HA1 HA2 HA3 HA4 HBM HEND HY
            generalize befB q0 b = B1 at *
            generalize hasB b m q0 = B2 at *
            unfold Calm at *
            cases B1
            · cases B2
              · have HNO := Lib.hid (hFN hgone)
                have HNL := Lib.hid (hGY hgone)
                clear hFY hFN hGY hGN
                clear hgone
                go_wp2_with fail
                refine wp_region_looseS 99 (by kernel_rfl) (by kernel_rfl) (StB wr.drew (fun vI => [.pointer (some ⟨S, 0, none⟩), .pointer (some ⟨S, 0, none⟩), .pointer (some ⟨S, 3, none⟩), .slice (some ⟨bb, off, none⟩) n c, .int .i64 (k : Nat), .pointer (some ⟨bb, off + k * 3, none⟩), .pointer (some ⟨bb, off + k * 3, none⟩), .int .i64 q0, .pointer (some ⟨w.heap.size, 0, none⟩), .int .i64 b, .bool false, .bool false, .agg #[.int .i64 b, .int .u64 m], .pointer (some ⟨S, 0, none⟩), .pointer (some ⟨S, 0, none⟩), .pointer (some ⟨S, 3, none⟩), .slice (some ⟨bb, off, none⟩) n c, .int .i64 (k : Nat), .pointer (some ⟨bb, off + k * 3, none⟩), .pointer (some ⟨bb, off + k * 3, none⟩), .int .i64 q0, .bool false, .bool false].getD vI undef)) rfl StB.start ?_ ?_
                · simp only [OblAllS]
                  refine ⟨?_, ?_, ?_, ?_, ?_, ?_, ?_, ?_, ?_, ?_, ?_, ?_, ?_, ?_, ?_, ?_, ?_, ?_, ?_, ?_, ?_, ?_, ?_, trivial⟩
                  · intro L wx vals hi hu hcl hC
                    have HCx := Lib.hid hC
                    clear hC hcl hu hi
                    simp only [fillA, if_true, Act.put]
                    simp
                    go_wp2
                    exact ⟨rfl, HCx.out.quiet 0 rfl⟩
                  · intro L wx vals hi hu hcl hC
                    simp [predL, predE, Region.binds, UpL] at hu
                    have e0 : vals 0 = .pointer (some ⟨S, 0, none⟩) := hC.v 0 (by simp [hu])
                    have HCx := Lib.hid hC
                    clear hC hcl hu hi
                    simp only [fillA, if_true, Act.put]
                    simp
                    simp only [e0]
                    clear e0
                    go_wp2
                    exact ⟨rfl, HCx.out.quiet 1 rfl⟩
                  · intro L wx vals hi hu hcl hC
                    simp [predL, predE, Region.binds, UpL] at hu
                    have e1 : vals 1 = .pointer (some ⟨S, 0, none⟩) := hC.v 1 (by simp [hu])
                    have HCx := Lib.hid hC
                    clear hC hcl hu hi
                    simp only [fillA, if_true, Act.put]
                    simp
                    simp only [e1]
                    clear e1
                    go_wp2
                    exact ⟨rfl, HCx.out.quiet 2 rfl⟩
                  · intro L wx vals hi hu hcl hC
                    simp [predL, predE, Region.binds, UpL] at hu
                    have e2 : vals 2 = .pointer (some ⟨S, 3, none⟩) := hC.v 2 (by simp [hu])
                    have h0 := (HC3.out wx hC.b).1
                    have HCx := Lib.hid hC
                    clear hC hcl hu hi
                    simp only [fillA, if_true, Act.put]
                    simp
                    simp only [e2]
                    clear e2
                    go_wp2
                    exact ⟨rfl, HCx.out.quiet 3 rfl⟩
                  · intro L wx vals hi hu hcl hC
                    have HCx := Lib.hid hC
                    clear hC hcl hu hi
                    simp only [fillA, if_true, Act.put]
                    simp
                    go_wp2
                    exact ⟨rfl, HCx.out.quiet 4 rfl⟩
                  · intro L wx vals hi hu hcl hC
                    simp [predL, predE, Region.binds, UpL] at hu
                    have e3 : vals 3 = .slice (some ⟨bb, off, none⟩) n c := hC.v 3 (by simp [hu])
                    have e4 : vals 4 = .int .i64 (k : Nat) := hC.v 4 (by simp [hu])
                    have HCx := Lib.hid hC
                    clear hC hcl hu hi
                    simp only [fillA, if_true, Act.put]
                    simp
                    simp only [e3, e4]
                    clear e3 e4
                    go_wp2
                    exact ⟨rfl, HCx.out.quiet 5 rfl⟩
                  · intro L wx vals hi hu hcl hC
                    simp [predL, predE, Region.binds, UpL] at hu
                    have e5 : vals 5 = .pointer (some ⟨bb, off + k * 3, none⟩) := hC.v 5 (by simp [hu])
                    have HCx := Lib.hid hC
                    clear hC hcl hu hi
                    simp only [fillA, if_true, Act.put]
                    simp
                    simp only [e5]
                    clear e5
                    go_wp2
                    exact ⟨rfl, HCx.out.quiet 6 rfl⟩
                  · intro L wx vals hi hu hcl hC
                    simp [predL, predE, Region.binds, UpL] at hu
                    have e6 : vals 6 = .pointer (some ⟨bb, off + k * 3, none⟩) := hC.v 6 (by simp [hu])
                    have h0 := (HC3.out wx hC.b).2.1
                    have HCx := Lib.hid hC
                    clear hC hcl hu hi
                    simp only [fillA, if_true, Act.put]
                    simp
                    simp only [e6]
                    clear e6
                    go_wp2
                    exact ⟨rfl, HCx.out.quiet 7 rfl⟩
                  · intro L wx vals hi hu hcl hC
                    have HCx := Lib.hid hC
                    clear hC hcl hu hi
                    simp only [fillA, if_true, Act.put]
                    simp
                    go_wp2
                    exact ⟨rfl, HCx.out.quiet 8 rfl⟩
                  · intro L wx vals hi hu hcl hC
                    simp [predL, predE, Region.binds, UpL] at hu
                    have e8 : vals 8 = .pointer (some ⟨w.heap.size, 0, none⟩) := hC.v 8 (by simp [hu])
                    have h0 := (HC3.out wx hC.b).2.2.1
                    have HCx := Lib.hid hC
                    clear hC hcl hu hi
                    simp only [fillA, if_true, Act.put]
                    simp
                    simp only [e8]
                    clear e8
                    go_wp2
                    exact ⟨rfl, HCx.out.quiet 9 rfl⟩
                  · intro L wx vals hi hu hcl hC
                    simp [predL, predE, Region.binds, UpL] at hu
                    have e7 : vals 7 = .int .i64 q0 := hC.v 7 (by simp [hu])
                    have e9 : vals 9 = .int .i64 b := hC.v 9 (by simp [hu])
                    have HL := Lib.hid (HBF.out wx hC.b)
                    have HCx := Lib.hid hC
                    clear hC hcl hu hi
                    simp only [fillA, if_true, Act.put]
                    simp
                    simp only [e7, e9]
                    clear e7 e9
                    go_wp2_with fail
                    (with_reducible refine HL.out.mono ?_); rintro e w9 ⟨rfl, hb⟩
                    have HX := Lib.hid (HCx.out.step 10 (x := .bool false) rfl (HCx.out.b.trans (hb.mono HCx.out.b.size)))
                    clear hb
                    go_wp2
                    exact ⟨rfl, HX.out⟩
                  · intro L wx vals hi hu hcl hC
                    simp [predL, predE, Region.binds, UpL] at hu
                    have e10 : vals 10 = .bool false := hC.v 10 (by simp [hu])
                    have HCx := Lib.hid hC
                    clear hC hcl hu hi
                    simp only [fillA, if_true, Act.put]
                    simp
                    simp only [e10]
                    clear e10
                    go_wp2
                    exact ⟨rfl, HCx.out.quiet 11 rfl⟩
                  · intro L wx vals hi hu hcl hC
                    simp [predL, predE, Region.binds, UpL] at hu
                    have e11 : vals 11 = .bool false := hC.v 11 (by simp [hu])
                    have h0 := (HC3.out wx hC.b).2.2.1
                    have h1 := (HC3.out wx hC.b).2.2.2
                    have HCx := Lib.hid hC
                    clear hC hcl hu hi
                    simp only [fillA, if_true, Act.put]
                    simp
                    simp only [e11]
                    clear e11
                    go_wp2
                    exact ⟨rfl, HCx.out.quiet 12 rfl⟩
                  · intro L wx vals hi hu hcl hC
                    simp [predL, predE, Region.binds, UpL] at hu
                    have e11 : vals 11 = .bool false := hC.v 11 (by simp [hu])
                    have HCx := Lib.hid hC
                    clear hC hcl hu hi
                    simp only [fillA, if_true, Act.put]
                    simp
                    simp only [e11]
                    clear e11
                    go_wp2
                    exact ⟨rfl, HCx.out.quiet 13 rfl⟩
                  · intro L wx vals hi hu hcl hC
                    simp [predL, predE, Region.binds, UpL] at hu
                    have e11 : vals 11 = .bool false := hC.v 11 (by simp [hu])
                    have e13 : vals 13 = .pointer (some ⟨S, 0, none⟩) := hC.v 13 (by simp [hu])
                    have HCx := Lib.hid hC
                    clear hC hcl hu hi
                    simp only [fillA, if_true, Act.put]
                    simp
                    simp only [e11, e13]
                    clear e11 e13
                    go_wp2
                    exact ⟨rfl, HCx.out.quiet 14 rfl⟩
                  · intro L wx vals hi hu hcl hC
                    simp [predL, predE, Region.binds, UpL] at hu
                    have e11 : vals 11 = .bool false := hC.v 11 (by simp [hu])
                    have e14 : vals 14 = .pointer (some ⟨S, 0, none⟩) := hC.v 14 (by simp [hu])
                    have HCx := Lib.hid hC
                    clear hC hcl hu hi
                    simp only [fillA, if_true, Act.put]
                    simp
                    simp only [e11, e14]
                    clear e11 e14
                    go_wp2
                    exact ⟨rfl, HCx.out.quiet 15 rfl⟩
                  · intro L wx vals hi hu hcl hC
                    simp [predL, predE, Region.binds, UpL] at hu
                    have e11 : vals 11 = .bool false := hC.v 11 (by simp [hu])
                    have e15 : vals 15 = .pointer (some ⟨S, 3, none⟩) := hC.v 15 (by simp [hu])
                    have h0 := (HC3.out wx hC.b).1
                    have HCx := Lib.hid hC
                    clear hC hcl hu hi
                    simp only [fillA, if_true, Act.put]
                    simp
                    simp only [e11, e15]
                    clear e11 e15
                    go_wp2
                    exact ⟨rfl, HCx.out.quiet 16 rfl⟩
                  · intro L wx vals hi hu hcl hC
                    simp [predL, predE, Region.binds, UpL] at hu
                    have e11 : vals 11 = .bool false := hC.v 11 (by simp [hu])
                    have HCx := Lib.hid hC
                    clear hC hcl hu hi
                    simp only [fillA, if_true, Act.put]
                    simp
                    simp only [e11]
                    clear e11
                    go_wp2
                    exact ⟨rfl, HCx.out.quiet 17 rfl⟩
                  · intro L wx vals hi hu hcl hC
                    simp [predL, predE, Region.binds, UpL] at hu
                    have e11 : vals 11 = .bool false := hC.v 11 (by simp [hu])
                    have e16 : vals 16 = .slice (some ⟨bb, off, none⟩) n c := hC.v 16 (by simp [hu])
                    have e17 : vals 17 = .int .i64 (k : Nat) := hC.v 17 (by simp [hu])
                    have HCx := Lib.hid hC
                    clear hC hcl hu hi
                    simp only [fillA, if_true, Act.put]
                    simp
                    simp only [e11, e16, e17]
                    clear e11 e16 e17
                    go_wp2
                    exact ⟨rfl, HCx.out.quiet 18 rfl⟩
                  · intro L wx vals hi hu hcl hC
                    simp [predL, predE, Region.binds, UpL] at hu
                    have e11 : vals 11 = .bool false := hC.v 11 (by simp [hu])
                    have e18 : vals 18 = .pointer (some ⟨bb, off + k * 3, none⟩) := hC.v 18 (by simp [hu])
                    have HCx := Lib.hid hC
                    clear hC hcl hu hi
                    simp only [fillA, if_true, Act.put]
                    simp
                    simp only [e11, e18]
                    clear e11 e18
                    go_wp2
                    exact ⟨rfl, HCx.out.quiet 19 rfl⟩
                  · intro L wx vals hi hu hcl hC
                    simp [predL, predE, Region.binds, UpL] at hu
                    have e11 : vals 11 = .bool false := hC.v 11 (by simp [hu])
                    have e19 : vals 19 = .pointer (some ⟨bb, off + k * 3, none⟩) := hC.v 19 (by simp [hu])
                    have h0 := (HC3.out wx hC.b).2.1
                    have HCx := Lib.hid hC
                    clear hC hcl hu hi
                    simp only [fillA, if_true, Act.put]
                    simp
                    simp only [e11, e19]
                    clear e11 e19
                    go_wp2
                    exact ⟨rfl, HCx.out.quiet 20 rfl⟩
                  · intro L wx vals hi hu hcl hC
                    simp [predL, predE, Region.binds, UpL] at hu
                    have e11 : vals 11 = .bool false := hC.v 11 (by simp [hu])
                    have e12 : vals 12 = .agg #[.int .i64 b, .int .u64 m] := hC.v 12 (by simp [hu])
                    have e20 : vals 20 = .int .i64 q0 := hC.v 20 (by simp [hu])
                    have HL := Lib.hid (HHS.out wx hC.b)
                    have HCx := Lib.hid hC
                    clear hC hcl hu hi
                    simp only [fillA, if_true, Act.put]
                    simp
                    simp only [e11, e12, e20]
                    clear e11 e12 e20
                    go_wp2_with fail
                    (with_reducible refine HL.out.mono ?_); rintro e w9 ⟨rfl, hb⟩
                    have HX := Lib.hid (HCx.out.step 21 (x := .bool false) rfl (HCx.out.b.trans (hb.mono HCx.out.b.size)))
                    clear hb
                    go_wp2
                    exact ⟨rfl, HX.out⟩
                  · intro L wx vals hi hu hcl hC
                    simp [predL, predE, Region.binds, UpL] at hu
                    have e11 : vals 11 = .bool false := hC.v 11 (by simp [hu])
                    have e21 : vals 21 = .bool false := hC.v 21 (by simp [hu])
                    have HCx := Lib.hid hC
                    clear hC hcl hu hi
                    simp only [fillA, if_true, Act.put]
                    simp
                    simp only [e11, e21]
                    clear e11 e21
                    go_wp2
                    exact ⟨rfl, HCx.out.quiet 22 rfl⟩
                · intro wz2 vals U hC hall
                  have e22 : vals 22 = .bool false := hC.v 22 (hall 22 (by simp))
                  have HB := Lib.hid (HW.out.trans (((Below.refl _ wr).drew.trans hC.b).mono (by have := HW.out.size; simp at this ⊢; omega)))
                  have HRO := Lib.hid (row_from HRO.out ((Below.refl _ wr).drew.trans hC.b))
                  have HRL := Lib.hid (row_from HRL.out ((Below.refl _ wr).drew.trans hC.b))
                  obtain ⟨c3, r0, r1, r2⟩ := HC5.out wz2 hC.b
                  simp only [fillA, if_true, Act.put]
                  simp
                  simp only [e22]
                  clear hC hall e22 HC3 HC5 HW HBF HHS
                  generalize vals 0 = t_0 at *
                  generalize vals 1 = t_1 at *
                  generalize vals 2 = t_2 at *
                  generalize vals 3 = t_3 at *
                  generalize vals 4 = t_4 at *
                  generalize vals 5 = t_5 at *
                  generalize vals 6 = t_6 at *
                  generalize vals 7 = t_7 at *
                  generalize vals 8 = t_8 at *
                  generalize vals 9 = t_9 at *
                  generalize vals 10 = t_10 at *
                  generalize vals 11 = t_11 at *
                  generalize vals 12 = t_12 at *
                  generalize vals 13 = t_13 at *
                  generalize vals 14 = t_14 at *
                  generalize vals 15 = t_15 at *
                  generalize vals 16 = t_16 at *
                  generalize vals 17 = t_17 at *
                  generalize vals 18 = t_18 at *
                  generalize vals 19 = t_19 at *
                  generalize vals 20 = t_20 at *
                  generalize vals 21 = t_21 at *
                  obtain ⟨A3, c4, w3, hrun, hv3, hb3, hk3⟩ := snElt.app_new2 ⟨q0, i0, t0⟩ HRL.out (by omega) (by have := HB.out.size; simp at this; omega)
                  have HB2 := Lib.hid (HB.out.trans (hb3.mono (Nat.le_refl _)))
                  have HRO2 := Lib.hid (show w3.ownsRow (w.heap.size + 1) 3 1 (.slice A1 m1 c1) m1 (srs csI (((l.take (k + 1)).filter (snGone b m)).map (·.i))) from by rw [HNO.out]; exact own_beside2 HRL.out HRO.out (by decide) hk3)
                  have HRL2 := Lib.hid (show w3.ownsRow (w.heap.size + 1) 38 3 (.slice A3 (m2 + 1) c4) (m2 + 1) (srs csN ((l.take (k + 1)).filter (fun x => !snGone b m x))) from by rw [HNL.out]; exact hv3)
                  have HLN := Lib.hid (show ((l.take (k + 1)).filter (snGone b m)).length = m1 ∧ ((l.take (k + 1)).filter (fun x => !snGone b m x)).length = m2 + 1 by rw [HNO.out, HNL.out, List.length_append, HM.out.2]; exact ⟨HM.out.1, rfl⟩)
                  unfold csN at hrun
                  clear hv3 hb3 hk3 HB HRO HRL
                  go_wp2_with (at_builtin; refine wpList_append_run rfl (.tmp 84) (.tmp 92) 39 rfl rfl rfl hrun ?_)
                  go_roundw
                  case rel => exact ⟨k + 1, m1, m2 + 1, A1, A3, c1, c4, by omega, by omega, by omega, by go_num, rfl, rfl, HLN, HRO2, HRL2, HB2⟩
                  case measure => simp [intOf]; omega
              · have HNO := Lib.hid (hFY hgone)
                have HNL := Lib.hid (hGN hgone)
                clear hFY hFN hGY hGN
                clear hgone
                go_wp2_with fail
                refine wp_region_looseS 99 (by kernel_rfl) (by kernel_rfl) (StB wr.drew (fun vI => [.pointer (some ⟨S, 0, none⟩), .pointer (some ⟨S, 0, none⟩), .pointer (some ⟨S, 3, none⟩), .slice (some ⟨bb, off, none⟩) n c, .int .i64 (k : Nat), .pointer (some ⟨bb, off + k * 3, none⟩), .pointer (some ⟨bb, off + k * 3, none⟩), .int .i64 q0, .pointer (some ⟨w.heap.size, 0, none⟩), .int .i64 b, .bool false, .bool false, .agg #[.int .i64 b, .int .u64 m], .pointer (some ⟨S, 0, none⟩), .pointer (some ⟨S, 0, none⟩), .pointer (some ⟨S, 3, none⟩), .slice (some ⟨bb, off, none⟩) n c, .int .i64 (k : Nat), .pointer (some ⟨bb, off + k * 3, none⟩), .pointer (some ⟨bb, off + k * 3, none⟩), .int .i64 q0, .bool true, .bool true].getD vI undef)) rfl StB.start ?_ ?_
                · simp only [OblAllS]
                  refine ⟨?_, ?_, ?_, ?_, ?_, ?_, ?_, ?_, ?_, ?_, ?_, ?_, ?_, ?_, ?_, ?_, ?_, ?_, ?_, ?_, ?_, ?_, ?_, trivial⟩
                  · intro L wx vals hi hu hcl hC
                    have HCx := Lib.hid hC
                    clear hC hcl hu hi
                    simp only [fillA, if_true, Act.put]
                    simp
                    go_wp2
                    exact ⟨rfl, HCx.out.quiet 0 rfl⟩
                  · intro L wx vals hi hu hcl hC
                    simp [predL, predE, Region.binds, UpL] at hu
                    have e0 : vals 0 = .pointer (some ⟨S, 0, none⟩) := hC.v 0 (by simp [hu])
                    have HCx := Lib.hid hC
                    clear hC hcl hu hi
                    simp only [fillA, if_true, Act.put]
                    simp
                    simp only [e0]
                    clear e0
                    go_wp2
                    exact ⟨rfl, HCx.out.quiet 1 rfl⟩
                  · intro L wx vals hi hu hcl hC
                    simp [predL, predE, Region.binds, UpL] at hu
                    have e1 : vals 1 = .pointer (some ⟨S, 0, none⟩) := hC.v 1 (by simp [hu])
                    have HCx := Lib.hid hC
                    clear hC hcl hu hi
                    simp only [fillA, if_true, Act.put]
                    simp
                    simp only [e1]
                    clear e1
                    go_wp2
                    exact ⟨rfl, HCx.out.quiet 2 rfl⟩
                  · intro L wx vals hi hu hcl hC
                    simp [predL, predE, Region.binds, UpL] at hu
                    have e2 : vals 2 = .pointer (some ⟨S, 3, none⟩) := hC.v 2 (by simp [hu])
                    have h0 := (HC3.out wx hC.b).1
                    have HCx := Lib.hid hC
                    clear hC hcl hu hi
                    simp only [fillA, if_true, Act.put]
                    simp
                    simp only [e2]
                    clear e2
                    go_wp2
                    exact ⟨rfl, HCx.out.quiet 3 rfl⟩
                  · intro L wx vals hi hu hcl hC
                    have HCx := Lib.hid hC
                    clear hC hcl hu hi
                    simp only [fillA, if_true, Act.put]
                    simp
                    go_wp2
                    exact ⟨rfl, HCx.out.quiet 4 rfl⟩
                  · intro L wx vals hi hu hcl hC
                    simp [predL, predE, Region.binds, UpL] at hu
                    have e3 : vals 3 = .slice (some ⟨bb, off, none⟩) n c := hC.v 3 (by simp [hu])
                    have e4 : vals 4 = .int .i64 (k : Nat) := hC.v 4 (by simp [hu])
                    have HCx := Lib.hid hC
                    clear hC hcl hu hi
                    simp only [fillA, if_true, Act.put]
                    simp
                    simp only [e3, e4]
                    clear e3 e4
                    go_wp2
                    exact ⟨rfl, HCx.out.quiet 5 rfl⟩
                  · intro L wx vals hi hu hcl hC
                    simp [predL, predE, Region.binds, UpL] at hu
                    have e5 : vals 5 = .pointer (some ⟨bb, off + k * 3, none⟩) := hC.v 5 (by simp [hu])
                    have HCx := Lib.hid hC
                    clear hC hcl hu hi
                    simp only [fillA, if_true, Act.put]
                    simp
                    simp only [e5]
                    clear e5
                    go_wp2
                    exact ⟨rfl, HCx.out.quiet 6 rfl⟩
                  · intro L wx vals hi hu hcl hC
                    simp [predL, predE, Region.binds, UpL] at hu
                    have e6 : vals 6 = .pointer (some ⟨bb, off + k * 3, none⟩) := hC.v 6 (by simp [hu])
                    have h0 := (HC3.out wx hC.b).2.1
                    have HCx := Lib.hid hC
                    clear hC hcl hu hi
                    simp only [fillA, if_true, Act.put]
                    simp
                    simp only [e6]
                    clear e6
                    go_wp2
                    exact ⟨rfl, HCx.out.quiet 7 rfl⟩
                  · intro L wx vals hi hu hcl hC
                    have HCx := Lib.hid hC
                    clear hC hcl hu hi
                    simp only [fillA, if_true, Act.put]
                    simp
                    go_wp2
                    exact ⟨rfl, HCx.out.quiet 8 rfl⟩
                  · intro L wx vals hi hu hcl hC
                    simp [predL, predE, Region.binds, UpL] at hu
                    have e8 : vals 8 = .pointer (some ⟨w.heap.size, 0, none⟩) := hC.v 8 (by simp [hu])
                    have h0 := (HC3.out wx hC.b).2.2.1
                    have HCx := Lib.hid hC
                    clear hC hcl hu hi
                    simp only [fillA, if_true, Act.put]
                    simp
                    simp only [e8]
                    clear e8
                    go_wp2
                    exact ⟨rfl, HCx.out.quiet 9 rfl⟩
                  · intro L wx vals hi hu hcl hC
                    simp [predL, predE, Region.binds, UpL] at hu
                    have e7 : vals 7 = .int .i64 q0 := hC.v 7 (by simp [hu])
                    have e9 : vals 9 = .int .i64 b := hC.v 9 (by simp [hu])
                    have HL := Lib.hid (HBF.out wx hC.b)
                    have HCx := Lib.hid hC
                    clear hC hcl hu hi
                    simp only [fillA, if_true, Act.put]
                    simp
                    simp only [e7, e9]
                    clear e7 e9
                    go_wp2_with fail
                    (with_reducible refine HL.out.mono ?_); rintro e w9 ⟨rfl, hb⟩
                    have HX := Lib.hid (HCx.out.step 10 (x := .bool false) rfl (HCx.out.b.trans (hb.mono HCx.out.b.size)))
                    clear hb
                    go_wp2
                    exact ⟨rfl, HX.out⟩
                  · intro L wx vals hi hu hcl hC
                    simp [predL, predE, Region.binds, UpL] at hu
                    have e10 : vals 10 = .bool false := hC.v 10 (by simp [hu])
                    have HCx := Lib.hid hC
                    clear hC hcl hu hi
                    simp only [fillA, if_true, Act.put]
                    simp
                    simp only [e10]
                    clear e10
                    go_wp2
                    exact ⟨rfl, HCx.out.quiet 11 rfl⟩
                  · intro L wx vals hi hu hcl hC
                    simp [predL, predE, Region.binds, UpL] at hu
                    have e11 : vals 11 = .bool false := hC.v 11 (by simp [hu])
                    have h0 := (HC3.out wx hC.b).2.2.1
                    have h1 := (HC3.out wx hC.b).2.2.2
                    have HCx := Lib.hid hC
                    clear hC hcl hu hi
                    simp only [fillA, if_true, Act.put]
                    simp
                    simp only [e11]
                    clear e11
                    go_wp2
                    exact ⟨rfl, HCx.out.quiet 12 rfl⟩
                  · intro L wx vals hi hu hcl hC
                    simp [predL, predE, Region.binds, UpL] at hu
                    have e11 : vals 11 = .bool false := hC.v 11 (by simp [hu])
                    have HCx := Lib.hid hC
                    clear hC hcl hu hi
                    simp only [fillA, if_true, Act.put]
                    simp
                    simp only [e11]
                    clear e11
                    go_wp2
                    exact ⟨rfl, HCx.out.quiet 13 rfl⟩
                  · intro L wx vals hi hu hcl hC
                    simp [predL, predE, Region.binds, UpL] at hu
                    have e11 : vals 11 = .bool false := hC.v 11 (by simp [hu])
                    have e13 : vals 13 = .pointer (some ⟨S, 0, none⟩) := hC.v 13 (by simp [hu])
                    have HCx := Lib.hid hC
                    clear hC hcl hu hi
                    simp only [fillA, if_true, Act.put]
                    simp
                    simp only [e11, e13]
                    clear e11 e13
                    go_wp2
                    exact ⟨rfl, HCx.out.quiet 14 rfl⟩
                  · intro L wx vals hi hu hcl hC
                    simp [predL, predE, Region.binds, UpL] at hu
                    have e11 : vals 11 = .bool false := hC.v 11 (by simp [hu])
                    have e14 : vals 14 = .pointer (some ⟨S, 0, none⟩) := hC.v 14 (by simp [hu])
                    have HCx := Lib.hid hC
                    clear hC hcl hu hi
                    simp only [fillA, if_true, Act.put]
                    simp
                    simp only [e11, e14]
                    clear e11 e14
                    go_wp2
                    exact ⟨rfl, HCx.out.quiet 15 rfl⟩
                  · intro L wx vals hi hu hcl hC
                    simp [predL, predE, Region.binds, UpL] at hu
                    have e11 : vals 11 = .bool false := hC.v 11 (by simp [hu])
                    have e15 : vals 15 = .pointer (some ⟨S, 3, none⟩) := hC.v 15 (by simp [hu])
                    have h0 := (HC3.out wx hC.b).1
                    have HCx := Lib.hid hC
                    clear hC hcl hu hi
                    simp only [fillA, if_true, Act.put]
                    simp
                    simp only [e11, e15]
                    clear e11 e15
                    go_wp2
                    exact ⟨rfl, HCx.out.quiet 16 rfl⟩
                  · intro L wx vals hi hu hcl hC
                    simp [predL, predE, Region.binds, UpL] at hu
                    have e11 : vals 11 = .bool false := hC.v 11 (by simp [hu])
                    have HCx := Lib.hid hC
                    clear hC hcl hu hi
                    simp only [fillA, if_true, Act.put]
                    simp
                    simp only [e11]
                    clear e11
                    go_wp2
                    exact ⟨rfl, HCx.out.quiet 17 rfl⟩
                  · intro L wx vals hi hu hcl hC
                    simp [predL, predE, Region.binds, UpL] at hu
                    have e11 : vals 11 = .bool false := hC.v 11 (by simp [hu])
                    have e16 : vals 16 = .slice (some ⟨bb, off, none⟩) n c := hC.v 16 (by simp [hu])
                    have e17 : vals 17 = .int .i64 (k : Nat) := hC.v 17 (by simp [hu])
                    have HCx := Lib.hid hC
                    clear hC hcl hu hi
                    simp only [fillA, if_true, Act.put]
                    simp
                    simp only [e11, e16, e17]
                    clear e11 e16 e17
                    go_wp2
                    exact ⟨rfl, HCx.out.quiet 18 rfl⟩
                  · intro L wx vals hi hu hcl hC
                    simp [predL, predE, Region.binds, UpL] at hu
                    have e11 : vals 11 = .bool false := hC.v 11 (by simp [hu])
                    have e18 : vals 18 = .pointer (some ⟨bb, off + k * 3, none⟩) := hC.v 18 (by simp [hu])
                    have HCx := Lib.hid hC
                    clear hC hcl hu hi
                    simp only [fillA, if_true, Act.put]
                    simp
                    simp only [e11, e18]
                    clear e11 e18
                    go_wp2
                    exact ⟨rfl, HCx.out.quiet 19 rfl⟩
                  · intro L wx vals hi hu hcl hC
                    simp [predL, predE, Region.binds, UpL] at hu
                    have e11 : vals 11 = .bool false := hC.v 11 (by simp [hu])
                    have e19 : vals 19 = .pointer (some ⟨bb, off + k * 3, none⟩) := hC.v 19 (by simp [hu])
                    have h0 := (HC3.out wx hC.b).2.1
                    have HCx := Lib.hid hC
                    clear hC hcl hu hi
                    simp only [fillA, if_true, Act.put]
                    simp
                    simp only [e11, e19]
                    clear e11 e19
                    go_wp2
                    exact ⟨rfl, HCx.out.quiet 20 rfl⟩
                  · intro L wx vals hi hu hcl hC
                    simp [predL, predE, Region.binds, UpL] at hu
                    have e11 : vals 11 = .bool false := hC.v 11 (by simp [hu])
                    have e12 : vals 12 = .agg #[.int .i64 b, .int .u64 m] := hC.v 12 (by simp [hu])
                    have e20 : vals 20 = .int .i64 q0 := hC.v 20 (by simp [hu])
                    have HL := Lib.hid (HHS.out wx hC.b)
                    have HCx := Lib.hid hC
                    clear hC hcl hu hi
                    simp only [fillA, if_true, Act.put]
                    simp
                    simp only [e11, e12, e20]
                    clear e11 e12 e20
                    go_wp2_with fail
                    (with_reducible refine HL.out.mono ?_); rintro e w9 ⟨rfl, hb⟩
                    have HX := Lib.hid (HCx.out.step 21 (x := .bool true) rfl (HCx.out.b.trans (hb.mono HCx.out.b.size)))
                    clear hb
                    go_wp2
                    exact ⟨rfl, HX.out⟩
                  · intro L wx vals hi hu hcl hC
                    simp [predL, predE, Region.binds, UpL] at hu
                    have e11 : vals 11 = .bool false := hC.v 11 (by simp [hu])
                    have e21 : vals 21 = .bool true := hC.v 21 (by simp [hu])
                    have HCx := Lib.hid hC
                    clear hC hcl hu hi
                    simp only [fillA, if_true, Act.put]
                    simp
                    simp only [e11, e21]
                    clear e11 e21
                    go_wp2
                    exact ⟨rfl, HCx.out.quiet 22 rfl⟩
                · intro wz2 vals U hC hall
                  have e22 : vals 22 = .bool true := hC.v 22 (hall 22 (by simp))
                  have HB := Lib.hid (HW.out.trans (((Below.refl _ wr).drew.trans hC.b).mono (by have := HW.out.size; simp at this ⊢; omega)))
                  have HRO := Lib.hid (row_from HRO.out ((Below.refl _ wr).drew.trans hC.b))
                  have HRL := Lib.hid (row_from HRL.out ((Below.refl _ wr).drew.trans hC.b))
                  obtain ⟨c3, r0, r1, r2⟩ := HC5.out wz2 hC.b
                  simp only [fillA, if_true, Act.put]
                  simp
                  simp only [e22]
                  clear hC hall e22 HC3 HC5 HW HBF HHS
                  generalize vals 0 = t_0 at *
                  generalize vals 1 = t_1 at *
                  generalize vals 2 = t_2 at *
                  generalize vals 3 = t_3 at *
                  generalize vals 4 = t_4 at *
                  generalize vals 5 = t_5 at *
                  generalize vals 6 = t_6 at *
                  generalize vals 7 = t_7 at *
                  generalize vals 8 = t_8 at *
                  generalize vals 9 = t_9 at *
                  generalize vals 10 = t_10 at *
                  generalize vals 11 = t_11 at *
                  generalize vals 12 = t_12 at *
                  generalize vals 13 = t_13 at *
                  generalize vals 14 = t_14 at *
                  generalize vals 15 = t_15 at *
                  generalize vals 16 = t_16 at *
                  generalize vals 17 = t_17 at *
                  generalize vals 18 = t_18 at *
                  generalize vals 19 = t_19 at *
                  generalize vals 20 = t_20 at *
                  generalize vals 21 = t_21 at *
                  obtain ⟨A3, c4, w3, hrun, hv3, hb3, hk3⟩ := intElt.app_new2 i0 HRO.out (by omega) (by have := HB.out.size; simp at this; omega)
                  have HB2 := Lib.hid (HB.out.trans (hb3.mono (Nat.le_refl _)))
                  have HRL2 := Lib.hid (show w3.ownsRow (w.heap.size + 1) 38 3 (.slice A2 m2 c2) m2 (srs csN ((l.take (k + 1)).filter (fun x => !snGone b m x))) from by rw [HNL.out]; exact own_beside2 HRO.out HRL.out (by decide) hk3)
                  have HRO2 := Lib.hid (show w3.ownsRow (w.heap.size + 1) 3 1 (.slice A3 (m1 + 1) c4) (m1 + 1) (srs csI (((l.take (k + 1)).filter (snGone b m)).map (·.i))) from by rw [HNO.out, List.map_append]; exact hv3)
                  have HLN := Lib.hid (show ((l.take (k + 1)).filter (snGone b m)).length = m1 + 1 ∧ ((l.take (k + 1)).filter (fun x => !snGone b m x)).length = m2 by rw [HNO.out, HNL.out, List.length_append, HM.out.1]; exact ⟨rfl, HM.out.2⟩)
                  unfold csI at hrun
                  clear hv3 hb3 hk3 HB HRO HRL
                  go_wp2_with (at_builtin; refine wpList_append_run rfl (.tmp 73) (.tmp 82) 22 rfl rfl rfl hrun ?_)
                  go_roundw
                  case rel => exact ⟨k + 1, m1 + 1, m2, A3, A2, c4, c2, by omega, by omega, by omega, by go_num, rfl, rfl, HLN, HRO2, HRL2, HB2⟩
                  case measure => simp [intOf]; omega
            · have HNO := Lib.hid (hFY (hgone.trans (Bool.true_or _)))
              have HNL := Lib.hid (hGN (hgone.trans (Bool.true_or _)))
              clear hFY hFN hGY hGN
              clear hgone
              go_wp2_with fail
              refine wp_region_looseS 99 (by kernel_rfl) (by kernel_rfl) (StB wr.drew (fun vI => [.pointer (some ⟨S, 0, none⟩), .pointer (some ⟨S, 0, none⟩), .pointer (some ⟨S, 3, none⟩), .slice (some ⟨bb, off, none⟩) n c, .int .i64 (k : Nat), .pointer (some ⟨bb, off + k * 3, none⟩), .pointer (some ⟨bb, off + k * 3, none⟩), .int .i64 q0, .pointer (some ⟨w.heap.size, 0, none⟩), .int .i64 b, .bool true, .bool true, undef, undef, undef, undef, undef, undef, undef, undef, undef, undef, .bool true].getD vI undef)) rfl StB.start ?_ ?_
              · simp only [OblAllS]
                refine ⟨?_, ?_, ?_, ?_, ?_, ?_, ?_, ?_, ?_, ?_, ?_, ?_, ?_, ?_, ?_, ?_, ?_, ?_, ?_, ?_, ?_, ?_, ?_, trivial⟩
                · intro L wx vals hi hu hcl hC
                  have HCx := Lib.hid hC
                  clear hC hcl hu hi
                  simp only [fillA, if_true, Act.put]
                  simp
                  go_wp2
                  exact ⟨rfl, HCx.out.quiet 0 rfl⟩
                · intro L wx vals hi hu hcl hC
                  simp [predL, predE, Region.binds, UpL] at hu
                  have e0 : vals 0 = .pointer (some ⟨S, 0, none⟩) := hC.v 0 (by simp [hu])
                  have HCx := Lib.hid hC
                  clear hC hcl hu hi
                  simp only [fillA, if_true, Act.put]
                  simp
                  simp only [e0]
                  clear e0
                  go_wp2
                  exact ⟨rfl, HCx.out.quiet 1 rfl⟩
                · intro L wx vals hi hu hcl hC
                  simp [predL, predE, Region.binds, UpL] at hu
                  have e1 : vals 1 = .pointer (some ⟨S, 0, none⟩) := hC.v 1 (by simp [hu])
                  have HCx := Lib.hid hC
                  clear hC hcl hu hi
                  simp only [fillA, if_true, Act.put]
                  simp
                  simp only [e1]
                  clear e1
                  go_wp2
                  exact ⟨rfl, HCx.out.quiet 2 rfl⟩
                · intro L wx vals hi hu hcl hC
                  simp [predL, predE, Region.binds, UpL] at hu
                  have e2 : vals 2 = .pointer (some ⟨S, 3, none⟩) := hC.v 2 (by simp [hu])
                  have h0 := (HC3.out wx hC.b).1
                  have HCx := Lib.hid hC
                  clear hC hcl hu hi
                  simp only [fillA, if_true, Act.put]
                  simp
                  simp only [e2]
                  clear e2
                  go_wp2
                  exact ⟨rfl, HCx.out.quiet 3 rfl⟩
                · intro L wx vals hi hu hcl hC
                  have HCx := Lib.hid hC
                  clear hC hcl hu hi
                  simp only [fillA, if_true, Act.put]
                  simp
                  go_wp2
                  exact ⟨rfl, HCx.out.quiet 4 rfl⟩
                · intro L wx vals hi hu hcl hC
                  simp [predL, predE, Region.binds, UpL] at hu
                  have e3 : vals 3 = .slice (some ⟨bb, off, none⟩) n c := hC.v 3 (by simp [hu])
                  have e4 : vals 4 = .int .i64 (k : Nat) := hC.v 4 (by simp [hu])
                  have HCx := Lib.hid hC
                  clear hC hcl hu hi
                  simp only [fillA, if_true, Act.put]
                  simp
                  simp only [e3, e4]
                  clear e3 e4
                  go_wp2
                  exact ⟨rfl, HCx.out.quiet 5 rfl⟩
                · intro L wx vals hi hu hcl hC
                  simp [predL, predE, Region.binds, UpL] at hu
                  have e5 : vals 5 = .pointer (some ⟨bb, off + k * 3, none⟩) := hC.v 5 (by simp [hu])
                  have HCx := Lib.hid hC
                  clear hC hcl hu hi
                  simp only [fillA, if_true, Act.put]
                  simp
                  simp only [e5]
                  clear e5
                  go_wp2
                  exact ⟨rfl, HCx.out.quiet 6 rfl⟩
                · intro L wx vals hi hu hcl hC
                  simp [predL, predE, Region.binds, UpL] at hu
                  have e6 : vals 6 = .pointer (some ⟨bb, off + k * 3, none⟩) := hC.v 6 (by simp [hu])
                  have h0 := (HC3.out wx hC.b).2.1
                  have HCx := Lib.hid hC
                  clear hC hcl hu hi
                  simp only [fillA, if_true, Act.put]
                  simp
                  simp only [e6]
                  clear e6
                  go_wp2
                  exact ⟨rfl, HCx.out.quiet 7 rfl⟩
                · intro L wx vals hi hu hcl hC
                  have HCx := Lib.hid hC
                  clear hC hcl hu hi
                  simp only [fillA, if_true, Act.put]
                  simp
                  go_wp2
                  exact ⟨rfl, HCx.out.quiet 8 rfl⟩
                · intro L wx vals hi hu hcl hC
                  simp [predL, predE, Region.binds, UpL] at hu
                  have e8 : vals 8 = .pointer (some ⟨w.heap.size, 0, none⟩) := hC.v 8 (by simp [hu])
                  have h0 := (HC3.out wx hC.b).2.2.1
                  have HCx := Lib.hid hC
                  clear hC hcl hu hi
                  simp only [fillA, if_true, Act.put]
                  simp
                  simp only [e8]
                  clear e8
                  go_wp2
                  exact ⟨rfl, HCx.out.quiet 9 rfl⟩
                · intro L wx vals hi hu hcl hC
                  simp [predL, predE, Region.binds, UpL] at hu
                  have e7 : vals 7 = .int .i64 q0 := hC.v 7 (by simp [hu])
                  have e9 : vals 9 = .int .i64 b := hC.v 9 (by simp [hu])
                  have HL := Lib.hid (HBF.out wx hC.b)
                  have HCx := Lib.hid hC
                  clear hC hcl hu hi
                  simp only [fillA, if_true, Act.put]
                  simp
                  simp only [e7, e9]
                  clear e7 e9
                  go_wp2_with fail
                  (with_reducible refine HL.out.mono ?_); rintro e w9 ⟨rfl, hb⟩
                  have HX := Lib.hid (HCx.out.step 10 (x := .bool true) rfl (HCx.out.b.trans (hb.mono HCx.out.b.size)))
                  clear hb
                  go_wp2
                  exact ⟨rfl, HX.out⟩
                · intro L wx vals hi hu hcl hC
                  simp [predL, predE, Region.binds, UpL] at hu
                  have e10 : vals 10 = .bool true := hC.v 10 (by simp [hu])
                  have HCx := Lib.hid hC
                  clear hC hcl hu hi
                  simp only [fillA, if_true, Act.put]
                  simp
                  simp only [e10]
                  clear e10
                  go_wp2
                  exact ⟨rfl, HCx.out.quiet 11 rfl⟩
                · intro L wx vals hi hu hcl hC
                  simp [predL, predE, Region.binds, UpL] at hu
                  have e11 : vals 11 = .bool true := hC.v 11 (by simp [hu])
                  have HCx := Lib.hid hC
                  clear hC hcl hu hi
                  simp only [fillA, if_true, Act.put]
                  simp
                  simp only [e11]
                  clear e11
                  go_wp2
                  exact ⟨rfl, HCx.out.quiet 12 rfl⟩
                · intro L wx vals hi hu hcl hC
                  simp [predL, predE, Region.binds, UpL] at hu
                  have e11 : vals 11 = .bool true := hC.v 11 (by simp [hu])
                  have HCx := Lib.hid hC
                  clear hC hcl hu hi
                  simp only [fillA, if_true, Act.put]
                  simp
                  simp only [e11]
                  clear e11
                  go_wp2
                  exact ⟨rfl, HCx.out.quiet 13 rfl⟩
                · intro L wx vals hi hu hcl hC
                  simp [predL, predE, Region.binds, UpL] at hu
                  have e11 : vals 11 = .bool true := hC.v 11 (by simp [hu])
                  have HCx := Lib.hid hC
                  clear hC hcl hu hi
                  simp only [fillA, if_true, Act.put]
                  simp
                  simp only [e11]
                  clear e11
                  go_wp2
                  exact ⟨rfl, HCx.out.quiet 14 rfl⟩
                · intro L wx vals hi hu hcl hC
                  simp [predL, predE, Region.binds, UpL] at hu
                  have e11 : vals 11 = .bool true := hC.v 11 (by simp [hu])
                  have HCx := Lib.hid hC
                  clear hC hcl hu hi
                  simp only [fillA, if_true, Act.put]
                  simp
                  simp only [e11]
                  clear e11
                  go_wp2
                  exact ⟨rfl, HCx.out.quiet 15 rfl⟩
                · intro L wx vals hi hu hcl hC
                  simp [predL, predE, Region.binds, UpL] at hu
                  have e11 : vals 11 = .bool true := hC.v 11 (by simp [hu])
                  have HCx := Lib.hid hC
                  clear hC hcl hu hi
                  simp only [fillA, if_true, Act.put]
                  simp
                  simp only [e11]
                  clear e11
                  go_wp2
                  exact ⟨rfl, HCx.out.quiet 16 rfl⟩
                · intro L wx vals hi hu hcl hC
                  simp [predL, predE, Region.binds, UpL] at hu
                  have e11 : vals 11 = .bool true := hC.v 11 (by simp [hu])
                  have HCx := Lib.hid hC
                  clear hC hcl hu hi
                  simp only [fillA, if_true, Act.put]
                  simp
                  simp only [e11]
                  clear e11
                  go_wp2
                  exact ⟨rfl, HCx.out.quiet 17 rfl⟩
                · intro L wx vals hi hu hcl hC
                  simp [predL, predE, Region.binds, UpL] at hu
                  have e11 : vals 11 = .bool true := hC.v 11 (by simp [hu])
                  have HCx := Lib.hid hC
                  clear hC hcl hu hi
                  simp only [fillA, if_true, Act.put]
                  simp
                  simp only [e11]
                  clear e11
                  go_wp2
                  exact ⟨rfl, HCx.out.quiet 18 rfl⟩
                · intro L wx vals hi hu hcl hC
                  simp [predL, predE, Region.binds, UpL] at hu
                  have e11 : vals 11 = .bool true := hC.v 11 (by simp [hu])
                  have HCx := Lib.hid hC
                  clear hC hcl hu hi
                  simp only [fillA, if_true, Act.put]
                  simp
                  simp only [e11]
                  clear e11
                  go_wp2
                  exact ⟨rfl, HCx.out.quiet 19 rfl⟩
                · intro L wx vals hi hu hcl hC
                  simp [predL, predE, Region.binds, UpL] at hu
                  have e11 : vals 11 = .bool true := hC.v 11 (by simp [hu])
                  have HCx := Lib.hid hC
                  clear hC hcl hu hi
                  simp only [fillA, if_true, Act.put]
                  simp
                  simp only [e11]
                  clear e11
                  go_wp2
                  exact ⟨rfl, HCx.out.quiet 20 rfl⟩
                · intro L wx vals hi hu hcl hC
                  simp [predL, predE, Region.binds, UpL] at hu
                  have e11 : vals 11 = .bool true := hC.v 11 (by simp [hu])
                  have HCx := Lib.hid hC
                  clear hC hcl hu hi
                  simp only [fillA, if_true, Act.put]
                  simp
                  simp only [e11]
                  clear e11
                  go_wp2
                  exact ⟨rfl, HCx.out.quiet 21 rfl⟩
                · intro L wx vals hi hu hcl hC
                  simp [predL, predE, Region.binds, UpL] at hu
                  have e11 : vals 11 = .bool true := hC.v 11 (by simp [hu])
                  have HCx := Lib.hid hC
                  clear hC hcl hu hi
                  simp only [fillA, if_true, Act.put]
                  simp
                  simp only [e11]
                  clear e11
                  go_wp2
                  exact ⟨rfl, HCx.out.quiet 22 rfl⟩
              · intro wz2 vals U hC hall
                have e22 : vals 22 = .bool true := hC.v 22 (hall 22 (by simp))
                have HB := Lib.hid (HW.out.trans (((Below.refl _ wr).drew.trans hC.b).mono (by have := HW.out.size; simp at this ⊢; omega)))
                have HRO := Lib.hid (row_from HRO.out ((Below.refl _ wr).drew.trans hC.b))
                have HRL := Lib.hid (row_from HRL.out ((Below.refl _ wr).drew.trans hC.b))
                obtain ⟨c3, r0, r1, r2⟩ := HC5.out wz2 hC.b
                simp only [fillA, if_true, Act.put]
                simp
                simp only [e22]
                clear hC hall e22 HC3 HC5 HW HBF HHS
                generalize vals 0 = t_0 at *
                generalize vals 1 = t_1 at *
                generalize vals 2 = t_2 at *
                generalize vals 3 = t_3 at *
                generalize vals 4 = t_4 at *
                generalize vals 5 = t_5 at *
                generalize vals 6 = t_6 at *
                generalize vals 7 = t_7 at *
                generalize vals 8 = t_8 at *
                generalize vals 9 = t_9 at *
                generalize vals 10 = t_10 at *
                generalize vals 11 = t_11 at *
                generalize vals 12 = t_12 at *
                generalize vals 13 = t_13 at *
                generalize vals 14 = t_14 at *
                generalize vals 15 = t_15 at *
                generalize vals 16 = t_16 at *
                generalize vals 17 = t_17 at *
                generalize vals 18 = t_18 at *
                generalize vals 19 = t_19 at *
                generalize vals 20 = t_20 at *
                generalize vals 21 = t_21 at *
                obtain ⟨A3, c4, w3, hrun, hv3, hb3, hk3⟩ := intElt.app_new2 i0 HRO.out (by omega) (by have := HB.out.size; simp at this; omega)
                have HB2 := Lib.hid (HB.out.trans (hb3.mono (Nat.le_refl _)))
                have HRL2 := Lib.hid (show w3.ownsRow (w.heap.size + 1) 38 3 (.slice A2 m2 c2) m2 (srs csN ((l.take (k + 1)).filter (fun x => !snGone b m x))) from by rw [HNL.out]; exact own_beside2 HRO.out HRL.out (by decide) hk3)
                have HRO2 := Lib.hid (show w3.ownsRow (w.heap.size + 1) 3 1 (.slice A3 (m1 + 1) c4) (m1 + 1) (srs csI (((l.take (k + 1)).filter (snGone b m)).map (·.i))) from by rw [HNO.out, List.map_append]; exact hv3)
                have HLN := Lib.hid (show ((l.take (k + 1)).filter (snGone b m)).length = m1 + 1 ∧ ((l.take (k + 1)).filter (fun x => !snGone b m x)).length = m2 by rw [HNO.out, HNL.out, List.length_append, HM.out.1]; exact ⟨rfl, HM.out.2⟩)
                unfold csI at hrun
                clear hv3 hb3 hk3 HB HRO HRL
                go_wp2_with (at_builtin; refine wpList_append_run rfl (.tmp 73) (.tmp 82) 22 rfl rfl rfl hrun ?_)
                go_roundw
                case rel => exact ⟨k + 1, m1 + 1, m2, A3, A2, c4, c2, by omega, by omega, by omega, by go_num, rfl, rfl, HLN, HRO2, HRL2, HB2⟩
                case measure => simp [intOf]; omega
          · obtain rfl : k = n := by omega
            have hSr := HS3.out.later (HA3.out wr HW.out)
            have z3 := hSr.free 3
            have ht : l.take k = l := List.take_of_length_le (by rw [HN.out]; exact Nat.le_refl _)
            have hro := HRO.out
            have hrl := HRL.out
            have hmm := HM.out
            rw [ht] at hro hrl hmm
            have HFN := Lib.hid (HEND.out wr A1 A2 c1 c2 m1 m2 hSr HE.out hro hrl hmm.1 hmm.2 (HA3.out wr HW.out))
            clear hro hrl hmm ht hSr HRO HRL HM HEND HL HFY  HGY HGN HCD HBM HA1 HA2 HA3 HA4 HY HW
            go_wp2
            go_ret
            exact ⟨_, rfl, HFN.out⟩
end Go.Proofs.Ytglhaclehdkagaa

