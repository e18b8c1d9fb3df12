/-
  Layer 15: contracts of the reference's Observe and History. Written by gen_chobs.py.
-/
import Derived.Test.YtaohfcchejedkaaChRef
import Derived.Test.YtaohfcchejedkaaStA
namespace Go.Proofs.Ytaohfcchejedkaa
open Go.ChangeShapes Go.WideShapes Go.ChangeAt Go.RowKit
set_option linter.unusedVariables false

/-- The two appends of Observe, and what the object is behind its stores. -/
theorem obs_mem {S : Nat} {s : Ch} {g : Bool} {r' : Int} {T : Nat → Prop} {w wa : World} {vL : Value} (hn : s.l.length ≤ 99999) (hsz : wa.heap.size = w.heap.size) (hch : Chg T w wa) (hTS : T S) (hlt : ∀ k, T k → k < w.heap.size)
    (hw : Whole wa S 46 (rcC { s with ri := r' } vL)) (hl : LsG csB 1 4 wa T vL s.l) (hok : ChOk (s.obs g)) (hr : (s.obs g).ri = r') :
    ∃ v2 w2 A3 c3 w3, (Builtin.append_ #[43, 43] 43 #[.slice (some ⟨w.heap.size, 0, none⟩) 0 0, vL]).run Try.prog (wa.alloc (.cells #[] 4)) = .ok v2 w2 ∧
      (Builtin.append_ #[43, 43] 43 #[v2, .slice (some ⟨w2.heap.size, 0, none⟩) 1 1]).run Try.prog (w2.alloc (.cells #[.bool g] 4)) = .ok (.slice A3 (s.l.length + 1) c3) w3 ∧
      ((w3.cell? ⟨S, 3, none⟩ = some vL ∧ w3.cell? ⟨S, 4, none⟩ = some (.bool s.an)) ∧ w3.frozen? ⟨S, 3, none⟩ = false ∧ w3.frozen? ⟨S, 4, none⟩ = false) ∧
      (wa.alloc (.cells #[] 4)).cell? ⟨S, 3, none⟩ = some vL ∧
      (∃ T', RcP S (s.obs g) T' ((w3.setCell ⟨S, 3, none⟩ (.slice A3 (s.l.length + 1) c3)).setCell ⟨S, 4, none⟩ (.bool false)) ∧ ∀ j, T' j → T j ∨ w.heap.size ≤ j) ∧ Chg T w ((w3.setCell ⟨S, 3, none⟩ (.slice A3 (s.l.length + 1) c3)).setCell ⟨S, 4, none⟩ (.bool false)) := by
  have hlist := RcP.list hw hl
  have hb0 := (Below.refl wa.heap.size wa).alloc (Nat.le_refl _) (.cells #[] 4)
  have hown := own_empty_ls (m := 1) (t := 4) csB wa wa.heap.size (Nat.le_refl _) (by decide)
  have hTlt : ∀ k, T k → k < wa.heap.size := fun k hk => by rw [hsz]; exact hlt k hk
  obtain ⟨v2, w2, hrun, hv2, hg2⟩ := run_append_ls (P := Try.prog) 43 43 csB_len csB_one (by decide) rfl (by decide) Try.underlying43 info_bl hown (hl.keep fun b hb => hb0.block b (hTlt b hb)) (by omega) (by omega) (by simp)
  rw [List.nil_append, Nat.zero_add] at hv2
  have hb2 : Below wa.heap.size wa w2 := below_grew hb0 (Nat.le_refl _) hg2 (fun k hk => by simp [Value.ownBlock] at hk; omega)
  have hcl := newCells w2 (csB g) 4
  obtain ⟨v3, w3, hrun2, hv3, hg3, hnew⟩ := run_append_one (P := Try.prog) 43 43 Try.underlying43 info_bl rfl (by decide) (hv2.alloc (.cells #[.bool g] 4)) ⟨w2.heap.size, 0, none⟩ (csB_len g) hcl (csB_one g) (by omega) (by decide) (by have := hb2.size; simp; omega)
  have hb3a := hb2.alloc hb2.size (.cells #[.bool g] 4)
  have hb3 : Below wa.heap.size wa w3 := below_grew hb3a (Nat.le_refl _) hg3 (fun k hk => (World.ownsRow.lt (hv2.alloc (.cells #[.bool g] 4)) k hk).1)
  rw [← srs_snoc] at hv3
  rw [hsz] at hrun
  have hS3 := hw.carry (hb3.block S (hTlt S hTS))
  have k3 := hS3.read 3
  have k4 := hS3.read 4
  simp [rcC] at k3 k4
  have ka := (hw.alloc (.cells #[] 4)).read 3
  simp [rcC] at ka
  obtain ⟨A3, c3, rfl⟩ := ow_shape hv3
  have hS4 := (hS3.put 3 (.slice A3 (s.l.length + 1) c3)).put 4 (.bool false)
  have hch3 : Chg T w w3 := hch.trans (Chg.of_below hb3)
  have hsz3 : w.heap.size ≤ w3.heap.size := by have := hb3.size; omega
  refine ⟨v2, w2, A3, c3, w3, hrun, hrun2, ⟨⟨k3, k4⟩, hS3.free 3, hS3.free 4⟩, ka, ⟨fun k => (T k ∨ wa.heap.size ≤ k) ∧ k < w3.heap.size, ⟨hok, fun k hk => by simpa [World.setCell] using hk.2, ⟨.inl hTS, hS3.size_lt⟩, .slice A3 (s.l.length + 1) c3, ?_, ?_⟩, fun j hj => hj.1.imp id (fun h => by omega)⟩, (hch3.setCell hTS 3 _).setCell hTS 4 _⟩
  · have e : rcC (s.obs g) (.slice A3 (s.l.length + 1) c3) = #[.int .i64 s.p.k, .int .i64 s.p.K, .int .i64 s.p.N, .slice A3 (s.l.length + 1) c3, .bool false, .bool s.sa, .int .i64 r'] := by unfold rcC; rw [hr]; rfl
    rw [e]
    exact hS4
  · have h9 := LsG.own (T := fun b => wa.heap.size ≤ b ∧ b < w3.heap.size) csB_len hv3 (l := s.l ++ [g]) (by simp) (fun b h1 h2 => ⟨h1, h2⟩)
    exact (h9.keep fun b hb => by
      have hne : b ≠ S := by have := hTlt S hTS; omega
      rw [Below.heap_setCell _ _ _ _ (by simpa using hne), Below.heap_setCell _ _ _ _ (by simpa using hne)]).wider fun b hb => ⟨.inr hb.1, hb.2⟩
set_option maxRecDepth 100000 in
set_option maxHeartbeats 4000000 in
theorem rcobs_any {S : Nat} {s : Ch} (hn : s.l.length ≤ 99999) {base : Nat} (g : Bool) : Acts 18 #[.pointer (some ⟨S, 0, none⟩), .bool g] base (RcP S s) (fun _ : Unit => .tuple #[]) fun _ => RcP S (s.obs g) := by
  intro T w hP hb hs
  have HP := Lib.hid (rcpred_same (by omega) hP)
  obtain ⟨h0, h1, h2, vL, h3, h4⟩ := hP
  have hok := h0.obs g
  have hr0 := h0.r
  by_cases hpg : prB s = g
  · have hri : (s.obs g).ri = s.ri + 1 := by simp [Ch.obs, hpg]
    have hl := RcP.list h3 h4
    have h4a : LsG csB 1 4 (w.setCell ⟨S, 6, none⟩ (.int .i64 (s.ri + 1))) T vL s.l := (hl.keep fun b hb => by rw [Below.heap_setCell _ _ _ _ (by simpa using hb.2)]).wider fun b hb => hb.1
    obtain ⟨v2, w2, A3, c3, w3, hrun1, hrun2, ⟨⟨k3, k4⟩, z3, z4⟩, ka, hR, hC⟩ := obs_mem (s := s) (g := g) (r' := s.ri + 1) (T := T) (w := w) (wa := w.setCell ⟨S, 6, none⟩ (.int .i64 (s.ri + 1))) hn (by simp [World.setCell]) ((Chg.refl T w).setCell h2 6 _) h2 h1 (h3.put 6 (.int .i64 (s.ri + 1))) h4a hok hri
    have HF := Lib.hid (And.intro hR hC)
    have d6 := h3.read 6
    have y6 := h3.free 6
    simp [rcC] at d6
    have hwr : IntKind.i64.wrap (s.ri + 1) = s.ri + 1 := IntWalk.i64_in _ (by omega)
    have hpt : (prB s == g) = true := by simp [hpg]
    clear h0 h1 h2 h3 h4 h4a hl hok hri hR hC hpg hr0 hn
    generalize prB s = b at *
    go_enter Try.func18, Try.ntmps18
    go_wp2_with fail
    (with_reducible refine HP.out.mono ?_); rintro e w' ⟨rfl, rfl⟩
    go_wp2_with (at_builtin; first | refine wpList_append_run rfl (.tmp 16) (.tmp 20) 43 rfl rfl rfl hrun1 ?_ | refine wpList_append_run rfl (.tmp 21) (.tmp 23) 43 rfl rfl rfl hrun2 ?_)
    go_end0
    first | exact ⟨rfl, HF.out⟩ | exact ⟨(), rfl, HF.out⟩
  · have hri : (s.obs g).ri = s.ri := by simp [Ch.obs, hpg]
    obtain ⟨v2, w2, A3, c3, w3, hrun1, hrun2, ⟨⟨k3, k4⟩, z3, z4⟩, ka, hR, hC⟩ := obs_mem (s := s) (g := g) (r' := s.ri) (T := T) (w := w) (wa := w) hn rfl (Chg.refl T w) h2 h1 h3 h4 hok hri
    have HF := Lib.hid (And.intro hR hC)
    have hpt : (prB s == g) = false := by simpa using hpg
    clear h0 h1 h2 h3 h4 hok hri hR hC hpg hr0 hn
    generalize prB s = b at *
    go_enter Try.func18, Try.ntmps18
    go_wp2_with fail
    (with_reducible refine HP.out.mono ?_); rintro e w' ⟨rfl, rfl⟩
    go_wp2_with (at_builtin; first | refine wpList_append_run rfl (.tmp 16) (.tmp 20) 43 rfl rfl rfl hrun1 ?_ | refine wpList_append_run rfl (.tmp 21) (.tmp 23) 43 rfl rfl rfl hrun2 ?_)
    go_end0
    first | exact ⟨rfl, HF.out⟩ | exact ⟨(), rfl, HF.out⟩
/-- What History answers: a slice of the last observations. -/
def GotH (l : List Bool) (w : World) (e : Ending) (w' : World) : Prop := ∃ A c, e = .returned (.slice A l.length c) ∧ SrAt csB 1 w' 0 w'.heap.size A l ∧ Below w.heap.size w w'
set_option maxRecDepth 100000 in
set_option maxHeartbeats 4000000 in
theorem rchist_any {S : Nat} {s : Ch} (hn : s.l.length ≤ 100000) {T : Nat → Prop} {w : World} (h : RcP S s T w) : Calls Try.prog 24 #[.pointer (some ⟨S, 0, none⟩)] w (GotH s.hist w) := by
  obtain ⟨h0, h1, h2, vL, h3, h4⟩ := h
  have hd := h4.drop (i := s.l.length - 32) (by omega)
  have hlen : s.hist.length = min 32 s.l.length := by unfold Ch.hist lastN; rw [List.length_drop]; omega
  have HE := Lib.hid (fun (W : World) (hb : Below w.heap.size w W) => (by
    obtain ⟨A, c, e, e2, e3⟩ := hd.shape
    have h9 := hd.at_ e
    exact ⟨A, c, by rw [e]; rfl, fun i hi => by
      obtain ⟨b, off, k1, k2, k3, k4⟩ := h9 i hi
      exact ⟨b, off, k1, k2, by have := hb.size; omega, fun k hk => (hb.cell (p := ⟨b, _, none⟩) k3).trans (k4 k hk)⟩, hb⟩ : GotH s.hist w (.returned (dropG 1 vL (s.l.length - 32))) W))
  obtain ⟨A, c, rfl, hc1, hc2⟩ := h4.shape
  have d3 := h3.read 3
  simp [rcC] at d3
  have hsub : IntKind.i64.wrap ((s.l.length : Int) - 32) = (s.l.length : Int) - 32 := IntWalk.i64_in _ (by omega)
  have hcm : c ≤ 9223372036854775807 := by unfold maxLen at hc2; omega
  have hA : A = none → c = 0 := fun e => by
    obtain ⟨A', c', q1, q2, q3, q4⟩ := h4
    simp only [Value.slice.injEq] at q1
    obtain ⟨rfl, _, rfl⟩ := q1
    rcases q4 with ⟨_, h⟩ | ⟨b, off, cur, h, _⟩
    · exact h
    · rw [e] at h; cases h
  have hA2 : A = none ∨ ∃ b off, A = some ⟨b, off, none⟩ := by
    obtain ⟨A', c', q1, q2, q3, q4⟩ := h4
    simp only [Value.slice.injEq] at q1
    obtain ⟨rfl, _, rfl⟩ := q1
    rcases q4 with ⟨h, _⟩ | ⟨b, off, cur, h, _⟩
    · exact .inl h
    · exact .inr ⟨b, off, h⟩
  have HC4 := Lib.hid (fun (W : World) (hw : Below w.drew.heap.size w.drew W) => (((Below.refl _ w).drew.trans hw).cell (p := ⟨S, 3, none⟩) (h1 S h2)).trans d3)
  clear h0 h1 h2 h3 h4 hd hlen d3 hc2
  generalize s.hist = H at *
  obtain ⟨n, hn2⟩ : ∃ n, s.l.length = n := ⟨_, rfl⟩
  rw [hn2] at HE HC4 hc1 hsub hn
  clear hn2
  rcases hA2 with rfl | ⟨b, off, rfl⟩
  · obtain rfl := hA rfl
    obtain rfl : n = 0 := by omega
    have HE2 := Lib.hid (fun (W : World) (hb : Below w.heap.size w W) => (by have h9 := HE.out W hb; skip; exact h9 : GotH H w (.returned (.slice none 0 0)) W))
    clear HE hA
    go_enter Try.func24, Try.ntmps24
    go_wp2_with fail
    refine wp_region_looseS 15 (by kernel_rfl) (by kernel_rfl) (StB w.drew (fun vI => [.pointer (some ⟨S, 0, none⟩), .pointer (some ⟨S, 0, none⟩), .pointer (some ⟨S, 3, none⟩), .slice none 0 0, .pointer (some ⟨S, 0, none⟩), .pointer (some ⟨S, 0, none⟩), .pointer (some ⟨S, 3, none⟩), .slice none 0 0, .int .i64 0, .int .i64 (-32), .int .i64 0, .slice none 0 0, .slice none 0 0].getD vI undef)) rfl StB.start ?_ ?_
    · simp only [OblAllS]
      refine ⟨?_, ?_, ?_, ?_, ?_, ?_, ?_, ?_, ?_, ?_, ?_, ?_, ?_, trivial⟩
      · intro L wx vals hi hu hcl hC
        have HCx := Lib.hid hC
        clear hC hcl hu hi
        simp only [fillA, if_true, Act.put]
        simp
        go_wp2
        exact ⟨rfl, HCx.out.quiet 0 rfl⟩
      · intro L wx vals hi hu hcl hC
        simp [predL, predE, Region.binds, UpL] at hu
        have e0 : vals 0 = .pointer (some ⟨S, 0, none⟩) := hC.v 0 (by simp [hu])
        have HCx := Lib.hid hC
        clear hC hcl hu hi
        simp only [fillA, if_true, Act.put]
        simp
        simp only [e0]
        clear e0
        go_wp2
        exact ⟨rfl, HCx.out.quiet 1 rfl⟩
      · intro L wx vals hi hu hcl hC
        simp [predL, predE, Region.binds, UpL] at hu
        have e1 : vals 1 = .pointer (some ⟨S, 0, none⟩) := hC.v 1 (by simp [hu])
        have HCx := Lib.hid hC
        clear hC hcl hu hi
        simp only [fillA, if_true, Act.put]
        simp
        simp only [e1]
        clear e1
        go_wp2
        exact ⟨rfl, HCx.out.quiet 2 rfl⟩
      · intro L wx vals hi hu hcl hC
        simp [predL, predE, Region.binds, UpL] at hu
        have e2 : vals 2 = .pointer (some ⟨S, 3, none⟩) := hC.v 2 (by simp [hu])
        have h0 := (HC4.out wx hC.b)
        have HCx := Lib.hid hC
        clear hC hcl hu hi
        simp only [fillA, if_true, Act.put]
        simp
        simp only [e2]
        clear e2
        go_wp2
        exact ⟨rfl, HCx.out.quiet 3 rfl⟩
      · intro L wx vals hi hu hcl hC
        have HCx := Lib.hid hC
        clear hC hcl hu hi
        simp only [fillA, if_true, Act.put]
        simp
        go_wp2
        exact ⟨rfl, HCx.out.quiet 4 rfl⟩
      · intro L wx vals hi hu hcl hC
        simp [predL, predE, Region.binds, UpL] at hu
        have e4 : vals 4 = .pointer (some ⟨S, 0, none⟩) := hC.v 4 (by simp [hu])
        have HCx := Lib.hid hC
        clear hC hcl hu hi
        simp only [fillA, if_true, Act.put]
        simp
        simp only [e4]
        clear e4
        go_wp2
        exact ⟨rfl, HCx.out.quiet 5 rfl⟩
      · intro L wx vals hi hu hcl hC
        simp [predL, predE, Region.binds, UpL] at hu
        have e5 : vals 5 = .pointer (some ⟨S, 0, none⟩) := hC.v 5 (by simp [hu])
        have HCx := Lib.hid hC
        clear hC hcl hu hi
        simp only [fillA, if_true, Act.put]
        simp
        simp only [e5]
        clear e5
        go_wp2
        exact ⟨rfl, HCx.out.quiet 6 rfl⟩
      · intro L wx vals hi hu hcl hC
        simp [predL, predE, Region.binds, UpL] at hu
        have e6 : vals 6 = .pointer (some ⟨S, 3, none⟩) := hC.v 6 (by simp [hu])
        have h0 := (HC4.out wx hC.b)
        have HCx := Lib.hid hC
        clear hC hcl hu hi
        simp only [fillA, if_true, Act.put]
        simp
        simp only [e6]
        clear e6
        go_wp2
        exact ⟨rfl, HCx.out.quiet 7 rfl⟩
      · intro L wx vals hi hu hcl hC
        simp [predL, predE, Region.binds, UpL] at hu
        have e7 : vals 7 = .slice none 0 0 := hC.v 7 (by simp [hu])
        have HCx := Lib.hid hC
        clear hC hcl hu hi
        simp only [fillA, if_true, Act.put]
        simp
        simp only [e7]
        clear e7
        go_wp2
        exact ⟨rfl, HCx.out.quiet 8 rfl⟩
      · intro L wx vals hi hu hcl hC
        simp [predL, predE, Region.binds, UpL] at hu
        have e8 : vals 8 = .int .i64 0 := hC.v 8 (by simp [hu])
        have HCx := Lib.hid hC
        clear hC hcl hu hi
        simp only [fillA, if_true, Act.put]
        simp
        simp only [e8]
        clear e8
        go_wp2
        exact ⟨rfl, HCx.out.quiet 9 rfl⟩
      · intro L wx vals hi hu hcl hC
        simp [predL, predE, Region.binds, UpL] at hu
        have e9 : vals 9 = .int .i64 (-32) := hC.v 9 (by simp [hu])
        have HCx := Lib.hid hC
        clear hC hcl hu hi
        simp only [fillA, if_true, Act.put]
        simp
        simp only [e9]
        clear e9
        go_wp2
        exact ⟨rfl, HCx.out.quiet 10 rfl⟩
      · intro L wx vals hi hu hcl hC
        simp [predL, predE, Region.binds, UpL] at hu
        have e3 : vals 3 = .slice none 0 0 := hC.v 3 (by simp [hu])
        have e10 : vals 10 = .int .i64 0 := hC.v 10 (by simp [hu])
        have HCx := Lib.hid hC
        clear hC hcl hu hi
        simp only [fillA, if_true, Act.put]
        simp
        simp only [e3, e10]
        clear e3 e10
        go_wp2
        exact ⟨rfl, HCx.out.quiet 11 rfl⟩
      · intro L wx vals hi hu hcl hC
        simp [predL, predE, Region.binds, UpL] at hu
        have e11 : vals 11 = .slice none 0 0 := hC.v 11 (by simp [hu])
        have HCx := Lib.hid hC
        clear hC hcl hu hi
        simp only [fillA, if_true, Act.put]
        simp
        simp only [e11]
        clear e11
        go_wp2
        exact ⟨rfl, HCx.out.quiet 12 rfl⟩
    · intro wz vals U hC hall
      have e12 : vals 12 = .slice none 0 0 := hC.v 12 (hall 12 (by simp))
      have HF := Lib.hid (HE2.out wz ((Below.refl _ w).drew.trans hC.b))
      simp only [fillA, if_true, Act.put]
      simp
      simp only [e12]
      clear hC hall e12 HE2
      go_wp2
      go_ret
      exact HF.out
  · rcases (by omega : (n ≤ 32 ∧ c = 0) ∨ (n ≤ 32 ∧ 0 < c) ∨ 32 < n) with ⟨h32, rfl⟩ | ⟨h32, h0c⟩ | h32
    · obtain rfl : n = 0 := by omega
      have HE2 := Lib.hid (fun (W : World) (hb : Below w.heap.size w W) => (by have h9 := HE.out W hb; skip; exact h9 : GotH H w (.returned (.slice (some ⟨b, off, none⟩) 0 0)) W))
      clear HE hA
      go_enter Try.func24, Try.ntmps24
      go_wp2_with fail
      refine wp_region_looseS 15 (by kernel_rfl) (by kernel_rfl) (StB w.drew (fun vI => [.pointer (some ⟨S, 0, none⟩), .pointer (some ⟨S, 0, none⟩), .pointer (some ⟨S, 3, none⟩), .slice (some ⟨b, off, none⟩) 0 0, .pointer (some ⟨S, 0, none⟩), .pointer (some ⟨S, 0, none⟩), .pointer (some ⟨S, 3, none⟩), .slice (some ⟨b, off, none⟩) 0 0, .int .i64 0, .int .i64 (-32), .int .i64 0, .slice (some ⟨b, off, none⟩) 0 0, .slice (some ⟨b, off, none⟩) 0 0].getD vI undef)) rfl StB.start ?_ ?_
      · simp only [OblAllS]
        refine ⟨?_, ?_, ?_, ?_, ?_, ?_, ?_, ?_, ?_, ?_, ?_, ?_, ?_, trivial⟩
        · intro L wx vals hi hu hcl hC
          have HCx := Lib.hid hC
          clear hC hcl hu hi
          simp only [fillA, if_true, Act.put]
          simp
          go_wp2
          exact ⟨rfl, HCx.out.quiet 0 rfl⟩
        · intro L wx vals hi hu hcl hC
          simp [predL, predE, Region.binds, UpL] at hu
          have e0 : vals 0 = .pointer (some ⟨S, 0, none⟩) := hC.v 0 (by simp [hu])
          have HCx := Lib.hid hC
          clear hC hcl hu hi
          simp only [fillA, if_true, Act.put]
          simp
          simp only [e0]
          clear e0
          go_wp2
          exact ⟨rfl, HCx.out.quiet 1 rfl⟩
        · intro L wx vals hi hu hcl hC
          simp [predL, predE, Region.binds, UpL] at hu
          have e1 : vals 1 = .pointer (some ⟨S, 0, none⟩) := hC.v 1 (by simp [hu])
          have HCx := Lib.hid hC
          clear hC hcl hu hi
          simp only [fillA, if_true, Act.put]
          simp
          simp only [e1]
          clear e1
          go_wp2
          exact ⟨rfl, HCx.out.quiet 2 rfl⟩
        · intro L wx vals hi hu hcl hC
          simp [predL, predE, Region.binds, UpL] at hu
          have e2 : vals 2 = .pointer (some ⟨S, 3, none⟩) := hC.v 2 (by simp [hu])
          have h0 := (HC4.out wx hC.b)
          have HCx := Lib.hid hC
          clear hC hcl hu hi
          simp only [fillA, if_true, Act.put]
          simp
          simp only [e2]
          clear e2
          go_wp2
          exact ⟨rfl, HCx.out.quiet 3 rfl⟩
        · intro L wx vals hi hu hcl hC
          have HCx := Lib.hid hC
          clear hC hcl hu hi
          simp only [fillA, if_true, Act.put]
          simp
          go_wp2
          exact ⟨rfl, HCx.out.quiet 4 rfl⟩
        · intro L wx vals hi hu hcl hC
          simp [predL, predE, Region.binds, UpL] at hu
          have e4 : vals 4 = .pointer (some ⟨S, 0, none⟩) := hC.v 4 (by simp [hu])
          have HCx := Lib.hid hC
          clear hC hcl hu hi
          simp only [fillA, if_true, Act.put]
          simp
          simp only [e4]
          clear e4
          go_wp2
          exact ⟨rfl, HCx.out.quiet 5 rfl⟩
        · intro L wx vals hi hu hcl hC
          simp [predL, predE, Region.binds, UpL] at hu
          have e5 : vals 5 = .pointer (some ⟨S, 0, none⟩) := hC.v 5 (by simp [hu])
          have HCx := Lib.hid hC
          clear hC hcl hu hi
          simp only [fillA, if_true, Act.put]
          simp
          simp only [e5]
          clear e5
          go_wp2
          exact ⟨rfl, HCx.out.quiet 6 rfl⟩
        · intro L wx vals hi hu hcl hC
          simp [predL, predE, Region.binds, UpL] at hu
          have e6 : vals 6 = .pointer (some ⟨S, 3, none⟩) := hC.v 6 (by simp [hu])
          have h0 := (HC4.out wx hC.b)
          have HCx := Lib.hid hC
          clear hC hcl hu hi
          simp only [fillA, if_true, Act.put]
          simp
          simp only [e6]
          clear e6
          go_wp2
          exact ⟨rfl, HCx.out.quiet 7 rfl⟩
        · intro L wx vals hi hu hcl hC
          simp [predL, predE, Region.binds, UpL] at hu
          have e7 : vals 7 = .slice (some ⟨b, off, none⟩) 0 0 := hC.v 7 (by simp [hu])
          have HCx := Lib.hid hC
          clear hC hcl hu hi
          simp only [fillA, if_true, Act.put]
          simp
          simp only [e7]
          clear e7
          go_wp2
          exact ⟨rfl, HCx.out.quiet 8 rfl⟩
        · intro L wx vals hi hu hcl hC
          simp [predL, predE, Region.binds, UpL] at hu
          have e8 : vals 8 = .int .i64 0 := hC.v 8 (by simp [hu])
          have HCx := Lib.hid hC
          clear hC hcl hu hi
          simp only [fillA, if_true, Act.put]
          simp
          simp only [e8]
          clear e8
          go_wp2
          exact ⟨rfl, HCx.out.quiet 9 rfl⟩
        · intro L wx vals hi hu hcl hC
          simp [predL, predE, Region.binds, UpL] at hu
          have e9 : vals 9 = .int .i64 (-32) := hC.v 9 (by simp [hu])
          have HCx := Lib.hid hC
          clear hC hcl hu hi
          simp only [fillA, if_true, Act.put]
          simp
          simp only [e9]
          clear e9
          go_wp2
          exact ⟨rfl, HCx.out.quiet 10 rfl⟩
        · intro L wx vals hi hu hcl hC
          simp [predL, predE, Region.binds, UpL] at hu
          have e3 : vals 3 = .slice (some ⟨b, off, none⟩) 0 0 := hC.v 3 (by simp [hu])
          have e10 : vals 10 = .int .i64 0 := hC.v 10 (by simp [hu])
          have HCx := Lib.hid hC
          clear hC hcl hu hi
          simp only [fillA, if_true, Act.put]
          simp
          simp only [e3, e10]
          clear e3 e10
          go_wp2
          exact ⟨rfl, HCx.out.quiet 11 rfl⟩
        · intro L wx vals hi hu hcl hC
          simp [predL, predE, Region.binds, UpL] at hu
          have e11 : vals 11 = .slice (some ⟨b, off, none⟩) 0 0 := hC.v 11 (by simp [hu])
          have HCx := Lib.hid hC
          clear hC hcl hu hi
          simp only [fillA, if_true, Act.put]
          simp
          simp only [e11]
          clear e11
          go_wp2
          exact ⟨rfl, HCx.out.quiet 12 rfl⟩
      · intro wz vals U hC hall
        have e12 : vals 12 = .slice (some ⟨b, off, none⟩) 0 0 := hC.v 12 (hall 12 (by simp))
        have HF := Lib.hid (HE2.out wz ((Below.refl _ w).drew.trans hC.b))
        simp only [fillA, if_true, Act.put]
        simp
        simp only [e12]
        clear hC hall e12 HE2
        go_wp2
        go_ret
        exact HF.out
    · have m1 : (n : Int) - 32 ≤ 0 := by omega
      have ha : n - 32 = 0 := by omega
      rw [ha] at HE
      have hmx : max ((n : Int) - 32) 0 = 0 := by omega
      have hc0 : ¬ 0 = c := by omega
      have hc2 : ¬ c = 0 := by omega
      have HE2 := Lib.hid (fun (W : World) (hb : Below w.heap.size w W) => (by have h9 := HE.out W hb; unfold dropG at h9; simp only [if_neg hc0, Nat.zero_mul, Nat.sub_zero, Addr.add_lit, Nat.add_zero] at h9; exact h9 : GotH H w (.returned (.slice (some ⟨b, off, none⟩) n c)) W))
      clear HE hA
      go_enter Try.func24, Try.ntmps24
      go_wp2_with fail
      refine wp_region_looseS 15 (by kernel_rfl) (by kernel_rfl) (StB w.drew (fun vI => [.pointer (some ⟨S, 0, none⟩), .pointer (some ⟨S, 0, none⟩), .pointer (some ⟨S, 3, none⟩), .slice (some ⟨b, off, none⟩) n c, .pointer (some ⟨S, 0, none⟩), .pointer (some ⟨S, 0, none⟩), .pointer (some ⟨S, 3, none⟩), .slice (some ⟨b, off, none⟩) n c, .int .i64 (n : Nat), .int .i64 ((n : Int) - 32), .int .i64 0, .slice (some ⟨b, off, none⟩) n c, .slice (some ⟨b, off, none⟩) n c].getD vI undef)) rfl StB.start ?_ ?_
      · simp only [OblAllS]
        refine ⟨?_, ?_, ?_, ?_, ?_, ?_, ?_, ?_, ?_, ?_, ?_, ?_, ?_, trivial⟩
        · intro L wx vals hi hu hcl hC
          have HCx := Lib.hid hC
          clear hC hcl hu hi
          simp only [fillA, if_true, Act.put]
          simp
          go_wp2
          exact ⟨rfl, HCx.out.quiet 0 rfl⟩
        · intro L wx vals hi hu hcl hC
          simp [predL, predE, Region.binds, UpL] at hu
          have e0 : vals 0 = .pointer (some ⟨S, 0, none⟩) := hC.v 0 (by simp [hu])
          have HCx := Lib.hid hC
          clear hC hcl hu hi
          simp only [fillA, if_true, Act.put]
          simp
          simp only [e0]
          clear e0
          go_wp2
          exact ⟨rfl, HCx.out.quiet 1 rfl⟩
        · intro L wx vals hi hu hcl hC
          simp [predL, predE, Region.binds, UpL] at hu
          have e1 : vals 1 = .pointer (some ⟨S, 0, none⟩) := hC.v 1 (by simp [hu])
          have HCx := Lib.hid hC
          clear hC hcl hu hi
          simp only [fillA, if_true, Act.put]
          simp
          simp only [e1]
          clear e1
          go_wp2
          exact ⟨rfl, HCx.out.quiet 2 rfl⟩
        · intro L wx vals hi hu hcl hC
          simp [predL, predE, Region.binds, UpL] at hu
          have e2 : vals 2 = .pointer (some ⟨S, 3, none⟩) := hC.v 2 (by simp [hu])
          have h0 := (HC4.out wx hC.b)
          have HCx := Lib.hid hC
          clear hC hcl hu hi
          simp only [fillA, if_true, Act.put]
          simp
          simp only [e2]
          clear e2
          go_wp2
          exact ⟨rfl, HCx.out.quiet 3 rfl⟩
        · intro L wx vals hi hu hcl hC
          have HCx := Lib.hid hC
          clear hC hcl hu hi
          simp only [fillA, if_true, Act.put]
          simp
          go_wp2
          exact ⟨rfl, HCx.out.quiet 4 rfl⟩
        · intro L wx vals hi hu hcl hC
          simp [predL, predE, Region.binds, UpL] at hu
          have e4 : vals 4 = .pointer (some ⟨S, 0, none⟩) := hC.v 4 (by simp [hu])
          have HCx := Lib.hid hC
          clear hC hcl hu hi
          simp only [fillA, if_true, Act.put]
          simp
          simp only [e4]
          clear e4
          go_wp2
          exact ⟨rfl, HCx.out.quiet 5 rfl⟩
        · intro L wx vals hi hu hcl hC
          simp [predL, predE, Region.binds, UpL] at hu
          have e5 : vals 5 = .pointer (some ⟨S, 0, none⟩) := hC.v 5 (by simp [hu])
          have HCx := Lib.hid hC
          clear hC hcl hu hi
          simp only [fillA, if_true, Act.put]
          simp
          simp only [e5]
          clear e5
          go_wp2
          exact ⟨rfl, HCx.out.quiet 6 rfl⟩
        · intro L wx vals hi hu hcl hC
          simp [predL, predE, Region.binds, UpL] at hu
          have e6 : vals 6 = .pointer (some ⟨S, 3, none⟩) := hC.v 6 (by simp [hu])
          have h0 := (HC4.out wx hC.b)
          have HCx := Lib.hid hC
          clear hC hcl hu hi
          simp only [fillA, if_true, Act.put]
          simp
          simp only [e6]
          clear e6
          go_wp2
          exact ⟨rfl, HCx.out.quiet 7 rfl⟩
        · intro L wx vals hi hu hcl hC
          simp [predL, predE, Region.binds, UpL] at hu
          have e7 : vals 7 = .slice (some ⟨b, off, none⟩) n c := hC.v 7 (by simp [hu])
          have HCx := Lib.hid hC
          clear hC hcl hu hi
          simp only [fillA, if_true, Act.put]
          simp
          simp only [e7]
          clear e7
          go_wp2
          exact ⟨rfl, HCx.out.quiet 8 rfl⟩
        · intro L wx vals hi hu hcl hC
          simp [predL, predE, Region.binds, UpL] at hu
          have e8 : vals 8 = .int .i64 (n : Nat) := hC.v 8 (by simp [hu])
          have HCx := Lib.hid hC
          clear hC hcl hu hi
          simp only [fillA, if_true, Act.put]
          simp
          simp only [e8]
          clear e8
          go_wp2
          exact ⟨rfl, HCx.out.quiet 9 rfl⟩
        · intro L wx vals hi hu hcl hC
          simp [predL, predE, Region.binds, UpL] at hu
          have e9 : vals 9 = .int .i64 ((n : Int) - 32) := hC.v 9 (by simp [hu])
          have HCx := Lib.hid hC
          clear hC hcl hu hi
          simp only [fillA, if_true, Act.put]
          simp
          simp only [e9]
          clear e9
          go_wp2
          all_goals exact ⟨rfl, HCx.out.quiet 10 (congrArg (Value.int .i64) (by omega))⟩
        · intro L wx vals hi hu hcl hC
          simp [predL, predE, Region.binds, UpL] at hu
          have e3 : vals 3 = .slice (some ⟨b, off, none⟩) n c := hC.v 3 (by simp [hu])
          have e10 : vals 10 = .int .i64 0 := hC.v 10 (by simp [hu])
          have HCx := Lib.hid hC
          clear hC hcl hu hi
          simp only [fillA, if_true, Act.put]
          simp
          simp only [e3, e10]
          clear e3 e10
          go_wp2
          exact ⟨rfl, HCx.out.quiet 11 rfl⟩
        · intro L wx vals hi hu hcl hC
          simp [predL, predE, Region.binds, UpL] at hu
          have e11 : vals 11 = .slice (some ⟨b, off, none⟩) n c := hC.v 11 (by simp [hu])
          have HCx := Lib.hid hC
          clear hC hcl hu hi
          simp only [fillA, if_true, Act.put]
          simp
          simp only [e11]
          clear e11
          go_wp2
          exact ⟨rfl, HCx.out.quiet 12 rfl⟩
      · intro wz vals U hC hall
        have e12 : vals 12 = .slice (some ⟨b, off, none⟩) n c := hC.v 12 (hall 12 (by simp))
        have HF := Lib.hid (HE2.out wz ((Below.refl _ w).drew.trans hC.b))
        simp only [fillA, if_true, Act.put]
        simp
        simp only [e12]
        clear hC hall e12 HE2
        go_wp2
        go_ret
        exact HF.out
    · obtain ⟨a, rfl⟩ : ∃ a, n = a + 32 := ⟨n - 32, by omega⟩
      have hsb : IntKind.i64.wrap (((a + 32 : Nat) : Int) - 32) = (a : Int) := by rw [IntWalk.i64_in _ (by omega)]; omega
      have m1 : (0 : Int) < (a : Int) := by omega
      have hca : ¬ a = c := by omega
      have hca2 : ¬ c = a := by omega
      have hal : a ≤ c := by omega
      have han : a ≤ a + 32 := by omega
      clear hsub
      have HE2 := Lib.hid (fun (W : World) (hb : Below w.heap.size w W) => (by have h9 := HE.out W hb; rw [Nat.add_sub_cancel] at h9; unfold dropG at h9; simp only [if_neg hca, Nat.mul_one, Addr.add_lit, show a + 32 - a = 32 by omega] at h9; exact h9 : GotH H w (.returned (.slice (some ⟨b, off + a, none⟩) 32 (c - a))) W))
      clear HE hA
      go_enter Try.func24, Try.ntmps24
      go_wp2_with fail
      refine wp_region_looseS 15 (by kernel_rfl) (by kernel_rfl) (StB w.drew (fun vI => [.pointer (some ⟨S, 0, none⟩), .pointer (some ⟨S, 0, none⟩), .pointer (some ⟨S, 3, none⟩), .slice (some ⟨b, off, none⟩) (a + 32) c, .pointer (some ⟨S, 0, none⟩), .pointer (some ⟨S, 0, none⟩), .pointer (some ⟨S, 3, none⟩), .slice (some ⟨b, off, none⟩) (a + 32) c, .int .i64 ((a + 32 : Nat) : Int), .int .i64 (a : Int), .int .i64 (a : Int), .slice (some ⟨b, off + a, none⟩) 32 (c - a), .slice (some ⟨b, off + a, none⟩) 32 (c - a)].getD vI undef)) rfl StB.start ?_ ?_
      · simp only [OblAllS]
        refine ⟨?_, ?_, ?_, ?_, ?_, ?_, ?_, ?_, ?_, ?_, ?_, ?_, ?_, trivial⟩
        · intro L wx vals hi hu hcl hC
          have HCx := Lib.hid hC
          clear hC hcl hu hi
          simp only [fillA, if_true, Act.put]
          simp
          go_wp2
          exact ⟨rfl, HCx.out.quiet 0 rfl⟩
        · intro L wx vals hi hu hcl hC
          simp [predL, predE, Region.binds, UpL] at hu
          have e0 : vals 0 = .pointer (some ⟨S, 0, none⟩) := hC.v 0 (by simp [hu])
          have HCx := Lib.hid hC
          clear hC hcl hu hi
          simp only [fillA, if_true, Act.put]
          simp
          simp only [e0]
          clear e0
          go_wp2
          exact ⟨rfl, HCx.out.quiet 1 rfl⟩
        · intro L wx vals hi hu hcl hC
          simp [predL, predE, Region.binds, UpL] at hu
          have e1 : vals 1 = .pointer (some ⟨S, 0, none⟩) := hC.v 1 (by simp [hu])
          have HCx := Lib.hid hC
          clear hC hcl hu hi
          simp only [fillA, if_true, Act.put]
          simp
          simp only [e1]
          clear e1
          go_wp2
          exact ⟨rfl, HCx.out.quiet 2 rfl⟩
        · intro L wx vals hi hu hcl hC
          simp [predL, predE, Region.binds, UpL] at hu
          have e2 : vals 2 = .pointer (some ⟨S, 3, none⟩) := hC.v 2 (by simp [hu])
          have h0 := (HC4.out wx hC.b)
          have HCx := Lib.hid hC
          clear hC hcl hu hi
          simp only [fillA, if_true, Act.put]
          simp
          simp only [e2]
          clear e2
          go_wp2
          exact ⟨rfl, HCx.out.quiet 3 rfl⟩
        · intro L wx vals hi hu hcl hC
          have HCx := Lib.hid hC
          clear hC hcl hu hi
          simp only [fillA, if_true, Act.put]
          simp
          go_wp2
          exact ⟨rfl, HCx.out.quiet 4 rfl⟩
        · intro L wx vals hi hu hcl hC
          simp [predL, predE, Region.binds, UpL] at hu
          have e4 : vals 4 = .pointer (some ⟨S, 0, none⟩) := hC.v 4 (by simp [hu])
          have HCx := Lib.hid hC
          clear hC hcl hu hi
          simp only [fillA, if_true, Act.put]
          simp
          simp only [e4]
          clear e4
          go_wp2
          exact ⟨rfl, HCx.out.quiet 5 rfl⟩
        · intro L wx vals hi hu hcl hC
          simp [predL, predE, Region.binds, UpL] at hu
          have e5 : vals 5 = .pointer (some ⟨S, 0, none⟩) := hC.v 5 (by simp [hu])
          have HCx := Lib.hid hC
          clear hC hcl hu hi
          simp only [fillA, if_true, Act.put]
          simp
          simp only [e5]
          clear e5
          go_wp2
          exact ⟨rfl, HCx.out.quiet 6 rfl⟩
        · intro L wx vals hi hu hcl hC
          simp [predL, predE, Region.binds, UpL] at hu
          have e6 : vals 6 = .pointer (some ⟨S, 3, none⟩) := hC.v 6 (by simp [hu])
          have h0 := (HC4.out wx hC.b)
          have HCx := Lib.hid hC
          clear hC hcl hu hi
          simp only [fillA, if_true, Act.put]
          simp
          simp only [e6]
          clear e6
          go_wp2
          exact ⟨rfl, HCx.out.quiet 7 rfl⟩
        · intro L wx vals hi hu hcl hC
          simp [predL, predE, Region.binds, UpL] at hu
          have e7 : vals 7 = .slice (some ⟨b, off, none⟩) (a + 32) c := hC.v 7 (by simp [hu])
          have HCx := Lib.hid hC
          clear hC hcl hu hi
          simp only [fillA, if_true, Act.put]
          simp
          simp only [e7]
          clear e7
          go_wp2
          exact ⟨rfl, HCx.out.quiet 8 rfl⟩
        · intro L wx vals hi hu hcl hC
          simp [predL, predE, Region.binds, UpL] at hu
          have e8 : vals 8 = .int .i64 ((a + 32 : Nat) : Int) := hC.v 8 (by simp [hu])
          have HCx := Lib.hid hC
          clear hC hcl hu hi
          simp only [fillA, if_true, Act.put]
          simp
          simp only [e8]
          clear e8
          go_wp2
          exact ⟨rfl, HCx.out.quiet 9 rfl⟩
        · intro L wx vals hi hu hcl hC
          simp [predL, predE, Region.binds, UpL] at hu
          have e9 : vals 9 = .int .i64 (a : Int) := hC.v 9 (by simp [hu])
          have HCx := Lib.hid hC
          clear hC hcl hu hi
          simp only [fillA, if_true, Act.put]
          simp
          simp only [e9]
          clear e9
          go_wp2
          exact ⟨rfl, HCx.out.quiet 10 rfl⟩
        · intro L wx vals hi hu hcl hC
          simp [predL, predE, Region.binds, UpL] at hu
          have e3 : vals 3 = .slice (some ⟨b, off, none⟩) (a + 32) c := hC.v 3 (by simp [hu])
          have e10 : vals 10 = .int .i64 (a : Int) := hC.v 10 (by simp [hu])
          have HCx := Lib.hid hC
          clear hC hcl hu hi
          simp only [fillA, if_true, Act.put]
          simp
          simp only [e3, e10]
          clear e3 e10
          go_wp2
          exact ⟨rfl, HCx.out.quiet 11 rfl⟩
        · intro L wx vals hi hu hcl hC
          simp [predL, predE, Region.binds, UpL] at hu
          have e11 : vals 11 = .slice (some ⟨b, off + a, none⟩) 32 (c - a) := hC.v 11 (by simp [hu])
          have HCx := Lib.hid hC
          clear hC hcl hu hi
          simp only [fillA, if_true, Act.put]
          simp
          simp only [e11]
          clear e11
          go_wp2
          exact ⟨rfl, HCx.out.quiet 12 rfl⟩
      · intro wz vals U hC hall
        have e12 : vals 12 = .slice (some ⟨b, off + a, none⟩) 32 (c - a) := hC.v 12 (hall 12 (by simp))
        have HF := Lib.hid (HE2.out wz ((Below.refl _ w).drew.trans hC.b))
        simp only [fillA, if_true, Act.put]
        simp
        simp only [e12]
        clear hC hall e12 HE2
        go_wp2
        go_ret
        exact HF.out
end Go.Proofs.Ytaohfcchejedkaa

