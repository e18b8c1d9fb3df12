/-
  Layer 13: contract of the program's Join. Written by gen_psjoin.py.
-/
import Derived.Test.YtkfhjpgapmfiaaaPsSet
import Derived.Test.YtkfhjpgapmfiaaaStA
namespace Go.Proofs.Ytkfhjpgapmfiaaa
open Go.ChangeShapes Go.WideShapes Go.ChangeAt Go.RowKit
set_option linter.unusedVariables false

/-- The worlds of Join's first region. -/
theorem join_worlds {w : World} {R a o : Nat} {s : Sf} (hw : PsW w R a o s) {G : Int → Option Value} (hG : MapI w o G) {f : Int} (hf : -1000000 ≤ f ∧ f ≤ 1000000) {om : Int} (hom : (G f).getD (.int .i64 0) = .int .i64 om) (x y : Int) {W1 W2 : World}
    (h1 : W1 = w.drew.alloc (.cells #[.int .i64 0, .int .i64 0, .int .i64 0] 52)) (h2 : W2 = ((W1.setCell ⟨w.heap.size, 0, none⟩ (.int .i64 f)).setCell ⟨w.heap.size, 1, none⟩ (.int .i64 x)).setCell ⟨w.heap.size, 2, none⟩ (.int .i64 y)) :
    (∀ W, W = w.drew ∨ W = W1 → W.cell? ⟨R, 2, none⟩ = some (.map (some o)) ∧ W.cell? ⟨R, 3, none⟩ = some (.int .i64 s.now) ∧ (Instr.lookup 59 (.map (some o)) (.int .i64 f) false).run Try.prog W = .ok (.int .i64 om) W) ∧
    (∀ W, W = W1 → W.cell? ⟨w.heap.size, 0, none⟩ = some (.int .i64 0) ∧ W.cell? ⟨w.heap.size, 1, none⟩ = some (.int .i64 0) ∧ W.cell? ⟨w.heap.size, 2, none⟩ = some (.int .i64 0) ∧ ∀ i, W.frozen? ⟨w.heap.size, i, none⟩ = false) ∧
    Below w.heap.size w W2 ∧ Whole W2 w.heap.size 52 #[.int .i64 f, .int .i64 x, .int .i64 y] := by
  have hb1 : Below w.heap.size w W1 := by rw [h1]; exact ((Below.refl w.heap.size w).drew).alloc (by simp) _
  have hx1 : Whole W1 w.heap.size 52 #[.int .i64 0, .int .i64 0, .int .i64 0] := by rw [h1]; exact Whole.fresh w.drew _ _
  refine ⟨?_, ?_, ?_, ?_⟩
  · have key : ∀ W, Below w.heap.size w W → W.cell? ⟨R, 2, none⟩ = some (.map (some o)) ∧ W.cell? ⟨R, 3, none⟩ = some (.int .i64 s.now) ∧ (Instr.lookup 59 (.map (some o)) (.int .i64 f) false).run Try.prog W = .ok (.int .i64 om) W := fun W hb => by
      obtain ⟨_, _, c2, c3, _, _⟩ := (hw.later hb).cells
      have := rem_look (hG.keep (hb.block o hG.lt)) hf
      rw [hom] at this
      exact ⟨c2, c3, this⟩
    rintro W (rfl | rfl)
    · exact key _ (Below.refl _ _).drew
    · exact key _ hb1
  · rintro W rfl
    have y0 := hx1.read 0
    have y1 := hx1.read 1
    have y2 := hx1.read 2
    simp at y0 y1 y2
    exact ⟨y0, y1, y2, hx1.free⟩
  · rw [h2]; exact ((hb1.setCell (p := ⟨w.heap.size, 0, none⟩) (Nat.le_refl _) _).setCell (p := ⟨w.heap.size, 1, none⟩) (Nat.le_refl _) _).setCell (p := ⟨w.heap.size, 2, none⟩) (Nat.le_refl _) _
  · rw [h2]; exact ((hx1.put 0 (.int .i64 f)).put 1 (.int .i64 x)).put 2 (.int .i64 y)
set_option maxRecDepth 100000 in
set_option maxHeartbeats 8000000 in
theorem psjoin_any {T : Nat → Prop} {R : Nat} {s : Sf} {w : World} (h : PsO T R s w) {f : Int} (hf : -1000000 ≤ f ∧ f ≤ 1000000) (x : Int) :
    Calls Try.prog 18 #[.pointer (some ⟨R, 0, none⟩), .int .i64 f, .int .i64 x] w (PsAns T R (jnT s f x) (.int .i64 (jnE s f x)) w) := by
  have h' := h
  obtain ⟨hs, hT, hTR, a, o, hTa, hTo, hw⟩ := h
  obtain ⟨G, hG, hR⟩ := hw.rem
  obtain ⟨om, hom, hom2, hom3⟩ : ∃ om, (G f).getD (.int .i64 0) = .int .i64 om ∧ (0 ≤ om ∧ om ≤ 1099511627776) ∧ ∀ n : Nat, f = n → n < 32 → om = s.om n := by
    by_cases hin : 0 ≤ f ∧ f < 32
    · obtain ⟨n, rfl⟩ := Int.eq_ofNat_of_zero_le hin.1
      exact ⟨s.om n, hR n (by omega), hs.om n, fun m e _ => congrArg s.om (by omega)⟩
    · exact ⟨0, by rw [hG.out hin]; rfl, by omega, fun n e h2 => absurd ⟨by omega, by omega⟩ hin⟩
  have hnow := hs.now
  obtain ⟨nw, hnw⟩ : ∃ nw, s.now = nw := ⟨_, rfl⟩
  obtain ⟨y, hy⟩ : ∃ y, max nw om = y := ⟨_, rfl⟩
  obtain ⟨W1, hW1⟩ : ∃ W1, w.drew.alloc (.cells #[.int .i64 0, .int .i64 0, .int .i64 0] 52) = W1 := ⟨_, rfl⟩
  obtain ⟨W2, hW2⟩ : ∃ W2, ((W1.setCell ⟨w.heap.size, 0, none⟩ (.int .i64 f)).setCell ⟨w.heap.size, 1, none⟩ (.int .i64 x)).setCell ⟨w.heap.size, 2, none⟩ (.int .i64 y) = W2 := ⟨_, rfl⟩
  obtain ⟨he, he1, hbW, hxW⟩ := join_worlds hw hG hf hom x y hW1.symm hW2.symm
  rw [hnw] at he
  have hy2 : 0 ≤ y ∧ y ≤ 1099511627776 := by omega
  have HV := pistag_any ⟨f, x, y⟩
  rw [va_one hy2] at HV
  unfold Calm aggT at HV
  have HVE := Lib.hid HV
  have HE := Lib.hid he
  have HE1 := Lib.hid he1
  have HY := Lib.hid hy
  have HBW := Lib.hid hbW
  have HXW := Lib.hid hxW
  have HOM := Lib.hid hom3
  have HNW := Lib.hid hnw
  have HH := Lib.hid h'
  have HW := Lib.hid hw
  have HS := Lib.hid hs
  have HTS := Lib.hid (And.intro hTR (And.intro hTa hTo))
  have HF0 := Lib.hid hf
  have hWA : Hid ((w.alloc (.cells #[.int .i64 0, .int .i64 0, .int .i64 0] 52)).drew = W1) := Lib.hid hW1
  have hWB : Hid (((W1.setCell ⟨w.heap.size, 0, none⟩ (.int .i64 f)).setCell ⟨w.heap.size, 1, none⟩ (.int .i64 x)).setCell ⟨w.heap.size, 2, none⟩ (.int .i64 y) = W2) := Lib.hid hW2
  clear he he1 hy hbW hxW hom3 hnw h' hw hs hTR hTa hTo hT hf hW1 hW2 HV hom hom2 hnow hG hR hy2
  go_enter Try.func18, Try.ntmps18
  go_wp2_with fail
  refine wp_region_looseS 48 (by kernel_rfl) (by kernel_rfl) (StA w.drew W1 W2 (fun i => [.int .i64 f, .int .i64 x, .pointer (some ⟨R, 0, none⟩), .pointer (some ⟨R, 0, none⟩), .pointer (some ⟨R, 3, none⟩), .int .i64 nw, .pointer (some ⟨R, 0, none⟩), .pointer (some ⟨R, 0, none⟩), .pointer (some ⟨R, 2, none⟩), .map (some o), .int .i64 f, .int .i64 om, .int .i64 y, .agg #[.int .i64 f, .int .i64 x, .int .i64 y], .pointer (some ⟨w.heap.size, 0, none⟩)].getD i undef) 14 15) rfl StA.start ?_ ?_
  · simp only [OblAllS]
    refine ⟨?_, ?_, ?_, ?_, ?_, ?_, ?_, ?_, ?_, ?_, ?_, ?_, ?_, ?_, ?_, ?_, trivial⟩
    · intro L wx vals hi hu hcl hC
      simp [ClosedL, UpL, predL, predE, Region.binds] at hcl
      have hst : L 15 = false := by clear hC; cases h : L 15 with | false => rfl | true => exfalso; simp_all
      have HCx := Lib.hid hC
      clear hC hcl hu hi hst
      simp only [fillA, if_true, Act.put]
      simp
      go_wp2
      exact ⟨rfl, HCx.out.quiet (by decide) (by decide) rfl⟩
    · intro L wx vals hi hu hcl hC
      simp [ClosedL, UpL, predL, predE, Region.binds] at hcl
      have hst : L 15 = false := by clear hC; cases h : L 15 with | false => rfl | true => exfalso; simp_all
      have HCx := Lib.hid hC
      clear hC hcl hu hi hst
      simp only [fillA, if_true, Act.put]
      simp
      go_wp2
      exact ⟨rfl, HCx.out.quiet (by decide) (by decide) rfl⟩
    · intro L wx vals hi hu hcl hC
      simp [ClosedL, UpL, predL, predE, Region.binds] at hcl
      have hst : L 15 = false := by clear hC; cases h : L 15 with | false => rfl | true => exfalso; simp_all
      have HCx := Lib.hid hC
      clear hC hcl hu hi hst
      simp only [fillA, if_true, Act.put]
      simp
      go_wp2
      exact ⟨rfl, HCx.out.quiet (by decide) (by decide) rfl⟩
    · intro L wx vals hi hu hcl hC
      simp [ClosedL, UpL, predL, predE, Region.binds] at hcl
      simp [predL, predE, Region.binds, UpL] at hu
      have hst : L 15 = false := by clear hC; cases h : L 15 with | false => rfl | true => exfalso; simp_all
      have e2 : vals 2 = .pointer (some ⟨R, 0, none⟩) := hC.v 2 (by decide) (by simp [hu])
      have HCx := Lib.hid hC
      clear hC hcl hu hi hst
      simp only [fillA, if_true, Act.put]
      simp
      simp only [e2]
      clear e2
      go_wp2
      exact ⟨rfl, HCx.out.quiet (by decide) (by decide) rfl⟩
    · intro L wx vals hi hu hcl hC
      simp [ClosedL, UpL, predL, predE, Region.binds] at hcl
      simp [predL, predE, Region.binds, UpL] at hu
      have hst : L 15 = false := by clear hC; cases h : L 15 with | false => rfl | true => exfalso; simp_all
      have e3 : vals 3 = .pointer (some ⟨R, 0, none⟩) := hC.v 3 (by decide) (by simp [hu])
      have HCx := Lib.hid hC
      clear hC hcl hu hi hst
      simp only [fillA, if_true, Act.put]
      simp
      simp only [e3]
      clear e3
      go_wp2
      exact ⟨rfl, HCx.out.quiet (by decide) (by decide) rfl⟩
    · intro L wx vals hi hu hcl hC
      simp [ClosedL, UpL, predL, predE, Region.binds] at hcl
      simp [predL, predE, Region.binds, UpL] at hu
      have hst : L 15 = false := by clear hC; cases h : L 15 with | false => rfl | true => exfalso; simp_all
      have e4 : vals 4 = .pointer (some ⟨R, 3, none⟩) := hC.v 4 (by decide) (by simp [hu])
      obtain ⟨k2, k3, kl⟩ := HE.out wx (hC.ab hst)
      have HCx := Lib.hid hC
      clear hC hcl hu hi hst
      simp only [fillA, if_true, Act.put]
      simp
      simp only [e4]
      clear e4
      go_wp2
      exact ⟨rfl, HCx.out.quiet (by decide) (by decide) rfl⟩
    · intro L wx vals hi hu hcl hC
      simp [ClosedL, UpL, predL, predE, Region.binds] at hcl
      have hst : L 15 = false := by clear hC; cases h : L 15 with | false => rfl | true => exfalso; simp_all
      have HCx := Lib.hid hC
      clear hC hcl hu hi hst
      simp only [fillA, if_true, Act.put]
      simp
      go_wp2
      exact ⟨rfl, HCx.out.quiet (by decide) (by decide) rfl⟩
    · intro L wx vals hi hu hcl hC
      simp [ClosedL, UpL, predL, predE, Region.binds] at hcl
      simp [predL, predE, Region.binds, UpL] at hu
      have hst : L 15 = false := by clear hC; cases h : L 15 with | false => rfl | true => exfalso; simp_all
      have e6 : vals 6 = .pointer (some ⟨R, 0, none⟩) := hC.v 6 (by decide) (by simp [hu])
      have HCx := Lib.hid hC
      clear hC hcl hu hi hst
      simp only [fillA, if_true, Act.put]
      simp
      simp only [e6]
      clear e6
      go_wp2
      exact ⟨rfl, HCx.out.quiet (by decide) (by decide) rfl⟩
    · intro L wx vals hi hu hcl hC
      simp [ClosedL, UpL, predL, predE, Region.binds] at hcl
      simp [predL, predE, Region.binds, UpL] at hu
      have hst : L 15 = false := by clear hC; cases h : L 15 with | false => rfl | true => exfalso; simp_all
      have e7 : vals 7 = .pointer (some ⟨R, 0, none⟩) := hC.v 7 (by decide) (by simp [hu])
      have HCx := Lib.hid hC
      clear hC hcl hu hi hst
      simp only [fillA, if_true, Act.put]
      simp
      simp only [e7]
      clear e7
      go_wp2
      exact ⟨rfl, HCx.out.quiet (by decide) (by decide) rfl⟩
    · intro L wx vals hi hu hcl hC
      simp [ClosedL, UpL, predL, predE, Region.binds] at hcl
      simp [predL, predE, Region.binds, UpL] at hu
      have hst : L 15 = false := by clear hC; cases h : L 15 with | false => rfl | true => exfalso; simp_all
      have e8 : vals 8 = .pointer (some ⟨R, 2, none⟩) := hC.v 8 (by decide) (by simp [hu])
      obtain ⟨k2, k3, kl⟩ := HE.out wx (hC.ab hst)
      have HCx := Lib.hid hC
      clear hC hcl hu hi hst
      simp only [fillA, if_true, Act.put]
      simp
      simp only [e8]
      clear e8
      go_wp2
      exact ⟨rfl, HCx.out.quiet (by decide) (by decide) rfl⟩
    · intro L wx vals hi hu hcl hC
      simp [ClosedL, UpL, predL, predE, Region.binds] at hcl
      have hst : L 15 = false := by clear hC; cases h : L 15 with | false => rfl | true => exfalso; simp_all
      have HCx := Lib.hid hC
      clear hC hcl hu hi hst
      simp only [fillA, if_true, Act.put]
      simp
      go_wp2
      exact ⟨rfl, HCx.out.quiet (by decide) (by decide) rfl⟩
    · intro L wx vals hi hu hcl hC
      simp [ClosedL, UpL, predL, predE, Region.binds] at hcl
      simp [predL, predE, Region.binds, UpL] at hu
      have hst : L 15 = false := by clear hC; cases h : L 15 with | false => rfl | true => exfalso; simp_all
      have e9 : vals 9 = .map (some o) := hC.v 9 (by decide) (by simp [hu])
      have e10 : vals 10 = .int .i64 f := hC.v 10 (by decide) (by simp [hu])
      obtain ⟨k2, k3, kl⟩ := HE.out wx (hC.ab hst)
      have HCx := Lib.hid hC
      clear hC hcl hu hi hst
      simp only [fillA, if_true, Act.put]
      simp
      simp only [e9, e10]
      clear e9 e10
      go_wp2
      exact ⟨rfl, HCx.out.quiet (by decide) (by decide) rfl⟩
    · intro L wx vals hi hu hcl hC
      simp [ClosedL, UpL, predL, predE, Region.binds] at hcl
      simp [predL, predE, Region.binds, UpL] at hu
      have hst : L 15 = false := by clear hC; cases h : L 15 with | false => rfl | true => exfalso; simp_all
      have e5 : vals 5 = .int .i64 nw := hC.v 5 (by decide) (by simp [hu])
      have e11 : vals 11 = .int .i64 om := hC.v 11 (by decide) (by simp [hu])
      have HCx := Lib.hid hC
      clear hC hcl hu hi hst
      simp only [fillA, if_true, Act.put]
      simp
      simp only [e5, e11]
      clear e5 e11
      go_wp2
      all_goals
        have hzz := HY.out
        exact ⟨rfl, HCx.out.quiet (by decide) (by decide) (congrArg (Value.int .i64) (by omega))⟩
    · intro L wx vals hi hu hcl hC
      simp [ClosedL, UpL, predL, predE, Region.binds] at hcl
      simp [predL, predE, Region.binds, UpL] at hu
      have hst : L 15 = false := by clear hC; cases h : L 15 with | false => rfl | true => exfalso; simp_all
      have e0 : vals 0 = .int .i64 f := hC.v 0 (by decide) (by simp [hu])
      have e1 : vals 1 = .int .i64 x := hC.v 1 (by decide) (by simp [hu])
      have e12 : vals 12 = .int .i64 y := hC.v 12 (by decide) (by simp [hu])
      have HCx := Lib.hid hC
      clear hC hcl hu hi hst
      simp only [fillA, if_true, Act.put]
      simp
      simp only [e0, e1, e12]
      clear e0 e1 e12
      go_wp2
      exact ⟨rfl, HCx.out.quiet (by decide) (by decide) rfl⟩
    · intro L wx vals hi hu hcl hC
      simp [ClosedL, UpL, predL, predE, Region.binds] at hcl
      have hst : L 15 = false := by clear hC; cases h : L 15 with | false => rfl | true => exfalso; simp_all
      obtain rfl := hC.a hi hst
      have HM := Lib.hid (hC.make hst (by decide) (x := .pointer (some ⟨w.heap.size, 0, none⟩)) rfl)
      have HCx := Lib.hid hC
      clear hC hcl hu hi hst
      simp only [fillA, if_true, Act.put]
      simp
      go_wp2
      have hq := hWA.out
      rw [hq]
      exact ⟨rfl, HM.out⟩
    · intro L wx vals hi hu hcl hC
      simp [ClosedL, UpL, predL, predE, Region.binds] at hcl
      simp [predL, predE, Region.binds, UpL] at hu
      have hst : L 15 = false := hi
      have e13 : vals 13 = .agg #[.int .i64 f, .int .i64 x, .int .i64 y] := hC.v 13 (by decide) (by simp [hu])
      have e14 : vals 14 = .pointer (some ⟨w.heap.size, 0, none⟩) := hC.v 14 (by decide) (by simp [hu])
      have HQ := Lib.hid (hC.b (by simp [hu]) hst)
      obtain ⟨m0, m1, m2, mf⟩ := HE1.out wx HQ.out
      have HCx := Lib.hid hC
      clear hC hcl hu hi hst
      simp only [fillA, if_true, Act.put]
      simp
      simp only [e13, e14]
      clear e13 e14
      go_wp2
      have hq := HQ.out
      have hq2 := hWB.out
      rw [hq, hq2]
      exact ⟨rfl, HCx.out.write⟩
  · intro wz vals L hC hall
    obtain rfl := hC.c (hall 15 (by simp))
    have e14 : vals 14 = .pointer (some ⟨w.heap.size, 0, none⟩) := hC.v 14 (by decide) (hall 14 (by simp))
    simp only [fillA, if_true, Act.put]
    simp
    simp only [e14]
    clear hC hall e14 hWB
    obtain ⟨V, hV, hWA2⟩ : ∃ V, V = wz ∧ True := ⟨_, rfl, trivial⟩
    subst hV
    have y0 := HXW.out.read 0
    have y1 := HXW.out.read 1
    have y2 := HXW.out.read 2
    simp at y0 y1 y2
    clear hWA hWA2 HE HE1
    have hf := HF0.out
    by_cases hv : 0 ≤ f ∧ f < 32 ∧ wtB x = true
    rotate_left 1
    · have e0 : (decide (0 ≤ f) && decide (f < 32) && wtB x) = false := by
        cases hx : wtB x with
        | false => simp
        | true =>
          have : ¬ (0 ≤ f ∧ f < 32) := fun h1 => hv ⟨h1.1, h1.2, hx⟩
          simp; omega
      obtain ⟨e1, e2⟩ := jn_1 (s := s) hv
      have HV2 := HVE.out V
      rw [e0] at HV2
      have HV2 := Lib.hid HV2
      have HF := Lib.hid (fun (w' : World) (hb : Below w.heap.size w w') => show PsAns T R (jnT s f x) (.int .i64 (jnE s f x)) w (.returned (.int .i64 1)) w' from by rw [e1, e2]; exact PsAns.same HH.out rfl hb)
      clear e0 e1 e2 hv hf
      go_wp2_with fail
      (with_reducible refine HV2.out.mono ?_); rintro e w' ⟨rfl, hb⟩
      have HB := Lib.hid (HBW.out.trans (hb.mono HBW.out.size))
      clear hb
      go_wp2
      go_ret
      exact HF.out _ HB.out
    obtain ⟨hv1, hv2, hx⟩ := hv
    obtain ⟨n, rfl⟩ := Int.eq_ofNat_of_zero_le hv1
    have hn : n < 32 := by omega
    have hd1 : decide ((0 : Int) ≤ (n : Int)) = true := decide_eq_true (by omega)
    have hd2 : decide ((n : Int) < 32) = true := decide_eq_true (by omega)
    have HV2 := HVE.out V
    rw [hd1, hd2, hx] at HV2
    have HV2 := Lib.hid HV2
    clear hv1 hv2 hf hd1 hd2
    cases ho : s.on n
    rotate_left 1
    · obtain ⟨e1, e2⟩ := jn_7 hn hx ho
      have HF := Lib.hid (fun (w' : World) (hb : Below w.heap.size w w') => show PsAns T R (jnT s n x) (.int .i64 (jnE s n x)) w (.returned (.int .i64 7)) w' from by rw [e1, e2]; exact PsAns.same HH.out rfl hb)
      have HON := Lib.hid ho
      clear e1 e2 hx ho
      go_wp2_with fail
      (with_reducible refine HV2.out.mono ?_); rintro e w' ⟨rfl, hb⟩
      have hb1 := HBW.out.trans (hb.mono HBW.out.size)
      have hw1 := HW.out.later hb1
      obtain ⟨_, t1, _, _, _, _⟩ := hw1.cells
      have hl := act_look hw1.act hn HON.out
      have HB := Lib.hid hb1
      have hsz := hb1.size
      clear hb hb1 hw1
      go_wp2
      go_ret
      exact HF.out _ (HB.out.alloc hsz _)
    · obtain ⟨e1, e2⟩ := jn_0 hn hx ho
      have HE12 := Lib.hid (And.intro e1 e2)
      have hok := HS.out.jn (n : Int) x
      rw [e2] at hok
      have HOK := Lib.hid hok
      have HON := Lib.hid ho
      have HEY : Hid (y = max s.now (s.om n)) := Lib.hid (by rw [← HY.out, HNW.out, HOM.out n rfl hn])
      clear e1 e2 hx ho hok
      go_wp2_with fail
      (with_reducible refine HV2.out.mono ?_); rintro e w' ⟨rfl, hb⟩
      have hb1 := HBW.out.trans (hb.mono HBW.out.size)
      have hsz := hb1.size
      have hw1 := HW.out.later hb1
      obtain ⟨_, t1, _, _, _, _⟩ := hw1.cells
      have hl := act_look_no hw1.act (k := n) (by omega) (by rw [here_is hn]; exact HON.out)
      have hb2 := hb1.alloc hsz (.cells #[.int .i64 0, .int .i64 0, .int .i64 0] 52)
      have hw2 := HW.out.later hb2
      have hX2 := (HXW.out.later (hb.mono (Nat.le_refl _))).alloc (.cells #[.int .i64 0, .int .i64 0, .int .i64 0] 52)
      have z0 := hX2.read 0
      have z1 := hX2.read 1
      have z2 := hX2.read 2
      simp at z0 z1 z2
      obtain ⟨_, u1, u2, _, _, _⟩ := hw2.cells
      have hac : iset (actF s) n (some (.agg #[.int .i64 n, .int .i64 x, .int .i64 y])) = actF { s.join n x with om := s.om } := by
        rw [HEY.out]; exact act_join hn x
      obtain ⟨w3, hrun3, hw3, hg3, hz3⟩ := hw2.drew.actPut (t := { s.join n x with om := s.om }) hn hac ⟨rfl, rfl, rfl, rfl⟩
      obtain ⟨w4, hrun4, hw4, hg4, hz4⟩ := hw3.remDel (t := s.join n x) hn rfl ⟨rfl, rfl, rfl⟩ ⟨rfl, rfl, rfl⟩ 0
      obtain ⟨_, _, v2, _, _, _⟩ := hw3.cells
      have hc4 : Chg T w w4 := (((Chg.of_below hb2).drew).grownIn hg3 (.inl HTS.out.2.1)).grownIn hg4 (.inl HTS.out.2.2)
      have HF := Lib.hid (show PsAns T R (jnT s n x) (.int .i64 (jnE s n x)) w (.returned (.int .i64 0)) w4 from by rw [HE12.out.1, HE12.out.2]; exact PsAns.mk rfl HOK.out hw4 HTS.out.1 (.inl HTS.out.2.1) (.inl HTS.out.2.2) hc4)
      clear hb hb1 hb2 hw1 hw2 hX2 hac hw3 hg3 hz3 hw4 hg4 hz4 hc4
      go_wp2_with fail
      refine region_tail 6 (by kernel_rfl) (by kernel_rfl) ?_
      simp only [List.take_succ_cons, List.take_zero, List.drop_succ_cons, List.drop_zero]
      repeat still_step
      refine wpStill_nil ?_
      go_wp2
      go_ret
      exact HF.out
end Go.Proofs.Ytkfhjpgapmfiaaa

