/-
  Layer 18: the program's New, Accept, Send, Drop. Written by gen_lfp5.py.
-/
import Derived.Test.YtkhngfadhfomoaaLfP4
namespace Go.Proofs.Ytkhngfadhfomoaa
open Go.ChangeShapes Go.WideShapes Go.ChangeAt Go.RowKit
set_option linter.unusedVariables false

/-! ### New -/
def lp257 : Array Value := #[.slice none 0 0, .int .i64 0, .int .i64 0, .int .i64 0, .int .i64 0, .int .i64 0, .int .i64 0, .slice none 0 0, .int .i64 0, .int .i64 0, .int .i64 0, .int .i64 0, .int .i64 0, .int .i64 0, .int .i64 0, .slice none 0 0, .int .i64 0, .int .i64 0, .int .i64 0, .int .i64 0, .int .i64 0, .int .i64 0, .int .i64 0, .slice none 0 0, .int .i64 0, .int .i64 0, .int .i64 0, .int .i64 0, .int .i64 0, .int .i64 0, .int .i64 0, .slice none 0 0, .int .i64 0, .int .i64 0, .int .i64 0, .int .i64 0, .int .i64 0, .int .i64 0, .int .i64 0, .slice none 0 0, .int .i64 0, .int .i64 0, .int .i64 0, .int .i64 0, .int .i64 0, .int .i64 0, .int .i64 0, .slice none 0 0, .int .i64 0, .int .i64 0, .int .i64 0, .int .i64 0, .int .i64 0, .int .i64 0, .int .i64 0, .slice none 0 0, .int .i64 0, .int .i64 0, .int .i64 0, .int .i64 0, .int .i64 0, .int .i64 0, .int .i64 0, .slice none 0 0, .int .i64 0, .int .i64 0, .int .i64 0, .int .i64 0, .int .i64 0, .int .i64 0, .int .i64 0, .slice none 0 0, .int .i64 0, .int .i64 0, .int .i64 0, .int .i64 0, .int .i64 0, .int .i64 0, .int .i64 0, .slice none 0 0, .int .i64 0, .int .i64 0, .int .i64 0, .int .i64 0, .int .i64 0, .int .i64 0, .int .i64 0, .slice none 0 0, .int .i64 0, .int .i64 0, .int .i64 0, .int .i64 0, .int .i64 0, .int .i64 0, .int .i64 0, .slice none 0 0, .int .i64 0, .int .i64 0, .int .i64 0, .int .i64 0, .int .i64 0, .int .i64 0, .int .i64 0, .slice none 0 0, .int .i64 0, .int .i64 0, .int .i64 0, .int .i64 0, .int .i64 0, .int .i64 0, .int .i64 0, .slice none 0 0, .int .i64 0, .int .i64 0, .int .i64 0, .int .i64 0, .int .i64 0, .int .i64 0, .int .i64 0, .slice none 0 0, .int .i64 0, .int .i64 0, .int .i64 0, .int .i64 0, .int .i64 0, .int .i64 0, .int .i64 0, .slice none 0 0, .int .i64 0, .int .i64 0, .int .i64 0, .int .i64 0, .int .i64 0, .int .i64 0, .int .i64 0, .slice none 0 0, .int .i64 0, .int .i64 0, .int .i64 0, .int .i64 0, .int .i64 0, .int .i64 0, .int .i64 0, .slice none 0 0, .int .i64 0, .int .i64 0, .int .i64 0, .int .i64 0, .int .i64 0, .int .i64 0, .int .i64 0, .slice none 0 0, .int .i64 0, .int .i64 0, .int .i64 0, .int .i64 0, .int .i64 0, .int .i64 0, .int .i64 0, .slice none 0 0, .int .i64 0, .int .i64 0, .int .i64 0, .int .i64 0, .int .i64 0, .int .i64 0, .int .i64 0, .slice none 0 0, .int .i64 0, .int .i64 0, .int .i64 0, .int .i64 0, .int .i64 0, .int .i64 0, .int .i64 0, .slice none 0 0, .int .i64 0, .int .i64 0, .int .i64 0, .int .i64 0, .int .i64 0, .int .i64 0, .int .i64 0, .slice none 0 0, .int .i64 0, .int .i64 0, .int .i64 0, .int .i64 0, .int .i64 0, .int .i64 0, .int .i64 0, .slice none 0 0, .int .i64 0, .int .i64 0, .int .i64 0, .int .i64 0, .int .i64 0, .int .i64 0, .int .i64 0, .slice none 0 0, .int .i64 0, .int .i64 0, .int .i64 0, .int .i64 0, .int .i64 0, .int .i64 0, .int .i64 0, .slice none 0 0, .int .i64 0, .int .i64 0, .int .i64 0, .int .i64 0, .int .i64 0, .int .i64 0, .int .i64 0, .slice none 0 0, .int .i64 0, .int .i64 0, .int .i64 0, .int .i64 0, .int .i64 0, .int .i64 0, .int .i64 0, .slice none 0 0, .int .i64 0, .int .i64 0, .int .i64 0, .int .i64 0, .int .i64 0, .int .i64 0, .int .i64 0, .slice none 0 0, .int .i64 0, .int .i64 0, .int .i64 0, .int .i64 0, .int .i64 0, .int .i64 0, .int .i64 0, .slice none 0 0, .int .i64 0, .int .i64 0, .int .i64 0, .int .i64 0, .int .i64 0, .int .i64 0, .int .i64 0, .slice none 0 0, .int .i64 0, .int .i64 0, .int .i64 0, .int .i64 0, .int .i64 0, .int .i64 0, .int .i64 0, .slice none 0 0, .int .i64 0]
theorem lp257_is : lp257 = ((List.range 257).map fun i => lpC (lpM LfS.new) (.slice none 0 0) (fun _ => .slice none 0 0) i).toArray := by kernel_rfl
theorem lp257_at : ∀ i, i < 257 → lp257[i]? = some (lpC (lpM LfS.new) (.slice none 0 0) (fun _ => .slice none 0 0) i) := by
  intro i hi
  rw [lp257_is]
  simp [hi]
set_option maxRecDepth 100000 in
set_option maxHeartbeats 8000000 in
theorem pfnew_any {base : Nat} : Acts 8 #[] base Emp (fun R : Nat => .pointer (some ⟨R, 0, none⟩)) fun R => LfW R LfS.new := by
  intro T w hP hb hs
  have hW := Whole.fresh w 59 lp257
  have hR : LfW w.heap.size LfS.new (fun k => k = w.heap.size) (w.alloc (.cells lp257 59)) :=
    ⟨LfO.new, fun k hk => by rw [hk]; simp, rfl, .slice none 0 0, fun _ => .slice none 0 0, ⟨lp257, hW, by rfl, lp257_at⟩, World.ownsRow_nil _ _ _ _, fun f hf => World.ownsRow_nil _ _ _ _, (fun b hb => by cases hb), (fun f hf b hb => by cases hb), fun f g _ _ _ b hb => by cases hb⟩
  have HF := Lib.hid (show ∃ i : Nat, Ending.returned (.pointer (some ⟨w.heap.size, 0, none⟩)) = .returned (.pointer (some ⟨i, 0, none⟩)) ∧ (∃ T', LfW i LfS.new T' (w.alloc (.cells lp257 59)) ∧ ∀ k, T' k → T k ∨ w.heap.size ≤ k) ∧ Chg T w (w.alloc (.cells lp257 59)) from
    ⟨w.heap.size, rfl, ⟨_, hR, fun k hk => .inr (by rw [hk]; exact Nat.le_refl _)⟩, Chg.of_below ((Below.refl _ _).alloc (Nat.le_refl _) _)⟩)
  clear hW hR hP hb hs
  have hz : ∀ W : World, (zeroValue 59).run Try.prog W = .ok (.agg lp257) W := fun _ => by kernel_rfl
  go_enter Try.func8, Try.ntmps8
  go_wp2
  go_ret
  exact HF.out
/-! ### Accept -/
set_option maxRecDepth 100000 in
set_option maxHeartbeats 8000000 in
theorem pfacc_any {R : Nat} {s : LfS} {base : Nat} (hb9 : LfB s 9999) (f n : Int) : Acts 24 #[.pointer (some ⟨R, 0, none⟩), .int .i64 f, .int .i64 n] base (LfW R s) (fun _ : Unit => .tuple #[.int .i64 (lfAcV s f n), .int .i64 (lfAcE f n)]) fun _ => LfW R (s.acc f n) := by
  intro T w hP hb hs
  have HFL := Lib.hid (pfflow_any f w)
  by_cases hE0 : lfAcE f n = 0
  · have hc : lfF f = true ∧ 1 ≤ n ∧ n ≤ 4096 := by
      unfold lfAcE at hE0
      by_cases h1 : lfF f = true ∧ 1 ≤ n ∧ n ≤ 4096
      · exact h1
      · rw [if_neg h1] at hE0; cases hE0
    obtain ⟨hf, hn1, hn2⟩ := hc
    have hV : lfAcV s f n = s.l.length + 1 := by unfold lfAcV; rw [if_pos hE0]
    rw [hE0, hV]
    rw [hf] at HFL
    have hff := lfF_yes hf
    obtain ⟨k, rfl⟩ : ∃ k : Nat, f = k := ⟨f.toNat, by omega⟩
    have hk : k < 32 := by omega
    have hln := hb9.l
    have hA : s.acc k n = { s with l := s.l ++ [⟨k, n, 1, 0⟩] } := by unfold LfS.acc; rw [if_pos hE0]
    have hO := hP.1.acc k n
    obtain ⟨A0, c0, A, c, w3, d0, hrun, k0, z0, ⟨T1, hP1, hT1⟩, hch1⟩ := hP.2.addP (by show s.l.length ≤ _; omega) ⟨k, n, 1, 0⟩
    obtain ⟨W1, hW1⟩ : ∃ W1, w3.setCell ⟨R, 0, none⟩ (.slice A ((lpM s).l.length + 1) c) = W1 := ⟨_, rfl⟩
    rw [hW1] at hP1 hch1
    have hP2 := hP1.later (Below.refl _ W1).drew
    obtain ⟨q1, z1⟩ := hP2.cnt hk (j := 1) (by omega)
    have hX := hP2.setC hk (j := 1) (by omega) (lfCn s k 1 + 1)
    obtain ⟨W2, hW2⟩ : ∃ W2, W1.drew.setCell ⟨R, 1 + k * 8 + 1, none⟩ (.int .i64 (lfCn s k 1 + 1)) = W2 := ⟨_, rfl⟩
    rw [hW2] at hX
    obtain ⟨A2, c2, d2, _, _⟩ := hX.1.pk
    have hl2 : (((lpM s).el ((lpM s).l ++ [⟨k, n, 1, 0⟩])).cn k 1 (lfCn s k 1 + 1)).l.length = s.l.length + 1 := by simp [LpS.cn, LpS.el, lpM]
    rw [hl2] at d2
    have q1' : W1.drew.cell? ⟨R, 1 + k * 8 + 1, none⟩ = some (.int .i64 (lfCn s k 1)) := q1
    have HF := Lib.hid (show (∃ T', LfW R (s.acc k n) T' W2 ∧ ∀ j, T' j → T j ∨ w.heap.size ≤ j) ∧ Chg T w W2 from by
      refine ⟨⟨T1, ⟨hO, ?_⟩, hT1⟩, hch1.join ((Chg.of_below (S := T1) (Below.refl _ W1).drew).trans hX.2) hT1⟩
      rw [hA]
      refine hX.1.same rfl (fun g i hg hi => ?_) (fun g hg => rfl) (fun g hg => ?_) (fun g hg => by_snoc s.l ⟨k, n, 1, 0⟩ g (by show (1 : Int) ≠ 3; decide))
      · show lfCn ⟨s.l ++ [⟨k, n, 1, 0⟩], s.d, s.r⟩ g i = if g = k ∧ i = 1 then lfCn s k 1 + 1 else lfCn s g i
        unfold lfCn
        by_cases h : g = k ∧ i = 1
        · obtain ⟨rfl, rfl⟩ := h
          simp [List.filter_append]
        · rw [if_neg h]
          have h7 : ¬ ((k : Int) = g ∧ (1 : Int) = i) := fun h9 => h ⟨by omega, by omega⟩
          simp [List.filter_append, h7]
      · exact od_congr fun q hq => (app_fl (hP.1.ok.d q hq) _ _ _).1)
    have hcb : 0 ≤ lfCn s k 1 ∧ lfCn s k 1 ≤ s.l.length := by
      have := List.length_filter_le (fun e : LfE => e.f == (k : Int) && e.s == 1) s.l
      unfold lfCn; omega
    clear hP hP1 hP2 hX hO hA hch1 hT1 hb hs hE0 hV hb9 hf q1 hl2
    simp only [lpM] at d0 hrun k0 hW1
    generalize lfCn s k 1 = cc at *
    generalize s.l.length = m at *
    obtain ⟨d, hmd⟩ : ∃ d : Int, (m : Int) = d := ⟨_, rfl⟩
    have HMD := Lib.hid hmd
    have HW1 := Lib.hid hW1
    have HW2 := Lib.hid hW2
    have hfull : (d == 262144) = false := by simp; omega
    have hw : IntKind.i64.wrap (cc + 1) = cc + 1 := IntWalk.i64_in _ (by omega)
    have hk2 : (k : Int) < 32 := by omega
    have hk0 : (0 : Int) ≤ (k : Int) := by omega
    clear hW1 hW2
    go_enter Try.func24, Try.ntmps24
    go_wp2_with fail
    (with_reducible refine HFL.out.mono ?_); rintro e w1 ⟨rfl, rfl⟩
    go_wp2_with (first | (at_builtin; refine wpList_append_run rfl (.tmp 29) (.tmp 33) 53 rfl rfl rfl hrun ?_) | fail)
    rw [HW1.out]
    clear HMD
    refine wp_region_looseS 56 (by kernel_rfl) (by kernel_rfl) (StC (W1.drew) (W1.drew.setCell ⟨R, 1 + k * 8 + 1, none⟩ (.int .i64 (cc + 1))) (fun i => [.pointer (some ⟨R, 0, none⟩), .int .i64 (k : Nat), .pointer (some ⟨R, 0, none⟩), .pointer (some ⟨R, 1, none⟩), .pointer (some ⟨R, 1 + k * 8, none⟩), .pointer (some ⟨R, 1 + k * 8, none⟩), .pointer (some ⟨R, 1 + k * 8 + 1, none⟩), .int .i64 cc, .int .i64 (cc + 1), .pointer (some ⟨R, 0, none⟩), .pointer (some ⟨R, 1, none⟩), .pointer (some ⟨R, 1 + k * 8, none⟩), .pointer (some ⟨R, 1 + k * 8, none⟩), .pointer (some ⟨R, 1 + k * 8 + 1, none⟩)].getD i undef) 14) rfl StC.start ?_ ?_
    · simp only [OblAllS]
      refine ⟨?_, ?_, ?_, ?_, ?_, ?_, ?_, ?_, ?_, ?_, ?_, ?_, ?_, ?_, ?_, trivial⟩
      · intro L wx vals hi hu hcl hC
        simp [ClosedL, UpL, predL, predE, Region.binds] at hcl
        have hst : L 14 = false := by clear hC; cases h : L 14 with | false => rfl | true => exfalso; clear HF HFL; first | (simp_all; done) | grind
        obtain rfl := hC.a hst
        have HCx := Lib.hid hC
        clear hC hcl hu hi hst
        simp only [fillA, if_true, Act.put]
        simp
        go_wp2
        exact ⟨rfl, HCx.out.quiet (by decide) rfl⟩
      · intro L wx vals hi hu hcl hC
        simp [ClosedL, UpL, predL, predE, Region.binds] at hcl
        have hst : L 14 = false := by clear hC; cases h : L 14 with | false => rfl | true => exfalso; clear HF HFL; first | (simp_all; done) | grind
        obtain rfl := hC.a hst
        have HCx := Lib.hid hC
        clear hC hcl hu hi hst
        simp only [fillA, if_true, Act.put]
        simp
        go_wp2
        exact ⟨rfl, HCx.out.quiet (by decide) rfl⟩
      · intro L wx vals hi hu hcl hC
        simp [ClosedL, UpL, predL, predE, Region.binds] at hcl
        simp [predL, predE, Region.binds, UpL] at hu
        have hst : L 14 = false := by clear hC; cases h : L 14 with | false => rfl | true => exfalso; clear HF HFL; first | (simp_all; done) | grind
        have e0 : vals 0 = .pointer (some ⟨R, 0, none⟩) := hC.v 0 (by decide) (by simp [hu])
        obtain rfl := hC.a hst
        have HCx := Lib.hid hC
        clear hC hcl hu hi hst
        simp only [fillA, if_true, Act.put]
        simp
        simp only [e0]
        clear e0
        go_wp2
        exact ⟨rfl, HCx.out.quiet (by decide) rfl⟩
      · intro L wx vals hi hu hcl hC
        simp [ClosedL, UpL, predL, predE, Region.binds] at hcl
        simp [predL, predE, Region.binds, UpL] at hu
        have hst : L 14 = false := by clear hC; cases h : L 14 with | false => rfl | true => exfalso; clear HF HFL; first | (simp_all; done) | grind
        have e2 : vals 2 = .pointer (some ⟨R, 0, none⟩) := hC.v 2 (by decide) (by simp [hu])
        obtain rfl := hC.a hst
        have HCx := Lib.hid hC
        clear hC hcl hu hi hst
        simp only [fillA, if_true, Act.put]
        simp
        simp only [e2]
        clear e2
        go_wp2
        exact ⟨rfl, HCx.out.quiet (by decide) rfl⟩
      · intro L wx vals hi hu hcl hC
        simp [ClosedL, UpL, predL, predE, Region.binds] at hcl
        simp [predL, predE, Region.binds, UpL] at hu
        have hst : L 14 = false := by clear hC; cases h : L 14 with | false => rfl | true => exfalso; clear HF HFL; first | (simp_all; done) | grind
        have e1 : vals 1 = .int .i64 (k : Nat) := hC.v 1 (by decide) (by simp [hu])
        have e3 : vals 3 = .pointer (some ⟨R, 1, none⟩) := hC.v 3 (by decide) (by simp [hu])
        obtain rfl := hC.a hst
        have HCx := Lib.hid hC
        clear hC hcl hu hi hst
        simp only [fillA, if_true, Act.put]
        simp
        simp only [e1, e3]
        clear e1 e3
        go_wp2
        exact ⟨rfl, HCx.out.quiet (by decide) rfl⟩
      · intro L wx vals hi hu hcl hC
        simp [ClosedL, UpL, predL, predE, Region.binds] at hcl
        simp [predL, predE, Region.binds, UpL] at hu
        have hst : L 14 = false := by clear hC; cases h : L 14 with | false => rfl | true => exfalso; clear HF HFL; first | (simp_all; done) | grind
        have e4 : vals 4 = .pointer (some ⟨R, 1 + k * 8, none⟩) := hC.v 4 (by decide) (by simp [hu])
        obtain rfl := hC.a hst
        have HCx := Lib.hid hC
        clear hC hcl hu hi hst
        simp only [fillA, if_true, Act.put]
        simp
        simp only [e4]
        clear e4
        go_wp2
        exact ⟨rfl, HCx.out.quiet (by decide) rfl⟩
      · intro L wx vals hi hu hcl hC
        simp [ClosedL, UpL, predL, predE, Region.binds] at hcl
        simp [predL, predE, Region.binds, UpL] at hu
        have hst : L 14 = false := by clear hC; cases h : L 14 with | false => rfl | true => exfalso; clear HF HFL; first | (simp_all; done) | grind
        have e5 : vals 5 = .pointer (some ⟨R, 1 + k * 8, none⟩) := hC.v 5 (by decide) (by simp [hu])
        obtain rfl := hC.a hst
        have HCx := Lib.hid hC
        clear hC hcl hu hi hst
        simp only [fillA, if_true, Act.put]
        simp
        simp only [e5]
        clear e5
        go_wp2
        exact ⟨rfl, HCx.out.quiet (by decide) rfl⟩
      · intro L wx vals hi hu hcl hC
        simp [ClosedL, UpL, predL, predE, Region.binds] at hcl
        simp [predL, predE, Region.binds, UpL] at hu
        have hst : L 14 = false := by clear hC; cases h : L 14 with | false => rfl | true => exfalso; clear HF HFL; first | (simp_all; done) | grind
        have e6 : vals 6 = .pointer (some ⟨R, 1 + k * 8 + 1, none⟩) := hC.v 6 (by decide) (by simp [hu])
        obtain rfl := hC.a hst
        have HCx := Lib.hid hC
        clear hC hcl hu hi hst
        simp only [fillA, if_true, Act.put]
        simp
        simp only [e6]
        clear e6
        go_wp2
        exact ⟨rfl, HCx.out.quiet (by decide) rfl⟩
      · intro L wx vals hi hu hcl hC
        simp [ClosedL, UpL, predL, predE, Region.binds] at hcl
        simp [predL, predE, Region.binds, UpL] at hu
        have hst : L 14 = false := by clear hC; cases h : L 14 with | false => rfl | true => exfalso; clear HF HFL; first | (simp_all; done) | grind
        have e7 : vals 7 = .int .i64 cc := hC.v 7 (by decide) (by simp [hu])
        obtain rfl := hC.a hst
        have HCx := Lib.hid hC
        clear hC hcl hu hi hst
        simp only [fillA, if_true, Act.put]
        simp
        simp only [e7]
        clear e7
        go_wp2
        exact ⟨rfl, HCx.out.quiet (by decide) rfl⟩
      · intro L wx vals hi hu hcl hC
        simp [ClosedL, UpL, predL, predE, Region.binds] at hcl
        simp [predL, predE, Region.binds, UpL] at hu
        have hst : L 14 = false := by clear hC; cases h : L 14 with | false => rfl | true => exfalso; clear HF HFL; first | (simp_all; done) | grind
        have e0 : vals 0 = .pointer (some ⟨R, 0, none⟩) := hC.v 0 (by decide) (by simp [hu])
        obtain rfl := hC.a hst
        have HCx := Lib.hid hC
        clear hC hcl hu hi hst
        simp only [fillA, if_true, Act.put]
        simp
        simp only [e0]
        clear e0
        go_wp2
        exact ⟨rfl, HCx.out.quiet (by decide) rfl⟩
      · intro L wx vals hi hu hcl hC
        simp [ClosedL, UpL, predL, predE, Region.binds] at hcl
        simp [predL, predE, Region.binds, UpL] at hu
        have hst : L 14 = false := by clear hC; cases h : L 14 with | false => rfl | true => exfalso; clear HF HFL; first | (simp_all; done) | grind
        have e9 : vals 9 = .pointer (some ⟨R, 0, none⟩) := hC.v 9 (by decide) (by simp [hu])
        obtain rfl := hC.a hst
        have HCx := Lib.hid hC
        clear hC hcl hu hi hst
        simp only [fillA, if_true, Act.put]
        simp
        simp only [e9]
        clear e9
        go_wp2
        exact ⟨rfl, HCx.out.quiet (by decide) rfl⟩
      · intro L wx vals hi hu hcl hC
        simp [ClosedL, UpL, predL, predE, Region.binds] at hcl
        simp [predL, predE, Region.binds, UpL] at hu
        have hst : L 14 = false := by clear hC; cases h : L 14 with | false => rfl | true => exfalso; clear HF HFL; first | (simp_all; done) | grind
        have e1 : vals 1 = .int .i64 (k : Nat) := hC.v 1 (by decide) (by simp [hu])
        have e10 : vals 10 = .pointer (some ⟨R, 1, none⟩) := hC.v 10 (by decide) (by simp [hu])
        obtain rfl := hC.a hst
        have HCx := Lib.hid hC
        clear hC hcl hu hi hst
        simp only [fillA, if_true, Act.put]
        simp
        simp only [e1, e10]
        clear e1 e10
        go_wp2
        exact ⟨rfl, HCx.out.quiet (by decide) rfl⟩
      · intro L wx vals hi hu hcl hC
        simp [ClosedL, UpL, predL, predE, Region.binds] at hcl
        simp [predL, predE, Region.binds, UpL] at hu
        have hst : L 14 = false := by clear hC; cases h : L 14 with | false => rfl | true => exfalso; clear HF HFL; first | (simp_all; done) | grind
        have e11 : vals 11 = .pointer (some ⟨R, 1 + k * 8, none⟩) := hC.v 11 (by decide) (by simp [hu])
        obtain rfl := hC.a hst
        have HCx := Lib.hid hC
        clear hC hcl hu hi hst
        simp only [fillA, if_true, Act.put]
        simp
        simp only [e11]
        clear e11
        go_wp2
        exact ⟨rfl, HCx.out.quiet (by decide) rfl⟩
      · intro L wx vals hi hu hcl hC
        simp [ClosedL, UpL, predL, predE, Region.binds] at hcl
        simp [predL, predE, Region.binds, UpL] at hu
        have hst : L 14 = false := by clear hC; cases h : L 14 with | false => rfl | true => exfalso; clear HF HFL; first | (simp_all; done) | grind
        have e12 : vals 12 = .pointer (some ⟨R, 1 + k * 8, none⟩) := hC.v 12 (by decide) (by simp [hu])
        obtain rfl := hC.a hst
        have HCx := Lib.hid hC
        clear hC hcl hu hi hst
        simp only [fillA, if_true, Act.put]
        simp
        simp only [e12]
        clear e12
        go_wp2
        exact ⟨rfl, HCx.out.quiet (by decide) rfl⟩
      · intro L wx vals hi hu hcl hC
        simp [ClosedL, UpL, predL, predE, Region.binds] at hcl
        simp [predL, predE, Region.binds, UpL] at hu
        have hst : L 14 = false := hi
        have e8 : vals 8 = .int .i64 (cc + 1) := hC.v 8 (by decide) (by simp [hu])
        have e13 : vals 13 = .pointer (some ⟨R, 1 + k * 8 + 1, none⟩) := hC.v 13 (by decide) (by simp [hu])
        obtain rfl := hC.a hst
        have HCx := Lib.hid hC
        clear hC hcl hu hi hst
        simp only [fillA, if_true, Act.put]
        simp
        simp only [e8, e13]
        clear e8 e13
        go_wp2
        exact ⟨rfl, HCx.out.write⟩
    · intro wz vals U hC hall
      have hz := hC.b (hall 14 (by simp))
      subst hz
      simp only [fillA, if_true, Act.put]
      simp
      clear hC hall q1' z1
      generalize vals 0 = t0 at *
      generalize vals 1 = t1 at *
      generalize vals 2 = t2 at *
      generalize vals 3 = t3 at *
      generalize vals 4 = t4 at *
      generalize vals 5 = t5 at *
      generalize vals 6 = t6 at *
      generalize vals 7 = t7 at *
      generalize vals 8 = t8 at *
      generalize vals 9 = t9 at *
      generalize vals 10 = t10 at *
      generalize vals 11 = t11 at *
      generalize vals 12 = t12 at *
      generalize vals 13 = t13 at *
      rw [HW2.out]
      go_wp2
      subst hmd
      go_ret2
      first | exact ⟨rfl, HF.out⟩ | exact ⟨(), rfl, HF.out⟩
  · have hE : lfAcE f n = 1 := by unfold lfAcE at hE0 ⊢; split at hE0 <;> simp_all
    have hV : lfAcV s f n = 0 := by unfold lfAcV; rw [if_neg hE0]
    have hA : s.acc f n = s := by unfold LfS.acc; rw [if_neg hE0]
    rw [hE, hV, hA]
    have hc : lfF f = false ∨ (lfF f = true ∧ n < 1) ∨ (lfF f = true ∧ 1 ≤ n ∧ 4096 < n) := by
      unfold lfAcE at hE0
      cases hf : lfF f
      · exact .inl rfl
      · by_cases h1 : n < 1
        · exact .inr (.inl ⟨rfl, h1⟩)
        · by_cases h2 : 4096 < n
          · exact .inr (.inr ⟨rfl, by omega, h2⟩)
          · exact absurd (if_pos ⟨hf, by omega, by omega⟩) hE0
    have HF := Lib.hid (show (∃ T', LfW R s T' w ∧ ∀ j, T' j → T j ∨ w.heap.size ≤ j) ∧ Chg T w w from ⟨⟨T, hP, fun k hk => .inl hk⟩, Chg.refl _ _⟩)
    clear hP hb hs hE hA hb9 hV hE0
    rcases hc with hf | ⟨hf, h1⟩ | ⟨hf, h1, h2⟩
    all_goals
      rw [hf] at HFL
      clear hf
      go_enter Try.func24, Try.ntmps24
      go_wp2_with fail
      (with_reducible refine HFL.out.mono ?_); rintro e w1 ⟨rfl, rfl⟩
      go_wp2
      go_ret2
      first | exact ⟨rfl, HF.out⟩ | exact ⟨(), rfl, HF.out⟩
/-! ### Send, Drop -/
/-- What is needed of the packet that is moved. -/
structure LfK (s : LfS) (id : Int) (k f j : Nat) (e : LfE) : Prop where
  hid : id = (k : Int) + 1
  hk : k < s.l.length
  hi : lfIn s id
  hkI : k = lfI id
  he : s.l[k] = e
  hg : lpG s.l id = e
  hf : e.f = f
  hj : e.s = j
  hfl : f < 32
  hjl : j < 5
theorem LfK.of {s : LfS} (h : LfOk s) {id : Int} (hn : lfSt s id ≠ 0) : ∃ k f j e, LfK s id k f j e ∧ (j : Int) = lfSt s id ∧ e.y = lfWy s id ∧ lfFl s id = f := by
  have hi := lfSt_in hn
  have hl := lfI_lt hi
  have hk := lfI_is hi
  obtain ⟨e1, e2, e3⟩ := h.e _ (List.getElem_mem hl)
  have e4 : lfSt s id = (s.l[lfI id]).s := by unfold lfSt; rw [dif_pos hi]
  have e5 : lfWy s id = (s.l[lfI id]).y := by unfold lfWy; rw [dif_pos hi]
  have e6 : lfFl s id = (s.l[lfI id]).f := by unfold lfFl; rw [dif_pos hi]
  refine ⟨lfI id, (s.l[lfI id]).f.toNat, (s.l[lfI id]).s.toNat, s.l[lfI id], ⟨by omega, hl, hi, rfl, rfl, lpG_in (by omega) hl, by omega, by omega, by omega, by omega⟩, by omega, e5.symm, by omega⟩
theorem cn_bd (s : LfS) (f x : Int) : 0 ≤ lfCn s f x ∧ lfCn s f x ≤ s.l.length := by
  have := List.length_filter_le (fun e : LfE => e.f == f && e.s == x) s.l
  unfold lfCn; omega
theorem LfK.move {R k f j x : Nat} {s : LfS} {id : Int} {e : LfE} {base : Nat} (h : LfK s id k f j e) (hb9 : LfB s 9999) (hx : x < 5) (hjx : x ≠ j) :
    Acts 38 #[.pointer (some ⟨R, 0, none⟩), .int .i64 id, .int .i64 (x : Nat)] base (LpP R (lpM s)) (fun _ : Unit => .tuple #[]) fun _ => LpP R ((lpM s).mv k f j x e) := by
  have h9 := hb9.l
  have := pfmove_any (R := R) (base := base) (m := lpM s) (k := k) (f := f) (j := j) (x := x) (e := e) h.hk (by show s.l.length ≤ 99999; omega) h.he h.hf h.hj h.hfl h.hjl hx hjx (fun i => by have := cn_bd s f i; show 0 ≤ lfCn s f i ∧ lfCn s f i ≤ 99999; omega)
  rw [h.hid]
  exact this
set_option maxRecDepth 100000 in
set_option maxHeartbeats 8000000 in
theorem pfsnd_any {R : Nat} {s : LfS} {base : Nat} (hb9 : LfB s 9999) (id : Int) : Acts 25 #[.pointer (some ⟨R, 0, none⟩), .int .i64 id] base (LfW R s) (fun _ : Unit => .int .i64 (lfSdE s id)) fun _ => LfW R (s.snd id) := by
  intro T w hP hb hs
  have hst := (hP.1.ok.st id).2
  have hln := hb9.l
  by_cases h12 : lfSt s id = 1
  · have h1 := pfstate_any (show s.l.length ≤ 99999 by omega) hP.2 id
    simp only [lpM] at h1
    rw [← lpG_st] at h1
    have h1 := At.calm (At.start (w := w) (T := T) (P := LpP R (lpM s)) hP.2) (LpP.frm (base := base)) h1
    have HST := Lib.hid h1
    clear h1
    have hE : lfSdE s id = 0 := by unfold lfSdE; rw [if_neg (by omega), if_pos (.inl h12)]
    have hA : s.snd id = { s with l := lfUp s id 2 (lfWy s id) } := by unfold LfS.snd; rw [if_pos hE]
    obtain ⟨k, f, j, e, hK, hj, hy, hfl⟩ := LfK.of hP.1.ok (id := id) (by omega)
    obtain rfl : j = 1 := by omega
    have HM := Lib.hid (show Acts 38 #[.pointer (some ⟨R, 0, none⟩), .int .i64 id, .int .i64 2] base (LpP R (lpM s)) (fun _ : Unit => .tuple #[]) fun _ => LpP R ((lpM s).mv k f 1 2 e) from hK.move (x := (2 : Nat)) hb9 (by decide) (by decide))
    have hO := hP.1.snd id
    have HG := Lib.hid (fun (W : World) (h : At T w (LpP R ((lpM s).mv k f 1 2 e)) W) => show (∃ T', LfW R (s.snd id) T' W ∧ ∀ k, T' k → T k ∨ w.heap.size ≤ k) ∧ Chg T w W from by
      obtain ⟨T1, h1, h2, h3⟩ := h
      refine ⟨⟨T1, ⟨hO, ?_⟩, h2⟩, h3⟩
      rw [hA]
      refine h1.moved hK.hi hK.hkI hK.he hK.hf hK.hj hK.hfl hK.hjl (x := (2 : Nat)) (by decide) (by decide) _ _ (fun g hg => od_up _ _ _) ?_ rfl rfl (fun g hg => ?_)
      · rw [← hy]; rfl
      · rw [by_up hK.hi hK.hkI hK.he (by rw [hK.hj]; decide), if_neg (fun h => absurd h.2 (by decide))]; exact Int.add_zero _)
    have HB := Lib.hid hb
    have HS := Lib.hid hs
    rw [hE]
    rw [h12] at HST
    clear hP hO hA hE hK hb hs hb9 hst h12 hj hy hfl
    go_enter Try.func25, Try.ntmps25
    go_wp2_with fail
    (with_reducible refine HST.out.mono ?_); rintro e w1 ⟨rfl, h1⟩
    have HX := Lib.hid (At.call1 h1 HB.out HS.out HM.out)
    clear h1
    go_wp2_with fail
    (with_reducible refine HX.out.mono ?_); rintro e w2 ⟨rfl, h2⟩
    have HF := Lib.hid (HG.out w2 h2)
    clear h2
    go_wp2
    go_ret
    first | exact ⟨rfl, HF.out⟩ | exact ⟨(), rfl, HF.out⟩
  · have hc : (lfSt s id = 0 ∧ lfSdE s id = 6 ∧ s.snd id = s) ∨ (lfSt s id = 2 ∧ lfSdE s id = 0) ∨ ((lfSt s id = 3 ∨ lfSt s id = 4) ∧ lfSdE s id = 14 ∧ s.snd id = s) := by
      unfold LfS.snd lfSdE
      rcases (by omega : lfSt s id = 0 ∨ lfSt s id = 2 ∨ lfSt s id = 3 ∨ lfSt s id = 4) with e | e | e | e <;> simp [e]
    have hsame : LfW R s T w → LfW R (s.snd id) T w := by
      rcases hc with ⟨_, _, e⟩ | ⟨e, e2⟩ | ⟨_, _, e⟩
      · rw [e]; exact fun h => h
      · intro hP
        have hA : s.snd id = { s with l := lfUp s id 2 (lfWy s id) } := by unfold LfS.snd; rw [if_pos e2]
        obtain ⟨k, f, j, x, hK, hj, hy, hfl⟩ := LfK.of hP.1.ok (id := id) (by omega)
        have hA2 : s.snd id = s := by
          rw [hA, up_is hK.hi hK.hkI hK.he]
          have h9 : ({ x with s := 2, y := lfWy s id } : LfE) = x := by
            obtain ⟨x1, x2, x3, x4⟩ := x
            have := hK.hj
            simp only at this hy
            rw [← hy, this, hj, e]
          rw [h9, ← hK.he, List.set_getElem_self]
        rw [hA2]; exact hP
      · rw [e]; exact fun h => h
    have hP2 := hsame hP
    have HF := Lib.hid (fun (W : World) (hbl : Below w.heap.size w W) => show (∃ T', LfW R (s.snd id) T' W ∧ ∀ k, T' k → T k ∨ w.heap.size ≤ k) ∧ Chg T w W from ⟨⟨T, hP2.later hbl, fun k hk => .inl hk⟩, Chg.of_below hbl⟩)
    have h1 := pfstate_any (show s.l.length ≤ 99999 by omega) hP.2 id
    simp only [lpM] at h1
    rw [← lpG_st] at h1
    have HST := Lib.hid h1
    unfold Calm at HST
    have hc2 : (lfSt s id = 0 ∧ lfSdE s id = 6) ∨ (lfSt s id = 2 ∧ lfSdE s id = 0) ∨ (lfSt s id = 3 ∧ lfSdE s id = 14) ∨ (lfSt s id = 4 ∧ lfSdE s id = 14) := by
      rcases hc with ⟨e, e2, _⟩ | ⟨e, e2⟩ | ⟨e | e, e2, _⟩
      · exact .inl ⟨e, e2⟩
      · exact .inr (.inl ⟨e, e2⟩)
      · exact .inr (.inr (.inl ⟨e, e2⟩))
      · exact .inr (.inr (.inr ⟨e, e2⟩))
    clear hP hP2 hsame hc hb hs hb9 hst h12 h1
    generalize lfSt s id = x at *
    generalize lfSdE s id = y at *
    rcases hc2 with ⟨rfl, rfl⟩ | ⟨rfl, rfl⟩ | ⟨rfl, rfl⟩ | ⟨rfl, rfl⟩
    all_goals
      go_enter Try.func25, Try.ntmps25
      go_wp2_with fail
      (with_reducible refine HST.out.mono ?_); rintro e w1 ⟨rfl, hbl⟩
      have HX := Lib.hid (HF.out w1 hbl)
      clear hbl
      go_wp2
      go_ret
      first | exact ⟨rfl, HX.out⟩ | exact ⟨(), rfl, HX.out⟩
end Go.Proofs.Ytkhngfadhfomoaa

