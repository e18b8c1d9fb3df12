/-
  Layer 2: the walk of FixedRoundings: a product divided by a factor, and how the ways of rounding differ. Every input; no condition.
-/
import Derived.Test.YtblagnhdojejmaaFixLaws
import Derived.StillTactics
import Derived.Laws.Pointers
namespace Go.Proofs.Ytblagnhdojejmaa
open Go.ChangeShapes Go.WideShapes Go.ChangeAt Go.RowKit
set_option linter.unusedVariables false

theorem ups_true : ups true = 1 := rfl
theorem ups_false : ups false = 0 := rfl
theorem md_back {a b round : Int} (a0 : -9223372036854775808 ≤ a) (a1 : a ≤ 9223372036854775807) (hb : b ≠ 0) (r0 : 0 ≤ round) (r1 : round < 3) : mdV a b b round = a ∧ mdE a b b round = 0 := by
  obtain ⟨e1, e2⟩ := md_ok (a := a) (b := b) (c := b) (round := round) (by omega) hb
  have hd := abs_ne hb
  have hv : mdQ a b b round = a := by
    unfold mdQ
    rw [Int.mul_ediv_cancel _ (by omega), Int.mul_emod_left]
    have hn : (negs a b != decide (b < 0)) = decide (a < 0) := by
      unfold negs; cases decide (a < 0) <;> cases decide (b < 0) <;> rfl
    have hw : ∀ n, away 0 (absZ b) n round = false := fun n => by
      unfold away; split
      · simp
      · split
        · simp
        · simp; omega
    rw [hw, hn, ups_false]
    unfold sgn absZ
    by_cases h : a < 0 <;> simp [h]
  rw [e1, e2, hv]
  exact fit_yes ⟨a0, a1⟩
theorem mdE_or (a b c round : Int) : mdE a b c round = 0 ∨ (mdE a b c round != 0) = true := by
  by_cases h : mdE a b c round = 0
  · exact Or.inl h
  · exact Or.inr (by rw [bne_iff_ne]; exact h)
theorem md_zero_of {a b c round : Int} (h : mdE a b c round = 0) : mdV a b c round = mdQ a b c round := by
  unfold mdE at h
  split at h
  · omega
  · rename_i h1
    split at h
    · omega
    · rename_i h2
      obtain ⟨e1, e2⟩ := md_ok (a := a) (b := b) (round := round) h1 h2
      rw [e1]
      unfold fitE at h
      split at h
      · rename_i h3; exact (fit_yes h3).1
      · omega
/-- How the ways of rounding differ. -/
theorem md_ways (a b c : Int) (h0 : mdE a b c 0 = 0) (h1 : mdE a b c 1 = 0) (h2 : mdE a b c 2 = 0) :
    mdV a b c 0 ≤ mdV a b c 1 ∧ mdV a b c 1 - mdV a b c 0 ≤ 1 ∧ (mdV a b c 2 = mdV a b c 0 ∨ mdV a b c 2 = mdV a b c 1) := by
  have hc : c ≠ 0 := by
    intro hc; subst hc
    have := (md_zero (a := a) (b := b) (round := 0) (by omega)).2
    omega
  have hd := abs_ne hc
  rw [md_zero_of h0, md_zero_of h1, md_zero_of h2]
  unfold mdQ
  have r0 := Int.emod_nonneg (absZ a * absZ b) (show absZ c ≠ 0 by omega)
  have r1 := Int.emod_lt_of_pos (absZ a * absZ b) hd
  generalize absZ a * absZ b / absZ c = Q at *
  generalize absZ a * absZ b % absZ c = R at *
  generalize absZ c = D at *
  generalize (negs a b != decide (c < 0)) = n at *
  unfold away sgn
  rcases (by omega : R = 0 ∨ 0 < R) with hr | hr
  · subst hr
    have : ¬ D ≤ 0 := by omega
    cases n <;> simp [this]
  · rcases (by omega : D - R ≤ R ∨ ¬ D - R ≤ R) with hh | hh <;> cases n <;> simp [hr, hh, ups_true, ups_false] <;> omega
/-- Behind the first call: three roundings of one quotient, compared. -/
theorem ways3 (a p q : Int) (a0 : -9223372036854775808 ≤ a) (a1 : a ≤ 9223372036854775807) (p0 : -9223372036854775808 ≤ p) (p1 : p ≤ 9223372036854775807) (q0 : -9223372036854775808 ≤ q) (q1 : q ≤ 9223372036854775807) :
    ∃ L H N e f g : Int,
      Hid (∀ w, Calls Try.prog 16 #[.int .i64 a, .int .i64 p, .int .i64 q, .int .i64 0] w fun x w' => x = .returned (.tuple #[.int .i64 L, .int .i64 e]) ∧ Below w.heap.size w w') ∧
      Hid (∀ w, Calls Try.prog 16 #[.int .i64 a, .int .i64 p, .int .i64 q, .int .i64 1] w fun x w' => x = .returned (.tuple #[.int .i64 H, .int .i64 f]) ∧ Below w.heap.size w w') ∧
      Hid (∀ w, Calls Try.prog 16 #[.int .i64 a, .int .i64 p, .int .i64 q, .int .i64 2] w fun x w' => x = .returned (.tuple #[.int .i64 N, .int .i64 g]) ∧ Below w.heap.size w w') ∧
      -9223372036854775808 ≤ L ∧ L ≤ 9223372036854775807 ∧ -9223372036854775808 ≤ H ∧ H ≤ 9223372036854775807 ∧
      (((e != 0) = true) ∨ (e = 0 ∧ (f != 0) = true) ∨ (e = 0 ∧ f = 0 ∧ (g != 0) = true) ∨ (e = 0 ∧ f = 0 ∧ g = 0 ∧ L ≤ H ∧ H - L ≤ 1 ∧ IntKind.u64.wrap (IntKind.u64.wrap H - IntKind.u64.wrap L) = H - L ∧ (N = L ∨ (N = H ∧ (H == L) = false)))) := by
  refine ⟨_, _, _, _, _, _, fun w => muldiv_any a p q 0 a0 a1 p0 p1 q0 q1 w, fun w => muldiv_any a p q 1 a0 a1 p0 p1 q0 q1 w, fun w => muldiv_any a p q 2 a0 a1 p0 p1 q0 q1 w, (mdV_bd _ _ _ _).1, (mdV_bd _ _ _ _).2, (mdV_bd _ _ _ _).1, (mdV_bd _ _ _ _).2, ?_⟩
  rcases mdE_or a p q 0 with h0 | h0
  · rcases mdE_or a p q 1 with h1 | h1
    · rcases mdE_or a p q 2 with h2 | h2
      · obtain ⟨k1, k2, k3⟩ := md_ways a p q h0 h1 h2
        have b0 := mdV_bd a p q 0
        have b1 := mdV_bd a p q 1
        refine Or.inr (Or.inr (Or.inr ⟨h0, h1, h2, k1, k2, by simp only [IntKind.wrap_u64]; omega, ?_⟩))
        rcases k3 with k3 | k3
        · exact Or.inl k3
        · by_cases k4 : mdV a p q 1 = mdV a p q 0
          · exact Or.inl (by omega)
          · exact Or.inr ⟨k3, beq_eq_false_iff_ne.2 k4⟩
      · exact Or.inr (Or.inr (Or.inl ⟨h0, h1, h2⟩))
    · exact Or.inr (Or.inl ⟨h0, h1⟩)
  · exact Or.inl h0
set_option maxHeartbeats 2000000 in
theorem walkRound (s : Option Addr) (len cap : Nat) (a b : Int) (a0 : -9223372036854775808 ≤ a) (a1 : a ≤ 9223372036854775807) (b0 : -9223372036854775808 ≤ b) (b1 : b ≤ 9223372036854775807) (w : World) (he : Elems w.heap.size s len w) :
    Calls Try.prog 6 #[.slice s len cap, .int .i64 a, .int .i64 b] w fun e w' => e = .returned (.bool true) ∧ Below w.heap.size w w' := by
  have hg := Has.new (cap := cap) he
  clear he
  have W3 := Lib.hid (fun p q p0 p1 q0 q1 => ways3 a p q a0 a1 p0 p1 q0 q1)
  -- the first call: the factor comes back; or the factor is 0
  obtain ⟨H, hb⟩ : (∃ V E : Int → Int, Hid (∀ r w, 0 ≤ r → r < 3 → Calls Try.prog 16 #[.int .i64 a, .int .i64 b, .int .i64 b, .int .i64 r] w fun x w' => x = .returned (.tuple #[.int .i64 (V r), .int .i64 (E r)]) ∧ Below w.heap.size w w') ∧ (b = 0 ∨ (V = fun _ => a) ∧ (E = fun _ => 0) ∧ (b != 0) = true)) ∧ True := by
    refine ⟨?_, trivial⟩
    by_cases h : b = 0
    · exact ⟨fun r => mdV a b b r, fun r => mdE a b b r, fun r w _ _ => muldiv_any a b b r a0 a1 b0 b1 b0 b1 w, Or.inl h⟩
    · refine ⟨fun _ => a, fun _ => 0, fun r w r0 r1 => ?_, Or.inr ⟨rfl, rfl, by rw [bne_iff_ne]; exact h⟩⟩
      have hc := muldiv_any a b b r a0 a1 b0 b1 b0 b1 w
      obtain ⟨e1, e2⟩ := md_back (round := r) a0 a1 h r0 r1
      rw [e1, e2] at hc
      exact hc
  obtain ⟨V, E, H, hc⟩ := H
  clear hb
  rcases hc with rfl | ⟨rfl, rfl, hbn⟩
  all_goals
    go_enter Try.func6, Try.ntmps6
    go_wp2_with (go_at_call 9; (with_reducible refine (new_any s len cap _).mono ?_); rintro e w' ⟨rfl, rfl⟩)
    refine (has_next w.heap.size s len cap _ 3 w _ hg (by decide) (by decide) (by omega)).mono ?_
    rintro e w1 ⟨r, r0, r1, rfl, hg1, ho⟩
    clear ho hg
    go_wp2_with fail
    refine (H.out r _ r0 r1).mono ?_
    rintro e w2 ⟨rfl, hbl⟩
    have hg2 := Has.below hg1 hbl
    clear hbl hg1 H
    go_wp2_with fail
    refine (has_int64 w.heap.size s len cap _ w _ hg2 (by omega)).mono ?_
    rintro e w3 ⟨p, p0, p1, rfl, hg3, ho⟩
    clear ho hg2
    go_wp2_with fail
    refine (has_int64 w.heap.size s len cap _ w _ hg3 (by omega)).mono ?_
    rintro e w4 ⟨q, q0, q1, rfl, hg4, ho⟩
    clear ho hg3
    obtain ⟨L, HH, N, e, f, g, c0, c1, c2, L0, L1, H0, H1, hcase⟩ := W3.out p q p0 p1 q0 q1
    rcases hcase with h | ⟨rfl, h⟩ | ⟨rfl, rfl, h⟩ | ⟨rfl, rfl, rfl, hLH, hD, ku, rfl | ⟨rfl, hNL⟩⟩
  all_goals
    go_wp2_with fail
    (with_reducible refine (c0.out _).mono ?_)
    rintro e w5 ⟨rfl, hb5⟩
    have hg5 := Has.below hg4 hb5
    clear hb5
    go_wp2_with fail
    (with_reducible refine (c1.out _).mono ?_)
    rintro e w6 ⟨rfl, hb6⟩
    have hg6 := Has.below hg5 hb6
    clear hb6
    go_wp2_with fail
    (with_reducible refine (c2.out _).mono ?_)
    rintro e w7 ⟨rfl, hb7⟩
    have hg7 := Has.below hg6 hb7
    clear hb7
    go_wp2_with fail
    (with_reducible refine (awake2_any _).mono ?_)
    rintro e w8 ⟨rfl, hb8⟩
    have hg8 := Has.below hg7 hb8
    clear hb8
    go_wp2
    go_ret
    exact ⟨rfl, hg8.2⟩
end Go.Proofs.Ytblagnhdojejmaa
