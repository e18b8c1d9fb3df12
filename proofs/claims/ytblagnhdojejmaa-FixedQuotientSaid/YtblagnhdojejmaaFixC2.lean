/-
  Layer 2: contracts of the program's and the reference's checked arithmetic (package fixed). Every input; no condition.
-/
import Derived.Test.YtblagnhdojejmaaFixC
import Derived.Lib.Hide
import Derived.IntWalk
import Derived.Outline
namespace Go.Proofs.Ytblagnhdojejmaa
open Go.ChangeShapes Go.WideShapes Go.ChangeAt Go.RowKit
set_option linter.unusedVariables false

/-- A sum of two numbers, wrapped: it fits, or it is too great, or too small. -/
theorem wrap_cases (x : Int) (h0 : -18446744073709551616 ≤ x) (h1 : x ≤ 18446744073709551615) :
    ((-9223372036854775808 ≤ x ∧ x ≤ 9223372036854775807) ∧ wrap64 x = x) ∨ (9223372036854775807 < x ∧ wrap64 x = x - 18446744073709551616) ∨ (x < -9223372036854775808 ∧ wrap64 x = x + 18446744073709551616) := by
  unfold wrap64; omega
theorem dyes {p : Prop} [Decidable p] (h : p) : decide p = true := decide_eq_true h
theorem dno {p : Prop} [Decidable p] (h : ¬ p) : decide p = false := decide_eq_false h
theorem add64_any (a b : Int) (a0 : -9223372036854775808 ≤ a) (a1 : a ≤ 9223372036854775807) (b0 : -9223372036854775808 ≤ b) (b1 : b ≤ 9223372036854775807) (w : World) :
    Calls Try.prog 22 #[.int .i64 a, .int .i64 b] w fun e w' => e = .returned (.tuple #[.int .i64 (fitV (a + b)), .int .i64 (fitE (a + b))]) ∧ w' = w := by
  have hw := wrap_cases (a + b) (by omega) (by omega)
  rcases hw with ⟨h, hw⟩ | ⟨h, hw⟩ | ⟨h, hw⟩
  · obtain ⟨e1, e2⟩ := fit_yes h
    rw [e1, e2]
    clear e1 e2
    rcases (by omega : b < 0 ∨ 0 ≤ b) with hb | hb
    all_goals rcases (by omega : a < 0 ∨ 0 ≤ a) with ha | ha
    all_goals
      first
      | (exfalso; omega)
      | skip
    all_goals
      have k1 : (decide (a + b < a) = true ∨ decide (a + b < a) = false) := by cases decide (a + b < a) <;> simp
      have k2 : (decide (a < a + b) = true ∨ decide (a < a + b) = false) := by cases decide (a < a + b) <;> simp
      have k3 : (decide (b < 0) = true ∨ decide (b < 0) = false) := by cases decide (b < 0) <;> simp
      have k4 : (decide (a + b < 0) = true ∨ decide (a + b < 0) = false) := by cases decide (a + b < 0) <;> simp
      rcases k1 with k1 | k1 <;> rcases k2 with k2 | k2 <;> rcases k3 with k3 | k3 <;> rcases k4 with k4 | k4 <;> (first | (exfalso; simp only [decide_eq_true_eq, decide_eq_false_iff_not] at k1 k2 k3 k4; omega) | skip)
    all_goals
      go_enter Try.func22, Try.ntmps22
      go_wp2
      go_ret2
      exact ⟨rfl, rfl⟩
  · obtain ⟨e1, e2⟩ := fit_no (x := a + b) (by omega)
    rw [e1, e2]
    clear e1 e2
    rcases (by omega : b < 0 ∨ 0 ≤ b) with hb | hb
    all_goals rcases (by omega : a < 0 ∨ 0 ≤ a) with ha | ha
    all_goals
      first
      | (exfalso; omega)
      | skip
    all_goals
      have k1 : (decide (a + b - 18446744073709551616 < a) = true ∨ decide (a + b - 18446744073709551616 < a) = false) := by cases decide (a + b - 18446744073709551616 < a) <;> simp
      have k2 : (decide (a < a + b - 18446744073709551616) = true ∨ decide (a < a + b - 18446744073709551616) = false) := by cases decide (a < a + b - 18446744073709551616) <;> simp
      have k3 : (decide (b < 0) = true ∨ decide (b < 0) = false) := by cases decide (b < 0) <;> simp
      have k4 : (decide (a + b - 18446744073709551616 < 0) = true ∨ decide (a + b - 18446744073709551616 < 0) = false) := by cases decide (a + b - 18446744073709551616 < 0) <;> simp
      rcases k1 with k1 | k1 <;> rcases k2 with k2 | k2 <;> rcases k3 with k3 | k3 <;> rcases k4 with k4 | k4 <;> (first | (exfalso; simp only [decide_eq_true_eq, decide_eq_false_iff_not] at k1 k2 k3 k4; omega) | skip)
    all_goals
      go_enter Try.func22, Try.ntmps22
      go_wp2
      go_ret2
      exact ⟨rfl, rfl⟩
  · obtain ⟨e1, e2⟩ := fit_no (x := a + b) (by omega)
    rw [e1, e2]
    clear e1 e2
    rcases (by omega : b < 0 ∨ 0 ≤ b) with hb | hb
    all_goals rcases (by omega : a < 0 ∨ 0 ≤ a) with ha | ha
    all_goals
      first
      | (exfalso; omega)
      | skip
    all_goals
      have k1 : (decide (a + b + 18446744073709551616 < a) = true ∨ decide (a + b + 18446744073709551616 < a) = false) := by cases decide (a + b + 18446744073709551616 < a) <;> simp
      have k2 : (decide (a < a + b + 18446744073709551616) = true ∨ decide (a < a + b + 18446744073709551616) = false) := by cases decide (a < a + b + 18446744073709551616) <;> simp
      have k3 : (decide (b < 0) = true ∨ decide (b < 0) = false) := by cases decide (b < 0) <;> simp
      have k4 : (decide (a + b + 18446744073709551616 < 0) = true ∨ decide (a + b + 18446744073709551616 < 0) = false) := by cases decide (a + b + 18446744073709551616 < 0) <;> simp
      rcases k1 with k1 | k1 <;> rcases k2 with k2 | k2 <;> rcases k3 with k3 | k3 <;> rcases k4 with k4 | k4 <;> (first | (exfalso; simp only [decide_eq_true_eq, decide_eq_false_iff_not] at k1 k2 k3 k4; omega) | skip)
    all_goals
      go_enter Try.func22, Try.ntmps22
      go_wp2
      go_ret2
      exact ⟨rfl, rfl⟩
theorem refAdd64_any (a b : Int) (a0 : -9223372036854775808 ≤ a) (a1 : a ≤ 9223372036854775807) (b0 : -9223372036854775808 ≤ b) (b1 : b ≤ 9223372036854775807) (w : World) :
    Calls Try.prog 23 #[.int .i64 a, .int .i64 b] w fun e w' => e = .returned (.tuple #[.int .i64 (fitV (a + b)), .int .i64 (fitE (a + b))]) ∧ w' = w := by
  have hw := wrap_cases (a + b) (by omega) (by omega)
  rcases hw with ⟨h, hw⟩ | ⟨h, hw⟩ | ⟨h, hw⟩
  · obtain ⟨e1, e2⟩ := fit_yes h
    rw [e1, e2]
    clear e1 e2
    rcases (by omega : b < 0 ∨ 0 ≤ b) with hb | hb
    all_goals rcases (by omega : a < 0 ∨ 0 ≤ a) with ha | ha
    all_goals
      first
      | (exfalso; omega)
      | skip
    all_goals
      have k1 : (decide (a + b < a) = true ∨ decide (a + b < a) = false) := by cases decide (a + b < a) <;> simp
      have k2 : (decide (a < a + b) = true ∨ decide (a < a + b) = false) := by cases decide (a < a + b) <;> simp
      have k3 : (decide (b < 0) = true ∨ decide (b < 0) = false) := by cases decide (b < 0) <;> simp
      have k4 : (decide (a + b < 0) = true ∨ decide (a + b < 0) = false) := by cases decide (a + b < 0) <;> simp
      rcases k1 with k1 | k1 <;> rcases k2 with k2 | k2 <;> rcases k3 with k3 | k3 <;> rcases k4 with k4 | k4 <;> (first | (exfalso; simp only [decide_eq_true_eq, decide_eq_false_iff_not] at k1 k2 k3 k4; omega) | skip)
    all_goals
      go_enter Try.func23, Try.ntmps23
      go_wp2
      go_ret2
      exact ⟨rfl, rfl⟩
  · obtain ⟨e1, e2⟩ := fit_no (x := a + b) (by omega)
    rw [e1, e2]
    clear e1 e2
    rcases (by omega : b < 0 ∨ 0 ≤ b) with hb | hb
    all_goals rcases (by omega : a < 0 ∨ 0 ≤ a) with ha | ha
    all_goals
      first
      | (exfalso; omega)
      | skip
    all_goals
      have k1 : (decide (a + b - 18446744073709551616 < a) = true ∨ decide (a + b - 18446744073709551616 < a) = false) := by cases decide (a + b - 18446744073709551616 < a) <;> simp
      have k2 : (decide (a < a + b - 18446744073709551616) = true ∨ decide (a < a + b - 18446744073709551616) = false) := by cases decide (a < a + b - 18446744073709551616) <;> simp
      have k3 : (decide (b < 0) = true ∨ decide (b < 0) = false) := by cases decide (b < 0) <;> simp
      have k4 : (decide (a + b - 18446744073709551616 < 0) = true ∨ decide (a + b - 18446744073709551616 < 0) = false) := by cases decide (a + b - 18446744073709551616 < 0) <;> simp
      rcases k1 with k1 | k1 <;> rcases k2 with k2 | k2 <;> rcases k3 with k3 | k3 <;> rcases k4 with k4 | k4 <;> (first | (exfalso; simp only [decide_eq_true_eq, decide_eq_false_iff_not] at k1 k2 k3 k4; omega) | skip)
    all_goals
      go_enter Try.func23, Try.ntmps23
      go_wp2
      go_ret2
      exact ⟨rfl, rfl⟩
  · obtain ⟨e1, e2⟩ := fit_no (x := a + b) (by omega)
    rw [e1, e2]
    clear e1 e2
    rcases (by omega : b < 0 ∨ 0 ≤ b) with hb | hb
    all_goals rcases (by omega : a < 0 ∨ 0 ≤ a) with ha | ha
    all_goals
      first
      | (exfalso; omega)
      | skip
    all_goals
      have k1 : (decide (a + b + 18446744073709551616 < a) = true ∨ decide (a + b + 18446744073709551616 < a) = false) := by cases decide (a + b + 18446744073709551616 < a) <;> simp
      have k2 : (decide (a < a + b + 18446744073709551616) = true ∨ decide (a < a + b + 18446744073709551616) = false) := by cases decide (a < a + b + 18446744073709551616) <;> simp
      have k3 : (decide (b < 0) = true ∨ decide (b < 0) = false) := by cases decide (b < 0) <;> simp
      have k4 : (decide (a + b + 18446744073709551616 < 0) = true ∨ decide (a + b + 18446744073709551616 < 0) = false) := by cases decide (a + b + 18446744073709551616 < 0) <;> simp
      rcases k1 with k1 | k1 <;> rcases k2 with k2 | k2 <;> rcases k3 with k3 | k3 <;> rcases k4 with k4 | k4 <;> (first | (exfalso; simp only [decide_eq_true_eq, decide_eq_false_iff_not] at k1 k2 k3 k4; omega) | skip)
    all_goals
      go_enter Try.func23, Try.ntmps23
      go_wp2
      go_ret2
      exact ⟨rfl, rfl⟩
theorem sub64_any (a b : Int) (a0 : -9223372036854775808 ≤ a) (a1 : a ≤ 9223372036854775807) (b0 : -9223372036854775808 ≤ b) (b1 : b ≤ 9223372036854775807) (w : World) :
    Calls Try.prog 24 #[.int .i64 a, .int .i64 b] w fun e w' => e = .returned (.tuple #[.int .i64 (fitV (a - b)), .int .i64 (fitE (a - b))]) ∧ w' = w := by
  have hw := wrap_cases (a - b) (by omega) (by omega)
  rcases hw with ⟨h, hw⟩ | ⟨h, hw⟩ | ⟨h, hw⟩
  · obtain ⟨e1, e2⟩ := fit_yes h
    rw [e1, e2]
    clear e1 e2
    rcases (by omega : b < 0 ∨ 0 ≤ b) with hb | hb
    all_goals rcases (by omega : a < 0 ∨ 0 ≤ a) with ha | ha
    all_goals
      first
      | (exfalso; omega)
      | skip
    all_goals
      have k1 : (decide (a - b < a) = true ∨ decide (a - b < a) = false) := by cases decide (a - b < a) <;> simp
      have k2 : (decide (a < a - b) = true ∨ decide (a < a - b) = false) := by cases decide (a < a - b) <;> simp
      have k3 : (decide (b < 0) = true ∨ decide (b < 0) = false) := by cases decide (b < 0) <;> simp
      have k4 : (decide (a - b < 0) = true ∨ decide (a - b < 0) = false) := by cases decide (a - b < 0) <;> simp
      rcases k1 with k1 | k1 <;> rcases k2 with k2 | k2 <;> rcases k3 with k3 | k3 <;> rcases k4 with k4 | k4 <;> (first | (exfalso; simp only [decide_eq_true_eq, decide_eq_false_iff_not] at k1 k2 k3 k4; omega) | skip)
    all_goals
      go_enter Try.func24, Try.ntmps24
      go_wp2
      go_ret2
      exact ⟨rfl, rfl⟩
  · obtain ⟨e1, e2⟩ := fit_no (x := a - b) (by omega)
    rw [e1, e2]
    clear e1 e2
    rcases (by omega : b < 0 ∨ 0 ≤ b) with hb | hb
    all_goals rcases (by omega : a < 0 ∨ 0 ≤ a) with ha | ha
    all_goals
      first
      | (exfalso; omega)
      | skip
    all_goals
      have k1 : (decide (a - b - 18446744073709551616 < a) = true ∨ decide (a - b - 18446744073709551616 < a) = false) := by cases decide (a - b - 18446744073709551616 < a) <;> simp
      have k2 : (decide (a < a - b - 18446744073709551616) = true ∨ decide (a < a - b - 18446744073709551616) = false) := by cases decide (a < a - b - 18446744073709551616) <;> simp
      have k3 : (decide (b < 0) = true ∨ decide (b < 0) = false) := by cases decide (b < 0) <;> simp
      have k4 : (decide (a - b - 18446744073709551616 < 0) = true ∨ decide (a - b - 18446744073709551616 < 0) = false) := by cases decide (a - b - 18446744073709551616 < 0) <;> simp
      rcases k1 with k1 | k1 <;> rcases k2 with k2 | k2 <;> rcases k3 with k3 | k3 <;> rcases k4 with k4 | k4 <;> (first | (exfalso; simp only [decide_eq_true_eq, decide_eq_false_iff_not] at k1 k2 k3 k4; omega) | skip)
    all_goals
      go_enter Try.func24, Try.ntmps24
      go_wp2
      go_ret2
      exact ⟨rfl, rfl⟩
  · obtain ⟨e1, e2⟩ := fit_no (x := a - b) (by omega)
    rw [e1, e2]
    clear e1 e2
    rcases (by omega : b < 0 ∨ 0 ≤ b) with hb | hb
    all_goals rcases (by omega : a < 0 ∨ 0 ≤ a) with ha | ha
    all_goals
      first
      | (exfalso; omega)
      | skip
    all_goals
      have k1 : (decide (a - b + 18446744073709551616 < a) = true ∨ decide (a - b + 18446744073709551616 < a) = false) := by cases decide (a - b + 18446744073709551616 < a) <;> simp
      have k2 : (decide (a < a - b + 18446744073709551616) = true ∨ decide (a < a - b + 18446744073709551616) = false) := by cases decide (a < a - b + 18446744073709551616) <;> simp
      have k3 : (decide (b < 0) = true ∨ decide (b < 0) = false) := by cases decide (b < 0) <;> simp
      have k4 : (decide (a - b + 18446744073709551616 < 0) = true ∨ decide (a - b + 18446744073709551616 < 0) = false) := by cases decide (a - b + 18446744073709551616 < 0) <;> simp
      rcases k1 with k1 | k1 <;> rcases k2 with k2 | k2 <;> rcases k3 with k3 | k3 <;> rcases k4 with k4 | k4 <;> (first | (exfalso; simp only [decide_eq_true_eq, decide_eq_false_iff_not] at k1 k2 k3 k4; omega) | skip)
    all_goals
      go_enter Try.func24, Try.ntmps24
      go_wp2
      go_ret2
      exact ⟨rfl, rfl⟩
theorem refSub64_any (a b : Int) (a0 : -9223372036854775808 ≤ a) (a1 : a ≤ 9223372036854775807) (b0 : -9223372036854775808 ≤ b) (b1 : b ≤ 9223372036854775807) (w : World) :
    Calls Try.prog 25 #[.int .i64 a, .int .i64 b] w fun e w' => e = .returned (.tuple #[.int .i64 (fitV (a - b)), .int .i64 (fitE (a - b))]) ∧ w' = w := by
  have hw := wrap_cases (a - b) (by omega) (by omega)
  rcases hw with ⟨h, hw⟩ | ⟨h, hw⟩ | ⟨h, hw⟩
  · obtain ⟨e1, e2⟩ := fit_yes h
    rw [e1, e2]
    clear e1 e2
    rcases (by omega : b < 0 ∨ 0 ≤ b) with hb | hb
    all_goals rcases (by omega : a < 0 ∨ 0 ≤ a) with ha | ha
    all_goals
      first
      | (exfalso; omega)
      | skip
    all_goals
      have k1 : (decide (a - b < a) = true ∨ decide (a - b < a) = false) := by cases decide (a - b < a) <;> simp
      have k2 : (decide (a < a - b) = true ∨ decide (a < a - b) = false) := by cases decide (a < a - b) <;> simp
      have k3 : (decide (b < 0) = true ∨ decide (b < 0) = false) := by cases decide (b < 0) <;> simp
      have k4 : (decide (a - b < 0) = true ∨ decide (a - b < 0) = false) := by cases decide (a - b < 0) <;> simp
      rcases k1 with k1 | k1 <;> rcases k2 with k2 | k2 <;> rcases k3 with k3 | k3 <;> rcases k4 with k4 | k4 <;> (first | (exfalso; simp only [decide_eq_true_eq, decide_eq_false_iff_not] at k1 k2 k3 k4; omega) | skip)
    all_goals
      go_enter Try.func25, Try.ntmps25
      go_wp2
      go_ret2
      exact ⟨rfl, rfl⟩
  · obtain ⟨e1, e2⟩ := fit_no (x := a - b) (by omega)
    rw [e1, e2]
    clear e1 e2
    rcases (by omega : b < 0 ∨ 0 ≤ b) with hb | hb
    all_goals rcases (by omega : a < 0 ∨ 0 ≤ a) with ha | ha
    all_goals
      first
      | (exfalso; omega)
      | skip
    all_goals
      have k1 : (decide (a - b - 18446744073709551616 < a) = true ∨ decide (a - b - 18446744073709551616 < a) = false) := by cases decide (a - b - 18446744073709551616 < a) <;> simp
      have k2 : (decide (a < a - b - 18446744073709551616) = true ∨ decide (a < a - b - 18446744073709551616) = false) := by cases decide (a < a - b - 18446744073709551616) <;> simp
      have k3 : (decide (b < 0) = true ∨ decide (b < 0) = false) := by cases decide (b < 0) <;> simp
      have k4 : (decide (a - b - 18446744073709551616 < 0) = true ∨ decide (a - b - 18446744073709551616 < 0) = false) := by cases decide (a - b - 18446744073709551616 < 0) <;> simp
      rcases k1 with k1 | k1 <;> rcases k2 with k2 | k2 <;> rcases k3 with k3 | k3 <;> rcases k4 with k4 | k4 <;> (first | (exfalso; simp only [decide_eq_true_eq, decide_eq_false_iff_not] at k1 k2 k3 k4; omega) | skip)
    all_goals
      go_enter Try.func25, Try.ntmps25
      go_wp2
      go_ret2
      exact ⟨rfl, rfl⟩
  · obtain ⟨e1, e2⟩ := fit_no (x := a - b) (by omega)
    rw [e1, e2]
    clear e1 e2
    rcases (by omega : b < 0 ∨ 0 ≤ b) with hb | hb
    all_goals rcases (by omega : a < 0 ∨ 0 ≤ a) with ha | ha
    all_goals
      first
      | (exfalso; omega)
      | skip
    all_goals
      have k1 : (decide (a - b + 18446744073709551616 < a) = true ∨ decide (a - b + 18446744073709551616 < a) = false) := by cases decide (a - b + 18446744073709551616 < a) <;> simp
      have k2 : (decide (a < a - b + 18446744073709551616) = true ∨ decide (a < a - b + 18446744073709551616) = false) := by cases decide (a < a - b + 18446744073709551616) <;> simp
      have k3 : (decide (b < 0) = true ∨ decide (b < 0) = false) := by cases decide (b < 0) <;> simp
      have k4 : (decide (a - b + 18446744073709551616 < 0) = true ∨ decide (a - b + 18446744073709551616 < 0) = false) := by cases decide (a - b + 18446744073709551616 < 0) <;> simp
      rcases k1 with k1 | k1 <;> rcases k2 with k2 | k2 <;> rcases k3 with k3 | k3 <;> rcases k4 with k4 | k4 <;> (first | (exfalso; simp only [decide_eq_true_eq, decide_eq_false_iff_not] at k1 k2 k3 k4; omega) | skip)
    all_goals
      go_enter Try.func25, Try.ntmps25
      go_wp2
      go_ret2
      exact ⟨rfl, rfl⟩
end Go.Proofs.Ytblagnhdojejmaa
