/-
  Layer 7: contracts of the program's isPermitted and foldedRune, and of the reference's letter and fold. Every rune; no condition.
-/
import Derived.Test.YtgojbomdkdlclaaMem
import Derived.Test.YtgojbomdkdlclaaLbDec
namespace Go.Proofs.Ytgojbomdkdlclaa
open Go.ChangeShapes Go.WideShapes Go.ChangeAt Go.RowKit
set_option linter.unusedVariables false

/-- A rune that a name may have. -/
def letN (r : Nat) : Bool := decide (97 ≤ r ∧ r ≤ 122) || decide (65 ≤ r ∧ r ≤ 90) || decide (48 ≤ r ∧ r ≤ 57) || decide (r = 45) || decide (r = 95) || decide (r = 46) || decide (161 ≤ r ∧ r ≠ 65533)
/-- The folded rune. -/
def foldN (r : Nat) : Nat := if (65 ≤ r ∧ r ≤ 90) ∨ (192 ≤ r ∧ r ≤ 222 ∧ r ≠ 215) ∨ (913 ≤ r ∧ r ≤ 937 ∧ r ≠ 930) then r + 32 else r
theorem letN_iff (r : Nat) : letN r = true ↔ (97 ≤ r ∧ r ≤ 122) ∨ (65 ≤ r ∧ r ≤ 90) ∨ (48 ≤ r ∧ r ≤ 57) ∨ r = 45 ∨ r = 95 ∨ r = 46 ∨ (161 ≤ r ∧ r ≠ 65533) := by
  unfold letN; simp only [Bool.or_eq_true, decide_eq_true_eq, or_assoc]
theorem letN_of {r : Nat} {b : Bool} (h : b = true ↔ (97 ≤ r ∧ r ≤ 122) ∨ (65 ≤ r ∧ r ≤ 90) ∨ (48 ≤ r ∧ r ≤ 57) ∨ r = 45 ∨ r = 95 ∨ r = 46 ∨ (161 ≤ r ∧ r ≠ 65533)) : b = letN r := by
  rw [Bool.eq_iff_iff, letN_iff]; exact h
theorem foldN_le (r : Nat) : foldN r ≤ r + 32 := by unfold foldN; split <;> omega
set_option maxHeartbeats 2000000 in
theorem permitted_any (r : Nat) (h : r ≤ 2147483647) (w : World) : Calls Try.prog 64 #[.int .i32 r] w fun e w' => e = .returned (.bool (letN r)) ∧ w' = w := by
  go_enter Try.func64, Try.ntmps64
  go_wp2
  all_goals
    (try simp only [beq_eq_false_iff_ne, beq_iff_eq, ne_eq] at *)
    go_ret
    exact ⟨ret_bool (letN_of (by simp; omega)), rfl⟩
set_option maxHeartbeats 2000000 in
theorem letter_any (r : Nat) (h : r ≤ 2147483647) (w : World) : Calls Try.prog 56 #[.int .i64 r] w fun e w' => e = .returned (.bool (letN r)) ∧ w' = w := by
  go_enter Try.func56, Try.ntmps56
  go_wp2
  all_goals
    (try simp only [beq_eq_false_iff_ne, beq_iff_eq, ne_eq] at *)
    go_ret
    exact ⟨ret_bool (letN_of (by simp; omega)), rfl⟩
theorem fold_cases (r : Nat) : (0 ≤ r ∧ r < 65) ∨ (65 ≤ r ∧ r ≤ 90) ∨ (91 ≤ r ∧ r < 192) ∨ (192 ≤ r ∧ r ≤ 214) ∨ (215 ≤ r ∧ r ≤ 215) ∨ (216 ≤ r ∧ r ≤ 222) ∨ (223 ≤ r ∧ r < 913) ∨ (913 ≤ r ∧ r ≤ 929) ∨ (930 ≤ r ∧ r ≤ 930) ∨ (931 ≤ r ∧ r ≤ 937) ∨ (938 ≤ r ∧ 938 ≤ r) := by omega
set_option maxHeartbeats 2000000 in
theorem foldedRune_any (r : Nat) (h : r ≤ 1114111) (w : World) : Calls Try.prog 61 #[.int .i32 r] w fun e w' => e = .returned (.int .i32 (foldN r : Nat)) ∧ w' = w := by
  have e1 : ∀ q : Nat, ((65 ≤ q ∧ q ≤ 90) ∨ (192 ≤ q ∧ q ≤ 222 ∧ q ≠ 215) ∨ (913 ≤ q ∧ q ≤ 937 ∧ q ≠ 930)) → foldN q = q + 32 := fun q hq => if_pos hq
  have e2 : ∀ q : Nat, ¬ ((65 ≤ q ∧ q ≤ 90) ∨ (192 ≤ q ∧ q ≤ 222 ∧ q ≠ 215) ∨ (913 ≤ q ∧ q ≤ 937 ∧ q ≠ 930)) → foldN q = q := fun q hq => if_neg hq
  rcases fold_cases r with c | c | c | c | c | c | c | c | c | c | c
  all_goals
    first | rw [e2 _ (by omega)] | rw [e1 _ (by omega)]
    clear e1 e2
    obtain ⟨c0, c1⟩ := c
    first | (have c2 : ((r : Int) != 215) = true := (by simp; omega)) | (have c2 : ((r : Int) != 215) = false := (by simp; omega))
    first | (have c3 : ((r : Int) != 930) = true := (by simp; omega)) | (have c3 : ((r : Int) != 930) = false := (by simp; omega))
    go_enter Try.func61, Try.ntmps61
    go_wp2
    go_ret
    exact ⟨ret_int (by omega), rfl⟩
set_option maxHeartbeats 2000000 in
theorem fold_any (r : Nat) (h : r ≤ 1114111) (w : World) : Calls Try.prog 57 #[.int .i64 r] w fun e w' => e = .returned (.int .i64 (foldN r : Nat)) ∧ w' = w := by
  have e1 : ∀ q : Nat, ((65 ≤ q ∧ q ≤ 90) ∨ (192 ≤ q ∧ q ≤ 222 ∧ q ≠ 215) ∨ (913 ≤ q ∧ q ≤ 937 ∧ q ≠ 930)) → foldN q = q + 32 := fun q hq => if_pos hq
  have e2 : ∀ q : Nat, ¬ ((65 ≤ q ∧ q ≤ 90) ∨ (192 ≤ q ∧ q ≤ 222 ∧ q ≠ 215) ∨ (913 ≤ q ∧ q ≤ 937 ∧ q ≠ 930)) → foldN q = q := fun q hq => if_neg hq
  rcases fold_cases r with c | c | c | c | c | c | c | c | c | c | c
  all_goals
    first | rw [e2 _ (by omega)] | rw [e1 _ (by omega)]
    clear e1 e2
    obtain ⟨c0, c1⟩ := c
    first | (have c2 : ((r : Int) != 215) = true := (by simp; omega)) | (have c2 : ((r : Int) != 215) = false := (by simp; omega))
    first | (have c3 : ((r : Int) != 930) = true := (by simp; omega)) | (have c3 : ((r : Int) != 930) = false := (by simp; omega))
    go_enter Try.func57, Try.ntmps57
    go_wp2
    go_ret
    exact ⟨ret_int (by omega), rfl⟩
end Go.Proofs.Ytgojbomdkdlclaa

