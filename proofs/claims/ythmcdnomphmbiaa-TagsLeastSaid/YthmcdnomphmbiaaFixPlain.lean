/-
  Plain arithmetic for layer 2: magnitudes and signs, sums that fit, rounded quotients. No program in sight.
-/
import Derived.Test.YthmcdnomphmbiaaPlainDiv
namespace Go.Proofs.Ythmcdnomphmbiaa
open Go.RowKit
set_option linter.unusedVariables false

/-- A value and its error: the value if it fits, else 0 and ErrRange. -/
def fitV (x : Int) : Int := if -9223372036854775808 ≤ x ∧ x ≤ 9223372036854775807 then x else 0
def fitE (x : Int) : Int := if -9223372036854775808 ≤ x ∧ x ≤ 9223372036854775807 then 0 else 2
theorem fit_yes {x : Int} (h : -9223372036854775808 ≤ x ∧ x ≤ 9223372036854775807) : fitV x = x ∧ fitE x = 0 := by
  unfold fitV fitE; rw [if_pos h, if_pos h]; exact ⟨rfl, rfl⟩
theorem fit_no {x : Int} (h : ¬ (-9223372036854775808 ≤ x ∧ x ≤ 9223372036854775807)) : fitV x = 0 ∧ fitE x = 2 := by
  unfold fitV fitE; rw [if_neg h, if_neg h]; exact ⟨rfl, rfl⟩
theorem fitV_bd (x : Int) : -9223372036854775808 ≤ fitV x ∧ fitV x ≤ 9223372036854775807 := by
  unfold fitV; split
  · rename_i h; exact h
  · omega

/-- The absolute value. -/
def absZ (a : Int) : Int := if a < 0 then -a else a
theorem absZ_neg {a : Int} (h : a < 0) : absZ a = -a := by unfold absZ; simp [h]
theorem absZ_pos {a : Int} (h : ¬ a < 0) : absZ a = a := by unfold absZ; simp [h]
theorem absZ_bd {a : Int} (h0 : -9223372036854775808 ≤ a) (h1 : a ≤ 9223372036854775807) : 0 ≤ absZ a ∧ absZ a ≤ 9223372036854775808 := by
  unfold absZ; split <;> omega
/-- A magnitude with a sign. -/
def sgn (m : Int) (neg : Bool) : Int := if neg then -m else m

/-- The sign of a product or quotient. -/
def negs (a b : Int) : Bool := decide (a < 0) != decide (b < 0)
theorem sgn_mul (a b : Int) : sgn (absZ a * absZ b) (negs a b) = a * b := by
  unfold sgn absZ negs
  by_cases ha : a < 0 <;> by_cases hb : b < 0 <;> simp [ha, hb, Int.neg_mul, Int.mul_neg]
theorem sgn_fit {m : Int} {neg : Bool} (h0 : 0 ≤ m) : (neg = true ∧ m ≤ 9223372036854775808 ∨ neg = false ∧ m < 9223372036854775808) ↔ (-9223372036854775808 ≤ sgn m neg ∧ sgn m neg ≤ 9223372036854775807) := by
  unfold sgn
  cases neg <;> simp <;> omega

/-- Is a magnitude rounded up? -/
def away (rest d : Int) (neg : Bool) (round : Int) : Bool :=
  if round = 0 then neg && decide (0 < rest) else if round = 1 then !neg && decide (0 < rest) else decide (d - rest ≤ rest)
def ups (b : Bool) : Int := if b then 1 else 0
/-- The rounded quotient of a product: a * b / c. -/
def mdQ (a b c round : Int) : Int :=
  sgn (absZ a * absZ b / absZ c + ups (away (absZ a * absZ b % absZ c) (absZ c) (negs a b != decide (c < 0)) round)) (negs a b != decide (c < 0))
def mdV (a b c round : Int) : Int := if round < 0 ∨ 2 < round ∨ c = 0 then 0 else fitV (mdQ a b c round)
def mdE (a b c round : Int) : Int := if round < 0 ∨ 2 < round then 1 else if c = 0 then 3 else fitE (mdQ a b c round)
theorem md_bad {a b c round : Int} (h : round < 0 ∨ 2 < round) : mdV a b c round = 0 ∧ mdE a b c round = 1 := by
  unfold mdV mdE; rw [if_pos h, if_pos (by omega)]; exact ⟨rfl, rfl⟩
theorem md_zero {a b round : Int} (h : ¬ (round < 0 ∨ 2 < round)) : mdV a b 0 round = 0 ∧ mdE a b 0 round = 3 := by
  unfold mdV mdE; rw [if_neg h, if_pos (by omega), if_pos rfl]; exact ⟨rfl, rfl⟩
theorem md_ok {a b c round : Int} (h : ¬ (round < 0 ∨ 2 < round)) (hc : c ≠ 0) : mdV a b c round = fitV (mdQ a b c round) ∧ mdE a b c round = fitE (mdQ a b c round) := by
  unfold mdV mdE; rw [if_neg h, if_neg (by omega), if_neg hc]; exact ⟨rfl, rfl⟩
theorem mdV_bd (a b c round : Int) : -9223372036854775808 ≤ mdV a b c round ∧ mdV a b c round ≤ 9223372036854775807 := by
  unfold mdV; split
  · omega
  · exact fitV_bd _

theorem dec_neg {a : Int} (h : a < 0) : decide (a < 0) = true := decide_eq_true h
theorem dec_pos {a : Int} (h : 0 ≤ a) : decide (a < 0) = false := decide_eq_false (by omega)
/-- The four ways in which two numbers may have signs. -/
theorem signs (a : Int) : decide (a < 0) = true ∨ decide (a < 0) = false := by cases decide (a < 0) <;> simp
theorem sgn_big {m : Int} {neg : Bool} (h : 9223372036854775808 < m) : ¬ (-9223372036854775808 ≤ sgn m neg ∧ sgn m neg ≤ 9223372036854775807) := by
  unfold sgn; cases neg <;> simp <;> omega
theorem ups_bd (b : Bool) : 0 ≤ ups b ∧ ups b ≤ 1 := by cases b <;> decide
/-- The quotient as Div gives it, out of the words of the product. -/
theorem wide_prod (a b : Int) : mHi a b * 18446744073709551616 + mLo a b = a * b := by unfold mHi mLo; omega
theorem qOf_prod (a b d : Int) : qOf (mHi a b) (mLo a b) d = a * b / d := by unfold qOf; rw [wide_prod]
theorem rOf_prod (a b d : Int) : rOf (mHi a b) (mLo a b) d = a * b % d := by unfold rOf; rw [wide_prod]
/-- A quotient of 2^64 or more fits in no case. -/
theorem big_quo {p d : Int} (hd : 0 < d) (p0 : 0 ≤ p) (h : d ≤ p / 18446744073709551616) : 18446744073709551616 ≤ p / d := by
  refine (Int.le_ediv_iff_mul_le hd).2 ?_
  omega
end Go.Proofs.Ythmcdnomphmbiaa

