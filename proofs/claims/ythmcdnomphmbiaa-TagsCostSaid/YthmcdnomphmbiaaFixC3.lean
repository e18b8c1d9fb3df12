/-
  Layer 2: contracts of the program's and the reference's products and quotients (package fixed). Every input; no condition.
-/
import Derived.Test.YthmcdnomphmbiaaFixC2
import Derived.Lib.Hide
import Derived.IntWalk
import Derived.Outline
namespace Go.Proofs.Ythmcdnomphmbiaa
open Go.ChangeShapes Go.WideShapes Go.ChangeAt Go.RowKit
set_option linter.unusedVariables false

theorem prod_bd {A B : Int} (a0 : 0 ≤ A) (a1 : A ≤ 9223372036854775808) (b0 : 0 ≤ B) (b1 : B ≤ 9223372036854775808) : 0 ≤ A * B ∧ A * B ≤ 85070591730234615865843651857942052864 :=
  ⟨Int.mul_nonneg a0 b0, Int.le_trans (Int.mul_le_mul a1 b1 b0 (by omega)) (by omega)⟩
/-- What the walks over Mul need: the product of the magnitudes is below 2^64 and is the lower word, or the product does not fit. -/
theorem mul_words {a b : Int} (a0 : -9223372036854775808 ≤ a) (a1 : a ≤ 9223372036854775807) (b0 : -9223372036854775808 ≤ b) (b1 : b ≤ 9223372036854775807) :
    (mHi (absZ a) (absZ b) = 0 ∧ sgn (mLo (absZ a) (absZ b)) (negs a b) = a * b) ∨ (0 < mHi (absZ a) (absZ b) ∧ fitV (a * b) = 0 ∧ fitE (a * b) = 2) := by
  have ha := absZ_bd a0 a1
  have hb := absZ_bd b0 b1
  have hp := prod_bd ha.1 ha.2 hb.1 hb.2
  have hw := wide_prod (absZ a) (absZ b)
  have hs := sgn_mul a b
  have hl := mLo_bd (absZ a) (absZ b)
  rcases (by omega : mHi (absZ a) (absZ b) = 0 ∨ mHi (absZ a) (absZ b) < 0 ∨ 0 < mHi (absZ a) (absZ b)) with h | h | h
  · left
    refine ⟨h, ?_⟩
    rw [← hs]; congr 1; omega
  · have := (mHi_bd (absZ a) (absZ b) ha.1 (by omega) hb.1 (by omega)).1
    omega
  · right
    refine ⟨h, fit_no ?_⟩
    rw [← hs]
    exact sgn_big (by omega)
end Go.Proofs.Ythmcdnomphmbiaa

