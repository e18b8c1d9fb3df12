/-
  Layer 2: contracts of the program's and the reference's checked arithmetic (package fixed). Every input; no condition.
-/
import Derived.Test.YthmcdnomphmbiaaFixC
import Derived.Lib.Hide
import Derived.IntWalk
import Derived.Outline
namespace Go.Proofs.Ythmcdnomphmbiaa
open Go.ChangeShapes Go.WideShapes Go.ChangeAt Go.RowKit
set_option linter.unusedVariables false

/-- A sum of two numbers, wrapped: it fits, or it is too great, or too small. -/
theorem wrap_cases (x : Int) (h0 : -18446744073709551616 ≤ x) (h1 : x ≤ 18446744073709551615) :
    ((-9223372036854775808 ≤ x ∧ x ≤ 9223372036854775807) ∧ wrap64 x = x) ∨ (9223372036854775807 < x ∧ wrap64 x = x - 18446744073709551616) ∨ (x < -9223372036854775808 ∧ wrap64 x = x + 18446744073709551616) := by
  unfold wrap64; omega
theorem dyes {p : Prop} [Decidable p] (h : p) : decide p = true := decide_eq_true h
theorem dno {p : Prop} [Decidable p] (h : ¬ p) : decide p = false := decide_eq_false h
end Go.Proofs.Ythmcdnomphmbiaa

