/-
  Layer 1: contracts of the two Less and Cross. Every word; no condition.
-/
import Derived.Test.YthmcdnomphmbiaaMulC
import Derived.WalkKit
import Derived.WalkSpells
import Derived.ProofKit
import Derived.OpenShut
import Derived.RowKit3
import Derived.Below
import Derived.RegionTactic
import Derived.ChangeAlike
namespace Go.Proofs.Ythmcdnomphmbiaa
open Go.ChangeShapes Go.WideShapes Go.ChangeAt Go.RowKit
set_option linter.unusedVariables false

/-- The order of wide numbers. -/
def wLess (ah al bh bl : Int) : Bool := decide (ah < bh ∨ (ah = bh ∧ al < bl))
theorem wLess_lt {ah al bh bl : Int} (h : ah < bh) : wLess ah al bh bl = true := by unfold wLess; simp [h]
theorem wLess_eq {ah al bl : Int} : wLess ah al ah bl = decide (al < bl) := by unfold wLess; simp
theorem wLess_gt {ah al bh bl : Int} (h : bh < ah) : wLess ah al bh bl = false := by unfold wLess; simp; omega
/-- The order of two products: -1, 0 or 1. -/
def crossZ (a b c d : Int) : Int := if wLess (mHi a b) (mLo a b) (mHi c d) (mLo c d) = true then -1 else if wLess (mHi c d) (mLo c d) (mHi a b) (mLo a b) = true then 1 else 0
theorem wLess_self (a b : Int) : wLess a b a b = false := by unfold wLess; simp
theorem crossZ_back (a b : Int) : crossZ a b b a = 0 := by
  have h1 : mHi b a = mHi a b := by unfold mHi; rw [Int.mul_comm]
  have h2 : mLo b a = mLo a b := by unfold mLo; rw [Int.mul_comm]
  unfold crossZ
  rw [h1, h2, wLess_self]; simp
end Go.Proofs.Ythmcdnomphmbiaa

