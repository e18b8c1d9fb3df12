/-
  Layer 1: contracts of the two Mul. Every word; no condition.
-/
import Derived.Test.YtcnpmbgeafkmlaaRows
import Derived.Test.YtcnpmbgeafkmlaaPlain
import Derived.WalkKit
import Derived.WalkSpells
import Derived.ProofKit
import Derived.OpenShut
import Derived.RowKit3
import Derived.Below
import Derived.RegionTactic
import Derived.ChangeAlike
namespace Go.Proofs.Ytcnpmbgeafkmlaa
open Go.ChangeShapes Go.WideShapes Go.ChangeAt Go.RowKit
set_option linter.unusedVariables false

theorem below_alloc {W w' : World} (h : Below W.heap.size W w') (o : Obj) : Below W.heap.size W (w'.alloc o) := h.alloc h.size o
theorem mul_any (a b : Int) (a0 : 0 ≤ a) (a1 : a ≤ 18446744073709551615) (b0 : 0 ≤ b) (b1 : b ≤ 18446744073709551615) (w : World) :
    Calls Try.prog 41 #[.int .u64 a, .int .u64 b] w fun e w' => e = .returned (.agg #[.int .u64 (mHi a b), .int .u64 (mLo a b)]) ∧ w' = w.alloc (.cells #[.int .u64 (mHi a b), .int .u64 (mLo a b)] 66) := by
  obtain ⟨P, Q, R, S, hP, hQ, hR, hS, p0, p1, q0, q1, r0, r1, s0, s1, hb, e1, e2, e3⟩ := word_mul a b a0 a1 b0 b1
  have ea := and_mask a a0 a1
  have eb := and_mask b b0 b1
  have el := and_mask (Q + S / 4294967296) (by omega) (by omega)
  have es := and_mask S (by omega) (by omega)
  clear e3
  go_enter Try.func41, Try.ntmps41
  go_wp2
  exact bodyPost_ret (v := .agg #[.int .u64 (mHi a b), .int .u64 (mLo a b)]) (by simp [results, Try.results41, go_sem]) rfl ⟨rfl, rfl⟩
/-- The order of wide numbers. -/
def wLess (ah al bh bl : Int) : Bool := decide (ah < bh ∨ (ah = bh ∧ al < bl))
theorem wLess_lt {ah al bh bl : Int} (h : ah < bh) : wLess ah al bh bl = true := by unfold wLess; simp [h]
theorem wLess_eq {ah al bl : Int} : wLess ah al ah bl = decide (al < bl) := by unfold wLess; simp
theorem wLess_gt {ah al bh bl : Int} (h : bh < ah) : wLess ah al bh bl = false := by unfold wLess; simp; omega
/-- The order of two products: -1, 0 or 1. -/
def crossZ (a b c d : Int) : Int := if wLess (mHi a b) (mLo a b) (mHi c d) (mLo c d) = true then -1 else if wLess (mHi c d) (mLo c d) (mHi a b) (mLo a b) = true then 1 else 0
theorem wLess_self (a b : Int) : wLess a b a b = false := by unfold wLess; simp
theorem crossZ_back (a b : Int) : crossZ a b b a = 0 := by
  have h1 : mHi b a = mHi a b := by unfold mHi; rw [Int.mul_comm]
  have h2 : mLo b a = mLo a b := by unfold mLo; rw [Int.mul_comm]
  unfold crossZ
  rw [h1, h2, wLess_self]; simp
end Go.Proofs.Ytcnpmbgeafkmlaa

