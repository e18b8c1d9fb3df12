/-
  Layer 1: contracts of the two Less and Cross. Every word; no condition.
-/
import Derived.Test.YtbhgkifalihheaaMulC
import Derived.WalkKit
import Derived.WalkSpells
import Derived.ProofKit
import Derived.OpenShut
import Derived.RowKit3
import Derived.Below
import Derived.RegionTactic
import Derived.ChangeAlike
namespace Go.Proofs.Ytbhgkifalihheaa
open Go.ChangeShapes Go.WideShapes Go.ChangeAt Go.RowKit
set_option linter.unusedVariables false

/-- The order of wide numbers. -/
def wLess (ah al bh bl : Int) : Bool := decide (ah < bh ∨ (ah = bh ∧ al < bl))
theorem wLess_lt {ah al bh bl : Int} (h : ah < bh) : wLess ah al bh bl = true := by unfold wLess; simp [h]
theorem wLess_eq {ah al bl : Int} : wLess ah al ah bl = decide (al < bl) := by unfold wLess; simp
theorem wLess_gt {ah al bh bl : Int} (h : bh < ah) : wLess ah al bh bl = false := by unfold wLess; simp; omega
theorem refLess_any (ah al bh bl : Int) (w : World) :
    Calls Try.prog 45 #[.agg #[.int .u64 ah, .int .u64 al], .agg #[.int .u64 bh, .int .u64 bl]] w fun e w' => e = .returned (.bool (wLess ah al bh bl)) ∧
      w' = (w.alloc (.cells #[.int .u64 ah, .int .u64 al] 68)).alloc (.cells #[.int .u64 bh, .int .u64 bl] 68) := by
  rcases Int.lt_trichotomy ah bh with h | h | h
  · rw [wLess_lt h]
    go_enter Try.func45, Try.ntmps45
    go_wp2
    go_ret
    exact ⟨rfl, rfl⟩
  · subst h
    rw [wLess_eq]
    go_enter Try.func45, Try.ntmps45
    go_wp2
    go_ret
    exact ⟨rfl, rfl⟩
  · rw [wLess_gt h]
    have h' : ¬ ah < bh := by omega
    have h'' : ¬ ah = bh := by omega
    go_enter Try.func45, Try.ntmps45
    go_wp2
    go_ret
    exact ⟨rfl, rfl⟩

/-- The order of two products: -1, 0 or 1. -/
def crossZ (a b c d : Int) : Int := if wLess (mHi a b) (mLo a b) (mHi c d) (mLo c d) = true then -1 else if wLess (mHi c d) (mLo c d) (mHi a b) (mLo a b) = true then 1 else 0
theorem wLess_self (a b : Int) : wLess a b a b = false := by unfold wLess; simp
theorem crossZ_back (a b : Int) : crossZ a b b a = 0 := by
  have h1 : mHi b a = mHi a b := by unfold mHi; rw [Int.mul_comm]
  have h2 : mLo b a = mLo a b := by unfold mLo; rw [Int.mul_comm]
  unfold crossZ
  rw [h1, h2, wLess_self]; simp
theorem refCross_any (a b c d : Int) (a0 : 0 ≤ a) (a1 : a ≤ 18446744073709551615) (b0 : 0 ≤ b) (b1 : b ≤ 18446744073709551615) (c0 : 0 ≤ c) (c1 : c ≤ 18446744073709551615) (d0 : 0 ≤ d) (d1 : d ≤ 18446744073709551615) (w : World) :
    Calls Try.prog 35 #[.int .u64 a, .int .u64 b, .int .u64 c, .int .u64 d] w fun e w' => e = .returned (.int .i64 (crossZ a b c d)) ∧ Below w.heap.size w w' := by
  unfold crossZ
  by_cases h1 : wLess (mHi a b) (mLo a b) (mHi c d) (mLo c d) = true
  · rw [if_pos h1]
    go_enter Try.func35, Try.ntmps35
    go_wp2_with (first
      | (go_at_call 43; (with_reducible refine (refMul_any a b a0 a1 b0 b1 _).mono ?_); rintro e w' ⟨rfl, rfl⟩)
      | (go_at_call 43; (with_reducible refine (refMul_any c d c0 c1 d0 d1 _).mono ?_); rintro e w' ⟨rfl, rfl⟩)
      | (go_at_call 45; (with_reducible refine (refLess_any _ _ _ _ _).mono ?_); rintro e w' ⟨rfl, rfl⟩))
    go_ret
    exact ⟨rfl, by repeat (first | with_reducible exact Below.refl _ _ | with_reducible apply below_alloc)⟩
  · rw [if_neg h1]
    simp only [Bool.not_eq_true] at h1
    by_cases h2 : wLess (mHi c d) (mLo c d) (mHi a b) (mLo a b) = true
    · rw [if_pos h2]
      go_enter Try.func35, Try.ntmps35
      go_wp2_with (first
        | (go_at_call 43; (with_reducible refine (refMul_any a b a0 a1 b0 b1 _).mono ?_); rintro e w' ⟨rfl, rfl⟩)
        | (go_at_call 43; (with_reducible refine (refMul_any c d c0 c1 d0 d1 _).mono ?_); rintro e w' ⟨rfl, rfl⟩)
        | (go_at_call 45; (with_reducible refine (refLess_any _ _ _ _ _).mono ?_); rintro e w' ⟨rfl, rfl⟩))
      go_ret
      exact ⟨rfl, by repeat (first | with_reducible exact Below.refl _ _ | with_reducible apply below_alloc)⟩
    · rw [if_neg h2]
      simp only [Bool.not_eq_true] at h2
      go_enter Try.func35, Try.ntmps35
      go_wp2_with (first
        | (go_at_call 43; (with_reducible refine (refMul_any a b a0 a1 b0 b1 _).mono ?_); rintro e w' ⟨rfl, rfl⟩)
        | (go_at_call 43; (with_reducible refine (refMul_any c d c0 c1 d0 d1 _).mono ?_); rintro e w' ⟨rfl, rfl⟩)
        | (go_at_call 45; (with_reducible refine (refLess_any _ _ _ _ _).mono ?_); rintro e w' ⟨rfl, rfl⟩))
      go_ret
      exact ⟨rfl, by repeat (first | with_reducible exact Below.refl _ _ | with_reducible apply below_alloc)⟩
end Go.Proofs.Ytbhgkifalihheaa

