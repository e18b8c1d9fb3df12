/-
  Layer 1: contracts of the program's and the reference's Mul, Add, Less and Cross, and of the law's own awake. Every word; no condition.
-/
import Derived.Test.YtnkgofhggmcogaaRows
import Derived.Test.YtnkgofhggmcogaaPlain
import Derived.WalkKit
import Derived.WalkSpells
import Derived.ProofKit
import Derived.OpenShut
import Derived.RowKit3
import Derived.Below
import Derived.RegionTactic
import Derived.ChangeAlike
namespace Go.Proofs.Ytnkgofhggmcogaa
open Go.ChangeShapes Go.WideShapes Go.ChangeAt Go.RowKit
set_option linter.unusedVariables false

theorem mul_any (a b : Int) (a0 : 0 ≤ a) (a1 : a ≤ 18446744073709551615) (b0 : 0 ≤ b) (b1 : b ≤ 18446744073709551615) (w : World) :
    Calls Try.prog 10 #[.int .u64 a, .int .u64 b] w fun e w' => e = .returned (.agg #[.int .u64 (mHi a b), .int .u64 (mLo a b)]) ∧ w' = w.alloc (.cells #[.int .u64 (mHi a b), .int .u64 (mLo a b)] 28) := by
  obtain ⟨P, Q, R, S, hP, hQ, hR, hS, p0, p1, q0, q1, r0, r1, s0, s1, hb, e1, e2, e3⟩ := word_mul a b a0 a1 b0 b1
  have ea := and_mask a a0 a1
  have eb := and_mask b b0 b1
  have el := and_mask (Q + S / 4294967296) (by omega) (by omega)
  have es := and_mask S (by omega) (by omega)
  clear e3
  go_enter Try.func10, Try.ntmps10
  go_wp2
  exact bodyPost_ret (v := .agg #[.int .u64 (mHi a b), .int .u64 (mLo a b)]) (by simp [results, Try.results10, go_sem]) rfl ⟨rfl, rfl⟩
theorem refMul_any (a b : Int) (a0 : 0 ≤ a) (a1 : a ≤ 18446744073709551615) (b0 : 0 ≤ b) (b1 : b ≤ 18446744073709551615) (w : World) :
    Calls Try.prog 11 #[.int .u64 a, .int .u64 b] w fun e w' => e = .returned (.agg #[.int .u64 (mHi a b), .int .u64 (mLo a b)]) ∧ w' = w.alloc (.cells #[.int .u64 (mHi a b), .int .u64 (mLo a b)] 28) := by
  obtain ⟨P, Q, R, S, hP, hQ, hR, hS, p0, p1, q0, q1, r0, r1, s0, s1, hb, e1, e2, e3⟩ := word_mul a b a0 a1 b0 b1
  clear e2
  go_enter Try.func11, Try.ntmps11
  go_wp2
  exact bodyPost_ret (v := .agg #[.int .u64 (mHi a b), .int .u64 (mLo a b)]) (by simp [results, Try.results11, go_sem]) rfl ⟨rfl, rfl⟩
theorem mul_const (w : World) :
    Calls Try.prog 10 #[.int .u64 9223372036854775808, .int .u64 6] w fun e w' => e = .returned (.agg #[.int .u64 3, .int .u64 0]) ∧ w' = w.alloc (.cells #[.int .u64 3, .int .u64 0] 28) := by
  have h := mul_any 9223372036854775808 6 (by omega) (by omega) (by omega) (by omega) w
  have e1 : mHi 9223372036854775808 6 = 3 := by decide
  have e2 : mLo 9223372036854775808 6 = 0 := by decide
  rw [e1, e2] at h
  exact h
theorem awake_any (w : World) : Calls Try.prog 12 #[] w fun e w' => e = .returned (.bool true) ∧ w' = w.alloc (.cells #[.int .u64 3, .int .u64 0] 28) := by
  go_enter Try.func12, Try.ntmps12
  go_wp2_with (go_at_call 10; refine (mul_const _).mono ?_; rintro e w' ⟨rfl, rfl⟩)
  go_ret
  exact ⟨rfl, rfl⟩

theorem add_lo (hi lo y : Int) (h0 : 0 ≤ hi) (h1 : hi ≤ 18446744073709551615) (l0 : 0 ≤ lo) (l1 : lo ≤ 18446744073709551615) (y0 : 0 ≤ y) (y1 : y ≤ 18446744073709551615) (h : lo + y ≤ 18446744073709551615) (w : World) :
    Calls Try.prog 13 #[.agg #[.int .u64 hi, .int .u64 lo], .int .u64 y] w fun e w' => e = .returned (.tuple #[.agg #[.int .u64 hi, .int .u64 (lo + y)], .bool false]) ∧
      w' = ((w.alloc (.cells #[.int .u64 hi, .int .u64 lo] 28)).alloc (.cells #[.int .u64 hi, .int .u64 (lo + y)] 28)).alloc (.cells #[.int .u64 hi, .int .u64 (lo + y)] 28) := by
  go_enter Try.func13, Try.ntmps13
  go_wp2
  exact bodyPost_ret (v := .tuple #[.agg #[.int .u64 hi, .int .u64 (lo + y)], .bool false]) (by simp [results, Try.results13, go_sem]) rfl ⟨rfl, rfl⟩
theorem add_hi (hi lo y : Int) (h0 : 0 ≤ hi) (h1 : hi ≤ 18446744073709551615) (l0 : 0 ≤ lo) (l1 : lo ≤ 18446744073709551615) (y0 : 0 ≤ y) (y1 : y ≤ 18446744073709551615) (h : 18446744073709551615 < lo + y) (w : World) :
    Calls Try.prog 13 #[.agg #[.int .u64 hi, .int .u64 lo], .int .u64 y] w fun e w' => e = .returned (.tuple #[.agg #[.int .u64 (aHi hi lo y), .int .u64 (aLo lo y)], .bool (aOver hi lo y)]) ∧
      w' = (((w.alloc (.cells #[.int .u64 hi, .int .u64 lo] 28)).alloc (.cells #[.int .u64 (aHi hi lo y), .int .u64 (aLo lo y)] 28)).alloc (.cells #[.int .u64 (aHi hi lo y), .int .u64 (aLo lo y)] 28)).drew := by
  obtain ⟨e1, e2, e3, e4⟩ := add_carry hi lo y h0 h1 l0 l1 y0 y1 (by omega)
  go_enter Try.func13, Try.ntmps13
  go_wp2
  go_region
  go_wp2
  exact bodyPost_ret (v := .tuple #[.agg #[.int .u64 (aHi hi lo y), .int .u64 (aLo lo y)], .bool (aOver hi lo y)]) (by simp [results, Try.results13, go_sem]) rfl ⟨rfl, rfl⟩
theorem refAdd_lo (hi lo y : Int) (h0 : 0 ≤ hi) (h1 : hi ≤ 18446744073709551615) (l0 : 0 ≤ lo) (l1 : lo ≤ 18446744073709551615) (y0 : 0 ≤ y) (y1 : y ≤ 18446744073709551615) (h : lo + y ≤ 18446744073709551615) (w : World) :
    Calls Try.prog 14 #[.agg #[.int .u64 hi, .int .u64 lo], .int .u64 y] w fun e w' => e = .returned (.tuple #[.agg #[.int .u64 hi, .int .u64 (lo + y)], .bool false]) ∧
      w' = (w.alloc (.cells #[.int .u64 hi, .int .u64 lo] 28)).alloc (.cells #[.int .u64 hi, .int .u64 (lo + y)] 28) := by
  go_enter Try.func14, Try.ntmps14
  go_wp2
  exact bodyPost_ret (v := .tuple #[.agg #[.int .u64 hi, .int .u64 (lo + y)], .bool false]) (by simp [results, Try.results14, go_sem]) rfl ⟨rfl, rfl⟩
theorem refAdd_hi (hi lo y : Int) (h0 : 0 ≤ hi) (h1 : hi ≤ 18446744073709551615) (l0 : 0 ≤ lo) (l1 : lo ≤ 18446744073709551615) (y0 : 0 ≤ y) (y1 : y ≤ 18446744073709551615) (h : 18446744073709551615 < lo + y) (w : World) :
    Calls Try.prog 14 #[.agg #[.int .u64 hi, .int .u64 lo], .int .u64 y] w fun e w' => e = .returned (.tuple #[.agg #[.int .u64 (aHi hi lo y), .int .u64 (aLo lo y)], .bool (aOver hi lo y)]) ∧
      w' = ((w.alloc (.cells #[.int .u64 hi, .int .u64 lo] 28)).alloc (.cells #[.int .u64 (aHi hi lo y), .int .u64 (aLo lo y)] 28)).drew := by
  obtain ⟨e1, e2, e3, e4⟩ := add_carry hi lo y h0 h1 l0 l1 y0 y1 (by omega)
  go_enter Try.func14, Try.ntmps14
  go_wp2
  go_region
  go_wp2
  exact bodyPost_ret (v := .tuple #[.agg #[.int .u64 (aHi hi lo y), .int .u64 (aLo lo y)], .bool (aOver hi lo y)]) (by simp [results, Try.results14, go_sem]) rfl ⟨rfl, rfl⟩

/-- The order of wide numbers. -/
def wLess (ah al bh bl : Int) : Bool := decide (ah < bh ∨ (ah = bh ∧ al < bl))
theorem wLess_lt {ah al bh bl : Int} (h : ah < bh) : wLess ah al bh bl = true := by unfold wLess; simp [h]
theorem wLess_eq {ah al bl : Int} : wLess ah al ah bl = decide (al < bl) := by unfold wLess; simp
theorem wLess_gt {ah al bh bl : Int} (h : bh < ah) : wLess ah al bh bl = false := by unfold wLess; simp; omega
theorem less_any (ah al bh bl : Int) (w : World) :
    Calls Try.prog 19 #[.agg #[.int .u64 ah, .int .u64 al], .agg #[.int .u64 bh, .int .u64 bl]] w fun e w' => e = .returned (.bool (wLess ah al bh bl)) ∧
      w' = (w.alloc (.cells #[.int .u64 ah, .int .u64 al] 28)).alloc (.cells #[.int .u64 bh, .int .u64 bl] 28) := by
  rcases Int.lt_trichotomy ah bh with h | h | h
  · rw [wLess_lt h]
    go_enter Try.func19, Try.ntmps19
    go_wp2
    go_ret
    exact ⟨rfl, rfl⟩
  · subst h
    rw [wLess_eq]
    go_enter Try.func19, Try.ntmps19
    go_wp2
    go_ret
    exact ⟨rfl, rfl⟩
  · rw [wLess_gt h]
    have h' : ¬ ah < bh := by omega
    go_enter Try.func19, Try.ntmps19
    go_wp2
    go_ret
    exact ⟨rfl, rfl⟩
theorem refLess_any (ah al bh bl : Int) (w : World) :
    Calls Try.prog 20 #[.agg #[.int .u64 ah, .int .u64 al], .agg #[.int .u64 bh, .int .u64 bl]] w fun e w' => e = .returned (.bool (wLess ah al bh bl)) ∧
      w' = (w.alloc (.cells #[.int .u64 ah, .int .u64 al] 28)).alloc (.cells #[.int .u64 bh, .int .u64 bl] 28) := by
  rcases Int.lt_trichotomy ah bh with h | h | h
  · rw [wLess_lt h]
    go_enter Try.func20, Try.ntmps20
    go_wp2
    go_ret
    exact ⟨rfl, rfl⟩
  · subst h
    rw [wLess_eq]
    go_enter Try.func20, Try.ntmps20
    go_wp2
    go_ret
    exact ⟨rfl, rfl⟩
  · rw [wLess_gt h]
    have h' : ¬ ah < bh := by omega
    have h'' : ¬ ah = bh := by omega
    go_enter Try.func20, Try.ntmps20
    go_wp2
    go_ret
    exact ⟨rfl, rfl⟩

theorem below_alloc {W w' : World} (h : Below W.heap.size W w') (o : Obj) : Below W.heap.size W (w'.alloc o) := h.alloc h.size o
/-- The order of two products: -1, 0 or 1. -/
def crossZ (a b c d : Int) : Int := if wLess (mHi a b) (mLo a b) (mHi c d) (mLo c d) = true then -1 else if wLess (mHi c d) (mLo c d) (mHi a b) (mLo a b) = true then 1 else 0
theorem wLess_self (a b : Int) : wLess a b a b = false := by unfold wLess; simp
theorem crossZ_back (a b : Int) : crossZ a b b a = 0 := by
  have h1 : mHi b a = mHi a b := by unfold mHi; rw [Int.mul_comm]
  have h2 : mLo b a = mLo a b := by unfold mLo; rw [Int.mul_comm]
  unfold crossZ
  rw [h1, h2, wLess_self]; simp
theorem cross_any (a b c d : Int) (a0 : 0 ≤ a) (a1 : a ≤ 18446744073709551615) (b0 : 0 ≤ b) (b1 : b ≤ 18446744073709551615) (c0 : 0 ≤ c) (c1 : c ≤ 18446744073709551615) (d0 : 0 ≤ d) (d1 : d ≤ 18446744073709551615) (w : World) :
    Calls Try.prog 17 #[.int .u64 a, .int .u64 b, .int .u64 c, .int .u64 d] w fun e w' => e = .returned (.int .i64 (crossZ a b c d)) ∧ Below w.heap.size w w' := by
  unfold crossZ
  by_cases h1 : wLess (mHi a b) (mLo a b) (mHi c d) (mLo c d) = true
  · rw [if_pos h1]
    go_enter Try.func17, Try.ntmps17
    go_wp2_with (first
      | (go_at_call 10; (with_reducible refine (mul_any a b a0 a1 b0 b1 _).mono ?_); rintro e w' ⟨rfl, rfl⟩)
      | (go_at_call 10; (with_reducible refine (mul_any c d c0 c1 d0 d1 _).mono ?_); rintro e w' ⟨rfl, rfl⟩)
      | (go_at_call 19; (with_reducible refine (less_any _ _ _ _ _).mono ?_); rintro e w' ⟨rfl, rfl⟩))
    go_ret
    exact ⟨rfl, by repeat (first | with_reducible exact Below.refl _ _ | with_reducible apply below_alloc)⟩
  · rw [if_neg h1]
    simp only [Bool.not_eq_true] at h1
    by_cases h2 : wLess (mHi c d) (mLo c d) (mHi a b) (mLo a b) = true
    · rw [if_pos h2]
      go_enter Try.func17, Try.ntmps17
      go_wp2_with (first
        | (go_at_call 10; (with_reducible refine (mul_any a b a0 a1 b0 b1 _).mono ?_); rintro e w' ⟨rfl, rfl⟩)
        | (go_at_call 10; (with_reducible refine (mul_any c d c0 c1 d0 d1 _).mono ?_); rintro e w' ⟨rfl, rfl⟩)
        | (go_at_call 19; (with_reducible refine (less_any _ _ _ _ _).mono ?_); rintro e w' ⟨rfl, rfl⟩))
      go_ret
      exact ⟨rfl, by repeat (first | with_reducible exact Below.refl _ _ | with_reducible apply below_alloc)⟩
    · rw [if_neg h2]
      simp only [Bool.not_eq_true] at h2
      go_enter Try.func17, Try.ntmps17
      go_wp2_with (first
        | (go_at_call 10; (with_reducible refine (mul_any a b a0 a1 b0 b1 _).mono ?_); rintro e w' ⟨rfl, rfl⟩)
        | (go_at_call 10; (with_reducible refine (mul_any c d c0 c1 d0 d1 _).mono ?_); rintro e w' ⟨rfl, rfl⟩)
        | (go_at_call 19; (with_reducible refine (less_any _ _ _ _ _).mono ?_); rintro e w' ⟨rfl, rfl⟩))
      go_ret
      exact ⟨rfl, by repeat (first | with_reducible exact Below.refl _ _ | with_reducible apply below_alloc)⟩
theorem refCross_any (a b c d : Int) (a0 : 0 ≤ a) (a1 : a ≤ 18446744073709551615) (b0 : 0 ≤ b) (b1 : b ≤ 18446744073709551615) (c0 : 0 ≤ c) (c1 : c ≤ 18446744073709551615) (d0 : 0 ≤ d) (d1 : d ≤ 18446744073709551615) (w : World) :
    Calls Try.prog 18 #[.int .u64 a, .int .u64 b, .int .u64 c, .int .u64 d] w fun e w' => e = .returned (.int .i64 (crossZ a b c d)) ∧ Below w.heap.size w w' := by
  unfold crossZ
  by_cases h1 : wLess (mHi a b) (mLo a b) (mHi c d) (mLo c d) = true
  · rw [if_pos h1]
    go_enter Try.func18, Try.ntmps18
    go_wp2_with (first
      | (go_at_call 11; (with_reducible refine (refMul_any a b a0 a1 b0 b1 _).mono ?_); rintro e w' ⟨rfl, rfl⟩)
      | (go_at_call 11; (with_reducible refine (refMul_any c d c0 c1 d0 d1 _).mono ?_); rintro e w' ⟨rfl, rfl⟩)
      | (go_at_call 20; (with_reducible refine (refLess_any _ _ _ _ _).mono ?_); rintro e w' ⟨rfl, rfl⟩))
    go_ret
    exact ⟨rfl, by repeat (first | with_reducible exact Below.refl _ _ | with_reducible apply below_alloc)⟩
  · rw [if_neg h1]
    simp only [Bool.not_eq_true] at h1
    by_cases h2 : wLess (mHi c d) (mLo c d) (mHi a b) (mLo a b) = true
    · rw [if_pos h2]
      go_enter Try.func18, Try.ntmps18
      go_wp2_with (first
        | (go_at_call 11; (with_reducible refine (refMul_any a b a0 a1 b0 b1 _).mono ?_); rintro e w' ⟨rfl, rfl⟩)
        | (go_at_call 11; (with_reducible refine (refMul_any c d c0 c1 d0 d1 _).mono ?_); rintro e w' ⟨rfl, rfl⟩)
        | (go_at_call 20; (with_reducible refine (refLess_any _ _ _ _ _).mono ?_); rintro e w' ⟨rfl, rfl⟩))
      go_ret
      exact ⟨rfl, by repeat (first | with_reducible exact Below.refl _ _ | with_reducible apply below_alloc)⟩
    · rw [if_neg h2]
      simp only [Bool.not_eq_true] at h2
      go_enter Try.func18, Try.ntmps18
      go_wp2_with (first
        | (go_at_call 11; (with_reducible refine (refMul_any a b a0 a1 b0 b1 _).mono ?_); rintro e w' ⟨rfl, rfl⟩)
        | (go_at_call 11; (with_reducible refine (refMul_any c d c0 c1 d0 d1 _).mono ?_); rintro e w' ⟨rfl, rfl⟩)
        | (go_at_call 20; (with_reducible refine (refLess_any _ _ _ _ _).mono ?_); rintro e w' ⟨rfl, rfl⟩))
      go_ret
      exact ⟨rfl, by repeat (first | with_reducible exact Below.refl _ _ | with_reducible apply below_alloc)⟩
end Go.Proofs.Ytnkgofhggmcogaa
