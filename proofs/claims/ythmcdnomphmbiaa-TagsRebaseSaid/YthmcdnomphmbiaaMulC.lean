/-
  Layer 1: contracts of the two Mul. Every word; no condition.
-/
import Derived.Test.YthmcdnomphmbiaaRows
import Derived.Test.YthmcdnomphmbiaaPlain
import Derived.WalkKit
import Derived.WalkSpells
import Derived.ProofKit
import Derived.OpenShut
import Derived.RowKit3
import Derived.Below
import Derived.RegionTactic
import Derived.ChangeAlike
namespace Go.Proofs.Ythmcdnomphmbiaa
open Go.ChangeShapes Go.WideShapes Go.ChangeAt Go.RowKit
set_option linter.unusedVariables false

theorem below_alloc {W w' : World} (h : Below W.heap.size W w') (o : Obj) : Below W.heap.size W (w'.alloc o) := h.alloc h.size o
theorem mul_any (a b : Int) (a0 : 0 ≤ a) (a1 : a ≤ 18446744073709551615) (b0 : 0 ≤ b) (b1 : b ≤ 18446744073709551615) (w : World) :
    Calls Try.prog 36 #[.int .u64 a, .int .u64 b] w fun e w' => e = .returned (.agg #[.int .u64 (mHi a b), .int .u64 (mLo a b)]) ∧ w' = w.alloc (.cells #[.int .u64 (mHi a b), .int .u64 (mLo a b)] 61) := by
  obtain ⟨P, Q, R, S, hP, hQ, hR, hS, p0, p1, q0, q1, r0, r1, s0, s1, hb, e1, e2, e3⟩ := word_mul a b a0 a1 b0 b1
  have ea := and_mask a a0 a1
  have eb := and_mask b b0 b1
  have el := and_mask (Q + S / 4294967296) (by omega) (by omega)
  have es := and_mask S (by omega) (by omega)
  clear e3
  go_enter Try.func36, Try.ntmps36
  go_wp2
  exact bodyPost_ret (v := .agg #[.int .u64 (mHi a b), .int .u64 (mLo a b)]) (by simp [results, Try.results36, go_sem]) rfl ⟨rfl, rfl⟩
end Go.Proofs.Ythmcdnomphmbiaa

