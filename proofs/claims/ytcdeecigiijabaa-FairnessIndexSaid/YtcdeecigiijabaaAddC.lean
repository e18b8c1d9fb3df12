/-
  Layer 1: contracts of the two Add, and of the law's awake. Every word; no condition.
-/
import Derived.Test.YtcdeecigiijabaaMulC
import Derived.WalkKit
import Derived.WalkSpells
import Derived.ProofKit
import Derived.OpenShut
import Derived.RowKit3
import Derived.Below
import Derived.RegionTactic
import Derived.ChangeAlike
namespace Go.Proofs.Ytcdeecigiijabaa
open Go.ChangeShapes Go.WideShapes Go.ChangeAt Go.RowKit
set_option linter.unusedVariables false

theorem mul_const (w : World) :
    Calls Try.prog 33 #[.int .u64 9223372036854775808, .int .u64 6] w fun e w' => e = .returned (.agg #[.int .u64 3, .int .u64 0]) ∧ w' = w.alloc (.cells #[.int .u64 3, .int .u64 0] 37) := by
  have h := mul_any 9223372036854775808 6 (by omega) (by omega) (by omega) (by omega) w
  have e1 : mHi 9223372036854775808 6 = 3 := by decide
  have e2 : mLo 9223372036854775808 6 = 0 := by decide
  rw [e1, e2] at h
  exact h
theorem add_lo (hi lo y : Int) (h0 : 0 ≤ hi) (h1 : hi ≤ 18446744073709551615) (l0 : 0 ≤ lo) (l1 : lo ≤ 18446744073709551615) (y0 : 0 ≤ y) (y1 : y ≤ 18446744073709551615) (h : lo + y ≤ 18446744073709551615) (w : World) :
    Calls Try.prog 43 #[.agg #[.int .u64 hi, .int .u64 lo], .int .u64 y] w fun e w' => e = .returned (.tuple #[.agg #[.int .u64 hi, .int .u64 (lo + y)], .bool false]) ∧
      w' = ((w.alloc (.cells #[.int .u64 hi, .int .u64 lo] 37)).alloc (.cells #[.int .u64 hi, .int .u64 (lo + y)] 37)).alloc (.cells #[.int .u64 hi, .int .u64 (lo + y)] 37) := by
  go_enter Try.func43, Try.ntmps43
  go_wp2
  exact bodyPost_ret (v := .tuple #[.agg #[.int .u64 hi, .int .u64 (lo + y)], .bool false]) (by simp [results, Try.results43, go_sem]) rfl ⟨rfl, rfl⟩
theorem add_hi (hi lo y : Int) (h0 : 0 ≤ hi) (h1 : hi ≤ 18446744073709551615) (l0 : 0 ≤ lo) (l1 : lo ≤ 18446744073709551615) (y0 : 0 ≤ y) (y1 : y ≤ 18446744073709551615) (h : 18446744073709551615 < lo + y) (w : World) :
    Calls Try.prog 43 #[.agg #[.int .u64 hi, .int .u64 lo], .int .u64 y] w fun e w' => e = .returned (.tuple #[.agg #[.int .u64 (aHi hi lo y), .int .u64 (aLo lo y)], .bool (aOver hi lo y)]) ∧
      w' = (((w.alloc (.cells #[.int .u64 hi, .int .u64 lo] 37)).alloc (.cells #[.int .u64 (aHi hi lo y), .int .u64 (aLo lo y)] 37)).alloc (.cells #[.int .u64 (aHi hi lo y), .int .u64 (aLo lo y)] 37)).drew := by
  obtain ⟨e1, e2, e3, e4⟩ := add_carry hi lo y h0 h1 l0 l1 y0 y1 (by omega)
  go_enter Try.func43, Try.ntmps43
  go_wp2
  go_region
  go_wp2
  exact bodyPost_ret (v := .tuple #[.agg #[.int .u64 (aHi hi lo y), .int .u64 (aLo lo y)], .bool (aOver hi lo y)]) (by simp [results, Try.results43, go_sem]) rfl ⟨rfl, rfl⟩
theorem refAdd_lo (hi lo y : Int) (h0 : 0 ≤ hi) (h1 : hi ≤ 18446744073709551615) (l0 : 0 ≤ lo) (l1 : lo ≤ 18446744073709551615) (y0 : 0 ≤ y) (y1 : y ≤ 18446744073709551615) (h : lo + y ≤ 18446744073709551615) (w : World) :
    Calls Try.prog 41 #[.agg #[.int .u64 hi, .int .u64 lo], .int .u64 y] w fun e w' => e = .returned (.tuple #[.agg #[.int .u64 hi, .int .u64 (lo + y)], .bool false]) ∧
      w' = (w.alloc (.cells #[.int .u64 hi, .int .u64 lo] 37)).alloc (.cells #[.int .u64 hi, .int .u64 (lo + y)] 37) := by
  go_enter Try.func41, Try.ntmps41
  go_wp2
  exact bodyPost_ret (v := .tuple #[.agg #[.int .u64 hi, .int .u64 (lo + y)], .bool false]) (by simp [results, Try.results41, go_sem]) rfl ⟨rfl, rfl⟩
theorem refAdd_hi (hi lo y : Int) (h0 : 0 ≤ hi) (h1 : hi ≤ 18446744073709551615) (l0 : 0 ≤ lo) (l1 : lo ≤ 18446744073709551615) (y0 : 0 ≤ y) (y1 : y ≤ 18446744073709551615) (h : 18446744073709551615 < lo + y) (w : World) :
    Calls Try.prog 41 #[.agg #[.int .u64 hi, .int .u64 lo], .int .u64 y] w fun e w' => e = .returned (.tuple #[.agg #[.int .u64 (aHi hi lo y), .int .u64 (aLo lo y)], .bool (aOver hi lo y)]) ∧
      w' = ((w.alloc (.cells #[.int .u64 hi, .int .u64 lo] 37)).alloc (.cells #[.int .u64 (aHi hi lo y), .int .u64 (aLo lo y)] 37)).drew := by
  obtain ⟨e1, e2, e3, e4⟩ := add_carry hi lo y h0 h1 l0 l1 y0 y1 (by omega)
  go_enter Try.func41, Try.ntmps41
  go_wp2
  go_region
  go_wp2
  exact bodyPost_ret (v := .tuple #[.agg #[.int .u64 (aHi hi lo y), .int .u64 (aLo lo y)], .bool (aOver hi lo y)]) (by simp [results, Try.results41, go_sem]) rfl ⟨rfl, rfl⟩

end Go.Proofs.Ytcdeecigiijabaa

