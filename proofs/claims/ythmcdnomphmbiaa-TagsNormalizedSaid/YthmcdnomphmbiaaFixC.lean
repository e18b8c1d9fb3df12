/-
  Layer 2: contracts of the program's and the reference's checked arithmetic (package fixed). Every input; no condition.
-/
import Derived.Test.YthmcdnomphmbiaaFixPlain
import Derived.Test.YthmcdnomphmbiaaDivC
import Derived.Test.YthmcdnomphmbiaaCrossC
import Derived.Lib.Hide
import Derived.IntWalk
import Derived.Outline
namespace Go.Proofs.Ythmcdnomphmbiaa
open Go.ChangeShapes Go.WideShapes Go.ChangeAt Go.RowKit
set_option linter.unusedVariables false

theorem magnitude_any (a : Int) (a0 : -9223372036854775808 ≤ a) (a1 : a ≤ 9223372036854775807) (w : World) :
    Calls Try.prog 34 #[.int .i64 a] w fun e w' => e = .returned (.int .u64 (absZ a)) ∧ w' = w := by
  by_cases h : a < 0
  · rw [absZ_neg h]
    have e1 : IntKind.u64.wrap (-IntKind.u64.wrap a) = -a := by rw [IntKind.wrap_u64, IntKind.wrap_u64]; omega
    go_enter Try.func34, Try.ntmps34
    go_wp2
    go_ret
    exact ⟨rfl, rfl⟩
  · rw [absZ_pos h]
    go_enter Try.func34, Try.ntmps34
    go_wp2
    go_ret
    exact ⟨rfl, rfl⟩
theorem w64_min : wrap64 (-wrap64 9223372036854775808) = -9223372036854775808 := by unfold wrap64; decide
theorem signed_any (m : Int) (neg : Bool) (m0 : 0 ≤ m) (m1 : m ≤ 18446744073709551615) (w : World) :
    Calls Try.prog 38 #[.int .u64 m, .bool neg] w fun e w' => e = .returned (.tuple #[.int .i64 (fitV (sgn m neg)), .int .i64 (fitE (sgn m neg))]) ∧ w' = w := by
  cases neg with
  | true =>
    by_cases h : m ≤ 9223372036854775808
    · obtain ⟨e1, e2⟩ := fit_yes (x := sgn m true) (by unfold sgn; simp; omega)
      rw [e1, e2]
      have e3 : sgn m true = -m := rfl
      rw [e3]
      clear e1 e2 e3
      rcases (by omega : m = 9223372036854775808 ∨ m < 9223372036854775808) with hm | hm
      · subst hm
        go_enter Try.func38, Try.ntmps38
        go_wp2
        go_ret2
        exact ⟨congrArg (fun x => Ending.returned (.tuple #[.int .i64 x, .int .i64 0])) w64_min, rfl⟩
      · go_enter Try.func38, Try.ntmps38
        go_wp2
        go_ret2
        exact ⟨rfl, rfl⟩
    · obtain ⟨e1, e2⟩ := fit_no (x := sgn m true) (by unfold sgn; simp; omega)
      rw [e1, e2]
      clear e1 e2
      go_enter Try.func38, Try.ntmps38
      go_wp2
      go_ret2
      exact ⟨rfl, rfl⟩
  | false =>
    by_cases h : m < 9223372036854775808
    · obtain ⟨e1, e2⟩ := fit_yes (x := sgn m false) (by unfold sgn; simp; omega)
      rw [e1, e2]
      have e3 : sgn m false = m := rfl
      rw [e3]
      clear e1 e2 e3
      go_enter Try.func38, Try.ntmps38
      go_wp2
      go_ret2
      exact ⟨rfl, rfl⟩
    · obtain ⟨e1, e2⟩ := fit_no (x := sgn m false) (by unfold sgn; simp; omega)
      rw [e1, e2]
      clear e1 e2
      go_enter Try.func38, Try.ntmps38
      go_wp2
      go_ret2
      exact ⟨rfl, rfl⟩
theorem away_any (rest d round : Int) (neg : Bool) (r0 : 0 ≤ rest) (r1 : rest < d) (d1 : d ≤ 18446744073709551615) (w : World) :
    Calls Try.prog 37 #[.int .u64 rest, .int .u64 d, .bool neg, .int .i64 round] w fun e w' => e = .returned (.bool (away rest d neg round)) ∧ w' = w := by
  unfold away
  by_cases h0 : round = 0
  · subst h0
    rw [if_pos rfl]
    cases neg
    all_goals
      go_enter Try.func37, Try.ntmps37
      go_wp2
      go_ret
      exact ⟨rfl, rfl⟩
  · rw [if_neg h0]
    by_cases h1 : round = 1
    · subst h1
      rw [if_pos rfl]
      cases neg
      all_goals
        go_enter Try.func37, Try.ntmps37
        go_wp2
        go_ret
        exact ⟨rfl, rfl⟩
    · rw [if_neg h1]
      go_enter Try.func37, Try.ntmps37
      go_wp2
      go_ret
      exact ⟨rfl, rfl⟩
end Go.Proofs.Ythmcdnomphmbiaa

