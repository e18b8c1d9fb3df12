/-
  Layer 12: contracts of the reference's goodWeight, Cost, Finish, Normalized.
-/
import Derived.Test.YtcdeecigiijabaaTgMem
import Derived.IntWalk
namespace Go.Proofs.Ytcdeecigiijabaa
open Go.ChangeShapes Go.WideShapes Go.ChangeAt Go.RowKit
set_option linter.unusedVariables false

theorem rweight_any (x : Int) (w : World) : Calls Try.prog 37 #[.int .i64 x] w fun e w' => e = .returned (.bool (wtB x)) ∧ w = w' := by
  by_cases h : 1 ≤ x
  · have e : wtB x = decide (x ≤ 16) := by unfold wtB; simp [h]
    rw [e]; clear e
    go_enter Try.func37, Try.ntmps37
    go_wp2
    go_ret
    exact ⟨rfl, rfl⟩
  · rw [wt_not (by omega)]
    go_enter Try.func37, Try.ntmps37
    go_wp2
    go_ret
    exact ⟨rfl, rfl⟩
theorem un_walk {w u : Int} (h : wtB w = true) (hu : unC w = u) : (720720 : Int) / w = u ∧ Int.tdiv 720720 w = u ∧ 45045 ≤ u ∧ u ≤ 720720 := by
  have hb := un_bd h
  rw [hu] at hb
  have e : (720720 : Int) / w = u := hu
  refine ⟨e, ?_, hb.1, hb.2⟩
  rw [Int.tdiv_eq_ediv_of_nonneg (by decide)]
  exact e
end Go.Proofs.Ytcdeecigiijabaa

