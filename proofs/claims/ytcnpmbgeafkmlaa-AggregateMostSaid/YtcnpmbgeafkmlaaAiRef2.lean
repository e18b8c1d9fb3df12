/-
  Layer 19: the reference's Best.
-/
import Derived.Test.YtcnpmbgeafkmlaaAiRef
import Derived.Test.YtcnpmbgeafkmlaaAiGen
namespace Go.Proofs.Ytcnpmbgeafkmlaa
open Go.ChangeShapes Go.WideShapes Go.ChangeAt Go.RowKit
set_option linter.unusedVariables false

theorem aiAll_of {l : List Rt} (h : ∀ j (hj : j < l.length), aiV (l[j]).1 (l[j]).2 = true) : aiAll l = true := by
  unfold aiAll
  rw [List.all_eq_true]
  intro x hx
  obtain ⟨j, hj, rfl⟩ := List.getElem_of_mem hx
  exact h j hj
theorem aiAll_no {l : List Rt} {j : Nat} (hj : j < l.length) (h : aiV (l[j]).1 (l[j]).2 = false) : aiAll l = false := by
  cases e : aiAll l
  · rfl
  · rw [aiAll_at e hj] at h; cases h
theorem aiB_bad {l : List Rt} {b : Int} (h : ¬ (aiAll l = true ∧ l.length ≤ 12 ∧ 0 ≤ b ∧ b ≤ 262144)) : aiBV l b = 0 ∧ aiBE l b = 1 := by
  have e : aiBE l b = 1 := by unfold aiBE; rw [if_neg h]
  refine ⟨?_, e⟩
  unfold aiBV; rw [e, if_neg (by decide)]
theorem aiB_nil {l : List Rt} {b : Int} (h : aiAll l = true ∧ l.length ≤ 12 ∧ 0 ≤ b ∧ b ≤ 262144) (h0 : l.length = 0) : aiBV l b = 0 ∧ aiBE l b = 5 := by
  have e : aiBE l b = 5 := by unfold aiBE; rw [if_pos h, if_pos h0]
  refine ⟨?_, e⟩
  unfold aiBV; rw [e, if_neg (by decide)]
theorem aiB_some {l : List Rt} {b : Int} (h : aiAll l = true ∧ l.length ≤ 12 ∧ 0 ≤ b ∧ b ≤ 262144) (h0 : l.length ≠ 0) : aiBV l b = (aiBi l b l.length : Nat) ∧ aiBE l b = 0 := by
  have e : aiBE l b = 0 := by unfold aiBE; rw [if_pos h, if_neg h0]
  refine ⟨?_, e⟩
  unfold aiBV; rw [e, if_pos rfl]
end Go.Proofs.Ytcnpmbgeafkmlaa

