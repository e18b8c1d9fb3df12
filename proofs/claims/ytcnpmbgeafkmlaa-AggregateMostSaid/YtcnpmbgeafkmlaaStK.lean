/-
  StB (StA) once more where some values are not known (none). An operation that is skipped yields undef. No program is named.
-/
import Derived.Test.YtcnpmbgeafkmlaaStA
namespace Go.Proofs.Ytcnpmbgeafkmlaa
open Go.ChangeShapes Go.WideShapes Go.ChangeAt Go.RowKit
set_option linter.unusedVariables false

structure StK (W0 : World) (VT : Nat → Option Value) (L : Nat → Bool) (vals : Nat → Value) (w : World) : Prop where
  v : ∀ i x, VT i = some x → L i = true → vals i = x
  b : Below W0.heap.size W0 w
section
variable {W0 w w' : World} {VT : Nat → Option Value} {L : Nat → Bool} {vals : Nat → Value}
theorem StK.start : StK W0 VT (fun _ => false) (fun _ => undef) W0 := ⟨(fun i x _ h => by cases h), Below.refl _ _⟩
theorem StK.step (h : StK W0 VT L vals w) (i : Nat) {u : Value} (hu : ∀ x, VT i = some x → u = x) (hb : Below W0.heap.size W0 w') : StK W0 VT (setL L i) (setV vals i u) w' := by
  refine ⟨fun j x hx hl => ?_, hb⟩
  by_cases e : j = i
  · subst e; rw [setV_at]; exact hu x hx
  · rw [setV_ne e]; rw [setL_ne e] at hl; exact h.v j x hx hl
theorem StK.quiet (h : StK W0 VT L vals w) (i : Nat) {u : Value} (hu : ∀ x, VT i = some x → u = x) : StK W0 VT (setL L i) (setV vals i u) w := h.step i hu h.b
/-- The value is the one that was foretold. -/
theorem some_is {u : Value} {o : Option Value} (h : o = some u) : ∀ x, o = some x → u = x := fun x hx => by rw [h] at hx; cases hx; rfl
theorem none_is {u : Value} {o : Option Value} (h : o = none) : ∀ x, o = some x → u = x := fun x hx => by rw [h] at hx; cases hx
end
end Go.Proofs.Ytcnpmbgeafkmlaa

