/-
  StB (StA) once more where one operation (st) turns the world by f, whatever world has come up till then. No program is named.
-/
import Derived.Test.YthmncipenjhknaaStA
namespace Go.Proofs.Ythmncipenjhknaa
open Go.ChangeShapes Go.WideShapes Go.ChangeAt Go.RowKit
set_option linter.unusedVariables false

structure StW (W0 : World) (VT : Nat → Value) (st : Nat) (f : World → World) (L : Nat → Bool) (vals : Nat → Value) (w : World) : Prop where
  v : ∀ i, i ≠ st → L i = true → vals i = VT i
  a : L st = false → Below W0.heap.size W0 w
  b : L st = true → ∃ u, Below W0.heap.size W0 u ∧ w = f u
section
variable {W0 w w' : World} {VT : Nat → Value} {st : Nat} {f : World → World} {L : Nat → Bool} {vals : Nat → Value}
theorem StW.start : StW W0 VT st f (fun _ => false) (fun _ => undef) W0 := ⟨(fun i _ h => by cases h), fun _ => Below.refl _ _, fun h => by cases h⟩
theorem StW.val (h : StW W0 VT st f L vals w) (i : Nat) {x : Value} (hx : x = VT i) : ∀ j, j ≠ st → setL L i j = true → setV vals i x j = VT j := by
  intro j hj hL
  by_cases e : j = i
  · subst e; rw [setV_at]; exact hx
  · rw [setV_ne e]; rw [setL_ne e] at hL; exact h.v j hj hL
theorem StW.step (h : StW W0 VT st f L vals w) (i : Nat) (hs : L st = false) (hi : st ≠ i) {x : Value} (hx : x = VT i) (hb : Below W0.heap.size W0 w') : StW W0 VT st f (setL L i) (setV vals i x) w' :=
  ⟨h.val i hx, fun _ => hb, fun e => by rw [setL_ne hi, hs] at e; cases e⟩
theorem StW.quiet (h : StW W0 VT st f L vals w) (i : Nat) (hi : st ≠ i) {x : Value} (hx : x = VT i) : StW W0 VT st f (setL L i) (setV vals i x) w :=
  ⟨h.val i hx, by rw [setL_ne hi]; exact h.a, by rw [setL_ne hi]; exact h.b⟩
theorem StW.write (h : StW W0 VT st f L vals w) (hs : L st = false) {x : Value} : StW W0 VT st f (setL L st) (setV vals st x) (f w) :=
  ⟨(fun j hj hL => by rw [setV_ne hj]; rw [setL_ne hj] at hL; exact h.v j hj hL), (fun e => by rw [setL_at] at e; cases e), fun _ => ⟨w, h.a hs, rfl⟩⟩
end
end Go.Proofs.Ythmncipenjhknaa

