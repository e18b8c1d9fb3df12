/-
  A region of any order in which one operation (al) makes a block, the last (st) stores into it and all others read: what the values are, and the three worlds (for the law LooseS). No program is named.
-/
import Derived.Test.YtcnpmbgeafkmlaaLoose
import Derived.Test.YtcnpmbgeafkmlaaWhl
namespace Go.Proofs.Ytcnpmbgeafkmlaa
set_option linter.unusedVariables false
open Go.ChangeShapes Go.WideShapes Go.ChangeAt Go.RowKit

structure StA (W0 W1 W2 : World) (VT : Nat → Value) (al st : Nat) (L : Nat → Bool) (vals : Nat → Value) (w : World) : Prop where
  v : ∀ i, i ≠ st → L i = true → vals i = VT i
  a : L al = false → L st = false → w = W0
  b : L al = true → L st = false → w = W1
  c : L st = true → w = W2
section
variable {W0 W1 W2 w : World} {VT : Nat → Value} {al st : Nat} {L : Nat → Bool} {vals : Nat → Value}
theorem StA.start : StA W0 W1 W2 VT al st (fun _ => false) (fun _ => undef) W0 := ⟨(fun i _ h => by cases h), fun _ _ => rfl, (fun h => by cases h), fun h => by cases h⟩
theorem StA.ab (h : StA W0 W1 W2 VT al st L vals w) (hs : L st = false) : w = W0 ∨ w = W1 := by
  cases e : L al with
  | false => exact .inl (h.a e hs)
  | true => exact .inr (h.b e hs)
theorem StA.quiet (h : StA W0 W1 W2 VT al st L vals w) {i : Nat} (hi : st ≠ i) (hi2 : al ≠ i) {x : Value} (hx : x = VT i) : StA W0 W1 W2 VT al st (setL L i) (setV vals i x) w := by
  refine ⟨fun j hj hL => ?_, by rw [setL_ne hi, setL_ne hi2]; exact h.a, by rw [setL_ne hi, setL_ne hi2]; exact h.b, by rw [setL_ne hi]; exact h.c⟩
  by_cases e : j = i
  · subst e; rw [setV_at]; exact hx
  · rw [setV_ne e]; rw [setL_ne e] at hL; exact h.v j hj hL
theorem StA.make (h : StA W0 W1 W2 VT al st L vals w) (hs : L st = false) (hn : st ≠ al) {x : Value} (hx : x = VT al) : StA W0 W1 W2 VT al st (setL L al) (setV vals al x) W1 := by
  refine ⟨fun j hj hL => ?_, (fun e => by rw [setL_at] at e; cases e), fun _ _ => rfl, (fun e => by rw [setL_ne hn, hs] at e; cases e)⟩
  by_cases e : j = al
  · subst e; rw [setV_at]; exact hx
  · rw [setV_ne e]; rw [setL_ne e] at hL; exact h.v j hj hL
theorem StA.write (h : StA W0 W1 W2 VT al st L vals w) {x : Value} : StA W0 W1 W2 VT al st (setL L st) (setV vals st x) W2 := by
  refine ⟨fun j hj hL => ?_, (fun _ e => by rw [setL_at] at e; cases e), (fun _ e => by rw [setL_at] at e; cases e), fun _ => rfl⟩
  rw [setV_ne hj]; rw [setL_ne hj] at hL; exact h.v j hj hL
end
/-! ### (StC) A region of any order whose operations read, and of which the last writes: what the values are, and the world before and behind the write (for the law LooseS). No program is named. -/
structure StC (W0 W1 : World) (VT : Nat → Value) (st : Nat) (L : Nat → Bool) (vals : Nat → Value) (w : World) : Prop where
  v : ∀ i, i ≠ st → L i = true → vals i = VT i
  a : L st = false → w = W0
  b : L st = true → w = W1
section
variable {W0 W1 w : World} {VT : Nat → Value} {st : Nat} {L : Nat → Bool} {vals : Nat → Value}
theorem StC.start : StC W0 W1 VT st (fun _ => false) (fun _ => undef) W0 := ⟨(fun i _ h => by cases h), fun _ => rfl, fun h => by cases h⟩
theorem StC.quiet (h : StC W0 W1 VT st L vals w) {i : Nat} (hi : st ≠ i) {x : Value} (hx : x = VT i) : StC W0 W1 VT st (setL L i) (setV vals i x) w := by
  refine ⟨fun j hj hL => ?_, by rw [setL_ne hi]; exact h.a, by rw [setL_ne hi]; exact h.b⟩
  by_cases e : j = i
  · subst e; rw [setV_at]; exact hx
  · rw [setV_ne e]; rw [setL_ne e] at hL; exact h.v j hj hL
theorem StC.write (h : StC W0 W1 VT st L vals w) {x : Value} : StC W0 W1 VT st (setL L st) (setV vals st x) W1 := by
  refine ⟨fun j hj hL => ?_, (fun e => by rw [setL_at] at e; cases e), fun _ => rfl⟩
  rw [setV_ne hj]; rw [setL_ne hj] at hL; exact h.v j hj hL
end
/-! ### (StB) A region of any order in which all operations read or make memory of their own, with values that are known ahead (for the law LooseS). No program is named. -/
structure StB (W0 : World) (VT : Nat → Value) (L : Nat → Bool) (vals : Nat → Value) (w : World) : Prop where
  v : ∀ i, L i = true → vals i = VT i
  b : Below W0.heap.size W0 w
section
variable {W0 w w' : World} {VT : Nat → Value} {L : Nat → Bool} {vals : Nat → Value}
theorem StB.start : StB W0 VT (fun _ => false) (fun _ => undef) W0 := ⟨(fun i h => by cases h), Below.refl _ _⟩
theorem StB.step (h : StB W0 VT L vals w) (i : Nat) {x : Value} (hx : x = VT i) (hb : Below W0.heap.size W0 w') : StB W0 VT (setL L i) (setV vals i x) w' := by
  refine ⟨fun j hL => ?_, hb⟩
  by_cases e : j = i
  · subst e; rw [setV_at]; exact hx
  · rw [setV_ne e]; rw [setL_ne e] at hL; exact h.v j hL
theorem StB.quiet (h : StB W0 VT L vals w) (i : Nat) {x : Value} (hx : x = VT i) : StB W0 VT (setL L i) (setV vals i x) w := h.step i hx h.b
end
end Go.Proofs.Ytcnpmbgeafkmlaa

