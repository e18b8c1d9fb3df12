/-
  Lists as answers: a slice that holds a list, as a predicate with its blocks (LsP); an answer that is a new list (GotLs). No call and no type of the project is named.
-/
import Derived.Test.YtcnpmbgeafkmlaaElt
import Derived.Test.YtcnpmbgeafkmlaaSep
namespace Go.Proofs.Ytcnpmbgeafkmlaa
open Go.ChangeShapes Go.WideShapes Go.ChangeAt Go.RowKit
set_option linter.unusedVariables false

section
universe u
variable {α : Type u} {cs : α → List Value} {m : Nat} {t : TypeId} {w w' w0 : World} {T T' : Nat → Prop} {v : Value} {l : List α} {base : Nat} {P Q : RP}
/-- The value v is a slice that holds l. -/
def LsP (cs : α → List Value) (m : Nat) (t : TypeId) (v : Value) (l : List α) : RP := fun T w => (∀ k, T k → k < w.heap.size) ∧ LsG cs m t w T v l
theorem LsP.frm : Frm base (LsP cs m t v l) := by
  refine ⟨fun h => h.1, fun {T U w w'} ⟨h1, h2⟩ hc hb hs => ⟨fun k hk => by have := h1 k hk; have := hc.size; omega, h2.keep fun b hb => hc.block b (h1 b hb) (hs b hb)⟩⟩
/-- A new slice that holds l is answered; nothing old has changed. -/
def GotLs (cs : α → List Value) (m : Nat) (t : TypeId) (l : List α) (w : World) (e : Ending) (w' : World) : Prop :=
  ∃ v, e = .returned v ∧ LsG cs m t w' (fun b => w.heap.size ≤ b ∧ b < w'.heap.size) v l ∧ Below w.heap.size w w'
theorem Acts.got {f : FuncId} {args : Array Value} (hP : Frm base P) (h : ∀ T w, P T w → Calls Try.prog f args w (GotLs cs m t l w)) :
    Acts f args base P (fun v : Value => v) fun v => Star (LsP cs m t v l) P := by
  intro T w hp hb hs
  refine (h T w hp).mono ?_
  rintro e w' ⟨v, e1, hl, hbl⟩
  refine ⟨v, e1, ⟨fun k => (w.heap.size ≤ k ∧ k < w'.heap.size) ∨ T k, ⟨fun k => w.heap.size ≤ k ∧ k < w'.heap.size, T, fun k => Iff.rfl, fun k hk ht => by have := hP.lt hp k ht; omega, ⟨fun k hk => hk.2, hl⟩, hP.chg (S := fun _ => False) hp (Chg.of_below hbl) (fun _ h => h.elim) (fun _ _ h => h)⟩, fun k hk => hk.elim (fun h => .inr h.1) .inl⟩, Chg.of_below hbl⟩
theorem LsG.all (h : LsG cs m t w T v l) (hT : ∀ b, T b → b < w.heap.size) : LsG cs m t w (fun b => b < w.heap.size) v l := h.wider hT
/-- A slice that holds l, wherever it lies. -/
def LsA (cs : α → List Value) (m : Nat) (t : TypeId) (v : Value) (l : List α) (w : World) : Prop := LsG cs m t w (fun b => b < w.heap.size) v l
theorem LsA.later (h : LsA cs m t v l w) (hb : Below w.heap.size w w') : LsA cs m t v l w' := (h.keep fun b hk => hb.block b hk).wider fun b hk => Nat.lt_of_lt_of_le hk hb.size
theorem LsG.any (h : LsG cs m t w T v l) (hT : ∀ b, T b → b < w.heap.size) : LsA cs m t v l w := h.wider hT
theorem GotLs.any {e : Ending} (h : GotLs cs m t l w e w') : ∃ v, e = .returned v ∧ LsA cs m t v l w' ∧ Below w.heap.size w w' := by
  obtain ⟨v, e1, h1, h2⟩ := h
  exact ⟨v, e1, h1.any fun b hb => hb.2, h2⟩
theorem LsP.any (h : Inv base w0 (Star (LsP cs m t v l) P) w) : LsA cs m t v l w := by
  obtain ⟨T, ⟨A, B, _, _, ⟨h1, h2⟩, _⟩, _⟩ := h
  exact h2.any h1
theorem Inv.later (h : Inv base w0 P w) (hP : Frm base P) (hb : Below w.heap.size w w') : Inv base w0 P w' := h.step hP hb
end
end Go.Proofs.Ytcnpmbgeafkmlaa

