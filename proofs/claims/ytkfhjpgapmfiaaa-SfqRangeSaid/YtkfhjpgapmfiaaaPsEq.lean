/-
  Layer 13: a list of tags kept beside the program's reference.
-/
import Derived.Test.YtkfhjpgapmfiaaaPsTm
namespace Go.Proofs.Ytkfhjpgapmfiaaa
open Go.ChangeShapes Go.WideShapes Go.ChangeAt Go.RowKit
set_option linter.unusedVariables false

/-- A list of tags beside. -/
def XT (X : (Nat → Prop) → World → Prop) (A : Option Addr) (l : List Tg) (T : Nat → Prop) (w : World) : Prop := X T w ∧ ∃ L B, B ≤ w.heap.size ∧ SrAt csT 3 w L B A l ∧ ∀ k, L ≤ k → k < B → ¬ T k
section
variable {X : (Nat → Prop) → World → Prop} {A : Option Addr} {l : List Tg} {R : Nat} {s : Sf} {w w' : World}
theorem XT.kx (h : Kx X) : Kx (XT X A l) := by
  intro T T' w w' hT hx hc ht
  obtain ⟨h1, L, B, h2, h3, h4⟩ := hx
  refine ⟨h T T' w w' hT h1 hc ht, L, B, Nat.le_trans h2 hc.size, h3.keep (fun b o k1 k2 => hc.cell (by omega) (h4 b k1 k2) o), fun k k1 k2 e => ?_⟩
  rcases ht k e with h5 | h5
  · exact h4 k k1 k2 h5
  · omega
theorem SO.list (hX : Kx X) (h : SO X R s w) (ha : SrAt csT 3 w' w.heap.size w'.heap.size A l) (hb : Below w.heap.size w w') : SO (XT X A l) R s w' := by
  obtain ⟨T, h1, h2⟩ := h
  exact ⟨T, h1.below hb, hX T T w w' h1.lt h2 (Chg.of_below hb) (fun k hk => .inl hk), _, _, Nat.le_refl _, ha, fun k k1 _ e => by have := h1.lt k e; omega⟩
theorem SO.listAt (h : SO (XT X A l) R s w) : ∃ L B, B ≤ w.heap.size ∧ SrAt csT 3 w L B A l := by obtain ⟨T, _, _, L, B, h2, h3, _⟩ := h; exact ⟨L, B, h2, h3⟩
theorem SO.nolist (h : SO (XT X A l) R s w) : SO X R s w := by obtain ⟨T, h1, h2, _⟩ := h; exact ⟨T, h1, h2⟩
end
end Go.Proofs.Ytkfhjpgapmfiaaa

