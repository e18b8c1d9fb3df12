/-
  Numbers and rows of numbers that are drawn in a region of any order: what stays of them while the choices' block B turns and memory is made. No program is named.
-/
import Derived.Test.YtcnpmbgeafkmlaaWhl
namespace Go.Proofs.Ytcnpmbgeafkmlaa
open Go.ChangeShapes Go.WideShapes Go.ChangeAt Go.RowKit
set_option linter.unusedVariables false

/-- No old block but B has turned. -/
def DrR (B : Nat) (w w' : World) : Prop := w.heap.size ≤ w'.heap.size ∧ ∀ b, b < w.heap.size → b ≠ B → w'.heap[b]? = w.heap[b]?
/-- A number between lo and hi. -/
def InV (lo hi : Int) (v : Value) : Prop := ∃ z : Int, (lo ≤ z ∧ z ≤ hi) ∧ v = .int .i64 z
/-- A row of n numbers between lo and hi, in a block other than B. -/
def RwV (B : Nat) (lo hi : Int) (n : Nat) (v : Value) (w : World) : Prop :=
  ∃ L : List Int, L.length = n ∧ (∀ x ∈ L, lo ≤ x ∧ x ≤ hi) ∧ ∃ g, g ≠ B ∧ g < w.heap.size ∧ v = .slice (some ⟨g, 0, none⟩) n n ∧ ∀ i (h : i < L.length), w.cell? ⟨g, i, none⟩ = some (.int .i64 L[i])
/-- The address of a number between lo and hi, in a block other than B. -/
def PtV (B : Nat) (lo hi : Int) (v : Value) (w : World) : Prop := ∃ g o, g ≠ B ∧ g < w.heap.size ∧ v = .pointer (some ⟨g, o, none⟩) ∧ ∃ z : Int, (lo ≤ z ∧ z ≤ hi) ∧ w.cell? ⟨g, o, none⟩ = some (.int .i64 z)
section
variable {B n : Nat} {lo hi : Int} {v : Value} {w w' : World}
theorem DrR.cell (h : DrR B w w') {g o : Nat} (h1 : g ≠ B) (h3 : g < w.heap.size) : w'.cell? ⟨g, o, none⟩ = w.cell? ⟨g, o, none⟩ := World.cell?_of_block (w := w) (h.2 g h3 h1)
theorem DrR.refl (B : Nat) (w : World) : DrR B w w := ⟨Nat.le_refl _, fun _ _ _ => rfl⟩
theorem DrR.only (h : Only B w w') : DrR B w w' := ⟨h.size, h.block⟩
theorem DrR.below (h : Below w.heap.size w w') : DrR B w w' := ⟨h.size, fun b hb _ => h.block b hb⟩
theorem DrR.row (h : DrR B w w') (hv : RwV B lo hi n v w) : RwV B lo hi n v w' := by
  obtain ⟨L, hL, hb, g, h1, h3, h4, h5⟩ := hv
  exact ⟨L, hL, hb, g, h1, by have := h.1; omega, h4, fun i hi => by rw [h.cell h1 h3]; exact h5 i hi⟩
theorem DrR.ptr (h : DrR B w w') (hv : PtV B lo hi v w) : PtV B lo hi v w' := by
  obtain ⟨g, o, h1, h3, h4, z, h5, h6⟩ := hv
  exact ⟨g, o, h1, by have := h.1; omega, h4, z, h5, by rw [h.cell h1 h3]; exact h6⟩
theorem RwV.new (hB : B < w.heap.size) {L : List Int} {cs : Array Value} (hL : L.length = n) (hb : ∀ x ∈ L, lo ≤ x ∧ x ≤ hi) (hcs : cs = (L.map (Value.int .i64)).toArray) (t : TypeId) :
    RwV B lo hi n (.slice (some ⟨w.heap.size, 0, none⟩) n n) (w.alloc (.cells cs t)) := by
  refine ⟨L, hL, hb, w.heap.size, by omega, by simp, rfl, fun i hi => ?_⟩
  rw [(Whole.fresh w t cs).read, hcs, List.getElem?_toArray, List.getElem?_map, List.getElem?_eq_getElem hi]; rfl
/-- The element's address. -/
theorem RwV.at_ (h : RwV B lo hi n v w) {i : Nat} (hin : i < n) : ∃ g, g ≠ B ∧ g < w.heap.size ∧ v = .slice (some ⟨g, 0, none⟩) n n ∧ PtV B lo hi (.pointer (some ⟨g, i, none⟩)) w := by
  obtain ⟨L, hL, hb, g, h1, h3, h4, h5⟩ := h
  exact ⟨g, h1, h3, h4, g, i, h1, h3, rfl, L[i], hb _ (List.getElem_mem _), h5 i (by omega)⟩
end
end Go.Proofs.Ytcnpmbgeafkmlaa

