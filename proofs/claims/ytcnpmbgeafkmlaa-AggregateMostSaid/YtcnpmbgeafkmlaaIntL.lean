/-
  Slices of ints as lists: elements (csI, intElt); slices that are only read (SlI), as arguments, own rows and parts of them. Any layer. No call is walked here.
-/
import Derived.Test.YtcnpmbgeafkmlaaInvR
import Derived.Test.YtcnpmbgeafkmlaaOpen
namespace Go.Proofs.Ytcnpmbgeafkmlaa
open Go.ChangeShapes Go.WideShapes Go.ChangeAt Go.RowKit
set_option linter.unusedVariables false

def csI (x : Int) : List Value := [.int .i64 x]
theorem intElt : Elt csI 1 3 22 :=
  ⟨fun _ => rfl, fun a u hu => by simp [csI] at hu; subst hu; rfl, by decide, Try.underlying22, .int .i64 0, 8, by decide, by decide, by kernel_rfl⟩
/-- The slice at A with capacity c holds L. -/
def SlI (A : Option Addr) (c : Nat) (L : List Int) (w : World) : Prop := L.length ≤ c ∧ SrAt csI 1 w 0 w.heap.size A L
section
variable {A : Option Addr} {c : Nat} {L : List Int} {w w' : World} {v : Value}
theorem SlI.later (h : SlI A c L w) (hb : Below w.heap.size w w') : SlI A c L w' := ⟨h.1, h.2.later hb⟩
theorem SlI.take (h : SlI A c L w) {k : Nat} (hk : k ≤ L.length) : SlI A c (L.take k) w := ⟨by rw [List.length_take]; have := h.1; omega, h.2.take k⟩
theorem SlI.el (h : SlI A c L w) {k : Nat} (hk : k < L.length) : ∃ b off, A = some ⟨b, off, none⟩ ∧ b < w.heap.size ∧ w.cell? ⟨b, off + k, none⟩ = some (.int .i64 L[k]) := by
  obtain ⟨b, off, e1, _, e2, e3⟩ := h.2 k hk
  exact ⟨b, off, e1, e2, by have := e3 0 (by omega); simpa [csI] using this⟩
theorem SlI.of (h : LsA csI 1 3 v L w) : ∃ A c, v = .slice A L.length c ∧ SlI A c L w := by
  obtain ⟨A, c, rfl, hc, _⟩ := LsG.shape h
  exact ⟨A, c, rfl, hc, LsG.at_ h rfl⟩
/-- A row of numbers as a list. -/
theorem SlI.nums {n : Nat} {X : Nat → Int} (hc : n ≤ c) (h : Nums w 0 w.heap.size A n X) : SlI A c ((List.range n).map X) w := by
  refine ⟨by simpa using hc, fun i hi => ?_⟩
  have hin : i < n := by simpa using hi
  obtain ⟨b, off, e1, e2, e3, e4⟩ := h.at_ hin
  refine ⟨b, off, e1, e2, e3, fun k hk => ?_⟩
  obtain rfl : k = 0 := by omega
  rw [List.getElem_map, List.getElem_range, Nat.mul_one, Nat.add_zero]
  exact e4
theorem SlI.nil (w : World) : SlI none 0 [] w := ⟨Nat.zero_le _, SrAt.nil⟩
end
/-- An argument: its length is at most its capacity. -/
theorem cap_of {H : Type} {enc : TypeId × Value → H} {P : Program} {w : World} {base : Nat} {spare : Nat → Bool} {held : Bool} {t e : TypeId} {a : Option Addr} {len cap : Nat} {d : DataW H} {p : List MemPlace} (ht : P.underlying t = some (.slice e)) (he : P.underlying e = some (.int .i64)) (hC : P.cellsOf e = 1)
    (h : DataW.Trod enc P w base spare held t (.slice a len cap) d p) : len ≤ cap := by
  obtain ⟨fuel, hf⟩ := h
  rcases open_ints ht he hC hf with ⟨hcs, _⟩ | ⟨x, l, c, zs, hcs, _, hl, hm, hz, _, hcell, hwz⟩
  · simp [Value.cells] at hcs
    obtain ⟨rfl, rfl, rfl⟩ := hcs
    exact Nat.le_refl _
  · simp [Value.cells] at hcs
    obtain ⟨rfl, rfl, rfl⟩ := hcs
    exact hl
theorem cap_int {H : Type} {enc : TypeId × Value → H} {w : World} {base : Nat} {spare : Nat → Bool} {held : Bool} {a : Option Addr} {len cap : Nat} {d : DataW H} {p : List MemPlace} (h : DataW.Trod enc Try.prog w base spare held 22 (.slice a len cap) d p) : len ≤ cap :=
  cap_of Try.underlying22 Try.underlying3 (by kernel_rfl) h
end Go.Proofs.Ytcnpmbgeafkmlaa

