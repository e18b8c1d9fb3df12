/-
  Arguments of a statement, as the walks want them: a slice of bools, by the cells that it holds.
-/
import Derived.Test.YtaohfcchejedkaaChRef
import Derived.Deep.SlicePairs
import Derived.OpenShut
import Derived.ChangeArms
namespace Go.Proofs.Ytaohfcchejedkaa
open Go.ChangeShapes Go.WideShapes Go.ChangeAt Go.RowKit Go.Deep
set_option linter.unusedVariables false

section
variable {H : Type} {enc : TypeId × Value → H} {P : Program} {w : World} {base : Nat} {spare : Nat → Bool} {held : Bool}
theorem open_bls {t e : TypeId} {a : Option Addr} {len cap : Nat} {d : DataW H} {p : List MemPlace} (ht : P.underlying t = some (.slice e)) (he : P.underlying e = some .bool) (ce : P.cellsOf e = 1)
    (h : DataW.Trod enc P w base spare held t (.slice a len cap) d p) : ∃ L : List Bool, len = L.length ∧ len ≤ 9223372036854775807 ∧ SrAt csB 1 w 0 w.heap.size a L := by
  obtain ⟨fuel, hf⟩ := h
  rcases open_slice ht hf with ⟨hcs, _⟩ | ⟨x, l, c, m, n, D, Pl, hcs, _, hl, hm, hmm, _, hx⟩
  · simp [Value.cells] at hcs
    obtain ⟨rfl, rfl, rfl⟩ := hcs
    exact ⟨[], rfl, by omega, SrAt.nil⟩
  · simp [Value.cells] at hcs
    obtain ⟨rfl, rfl, rfl⟩ := hcs
    unfold maxLen at hm
    have hlm : len ≤ m := by rw [hmm]; split <;> omega
    have each : ∀ i, ∃ g : Bool, i < m → w.cell? (x.add i) = some (.bool g) := by
      intro i
      by_cases hi : i < m
      · obtain ⟨cs', k1, k2⟩ := hx i hi
        rw [ce] at k1
        obtain ⟨_, hlen, hcell⟩ := World.cells?_some k1
        obtain ⟨g, q0, _⟩ := DataW.trod_bool he k2
        subst q0
        have e0 := hcell 0 (by omega)
        rw [add_add] at e0
        exact ⟨g, fun _ => by simpa using e0⟩
      · exact ⟨false, fun h => absurd h hi⟩
    obtain ⟨X, hX⟩ := Classical.axiomOfChoice each
    obtain ⟨b, off, spot⟩ := x
    refine ⟨(List.range len).map X, by simp, by omega, fun i hi => ?_⟩
    have hi' : i < len := by simpa using hi
    have k0 := hX i (by omega)
    have hspot : spot = none := by simpa [Addr.add] using World.cell?_spot (hX 0 (by omega))
    subst hspot
    rw [add_plain] at k0
    simp only [List.getElem_map, List.getElem_range]
    refine ⟨b, off, rfl, Nat.zero_le _, lt_of_cell k0, fun k hk => ?_⟩
    obtain rfl : k = 0 := by omega
    rw [Nat.mul_one, Nat.add_zero]
    exact k0
end
end Go.Proofs.Ytaohfcchejedkaa

