/-
  Arguments of a statement, as the walks want them: slices of numbers and of pairs of numbers, by the cells that they hold.
-/
import Derived.Test.YtcnpmbgeafkmlaaMem
import Derived.Deep.SlicePairs
import Derived.OpenShut
namespace Go.Proofs.Ytcnpmbgeafkmlaa
open Go.ChangeShapes Go.WideShapes Go.ChangeAt Go.RowKit Go.Deep
set_option linter.unusedVariables false

section
variable {H : Type} {enc : TypeId × Value → H} {P : Program} {w : World} {base : Nat} {spare : Nat → Bool} {held : Bool}
theorem elems_of {A : Option Addr} {n : Nat} {X : Nat → Int} (hn : n ≤ 9223372036854775807) (hf : Fits n X) (hc : Nums w 0 w.heap.size A n X) : Elems w.heap.size A n w :=
  ⟨hn, fun i hi => by
    obtain ⟨b, off, e, _, h2, h3⟩ := hc i hi
    exact ⟨b, off, X i, e, h2, h3, (hf i hi).1, (hf i hi).2⟩⟩
theorem open_nums {t e : TypeId} {a : Option Addr} {len cap : Nat} {d : DataW H} {p : List MemPlace} (ht : P.underlying t = some (.slice e)) (he : P.underlying e = some (.int .i64)) (hC : P.cellsOf e = 1)
    (h : DataW.Trod enc P w base spare held t (.slice a len cap) d p) : ∃ X, len ≤ 9223372036854775807 ∧ Fits len X ∧ Nums w 0 w.heap.size a len X := by
  obtain ⟨fuel, hf⟩ := h
  rcases open_ints ht he hC hf with ⟨hcs, _⟩ | ⟨x, l, c, zs, hcs, _, hl, hm, hz, _, hcell, hwz⟩
  · simp [Value.cells] at hcs
    obtain ⟨rfl, rfl, rfl⟩ := hcs
    exact ⟨fun _ => 0, by omega, fun i hi => by omega, Cells.nil⟩
  · simp [Value.cells] at hcs
    obtain ⟨rfl, rfl, rfl⟩ := hcs
    unfold maxLen at hm
    have hE : Elems w.heap.size (some x) len w := by
      have hl0 : len ≤ zs.length := by
        have : zs.length = (if spare x.block then cap else len) := by simpa using hz
        rw [this]; split <;> omega
      refine ⟨by omega, fun i hi => ?_⟩
      obtain ⟨b, off, rfl, hc'⟩ := ints_at hcell (by omega)
      have h1 := hc' i (by omega)
      have h2 : zs.getD i 0 ∈ zs := by rw [List.getD_eq_getElem?_getD, List.getElem?_eq_getElem (by omega)]; exact List.getElem_mem _
      obtain ⟨h3, h4⟩ := bounds_i64 (hwz _ h2)
      exact ⟨b, off, _, rfl, lt_of_cell h1, h1, h3, h4⟩
    have hz' : ∀ i, ∃ z : Int, i < len → ∃ b off, some x = some ⟨b, off, none⟩ ∧ b < w.heap.size ∧ w.cell? ⟨b, off + i, none⟩ = some (.int .i64 z) ∧ -9223372036854775808 ≤ z ∧ z ≤ 9223372036854775807 := by
      intro i
      by_cases hi : i < len
      · obtain ⟨b, off, z, h⟩ := hE.2 i hi
        exact ⟨z, fun _ => ⟨b, off, h⟩⟩
      · exact ⟨0, fun h => absurd h hi⟩
    obtain ⟨X, hX⟩ := Classical.axiomOfChoice hz'
    refine ⟨X, hE.1, fun i hi => ?_, fun i hi => ?_⟩
    · obtain ⟨_, _, _, _, _, h4, h5⟩ := hX i hi; exact ⟨h4, h5⟩
    · obtain ⟨b, off, h1, h2, h3, _, _⟩ := hX i hi; exact ⟨b, off, h1, Nat.zero_le _, h2, h3⟩
theorem open_prs {t e : TypeId} {f0 f1 : Field} {a : Option Addr} {len cap : Nat} {d : DataW H} {p : List MemPlace} (ht : P.underlying t = some (.slice e)) (he : P.underlying e = some (.struct #[f0, f1]))
    (ce : P.cellsOf e = 2) (o0 : f0.offset = 0) (o1 : f1.offset = 1) (c0 : P.cellsOf f0.type = 1) (c1 : P.cellsOf f1.type = 1) (h0 : P.underlying f0.type = some (.int .i64)) (h1 : P.underlying f1.type = some (.int .i64))
    (h : DataW.Trod enc P w base spare held t (.slice a len cap) d p) : ∃ I V, len ≤ 9223372036854775807 ∧ Fits len I ∧ Fits len V ∧ Prs w 0 w.heap.size a len I V := by
  obtain ⟨fuel, hf⟩ := h
  rcases open_slice_pairs ht he ce o0 o1 c0 c1 hf with ⟨hcs, _⟩ | ⟨x, l, c, m, n, V0, V1, D0, D1, P0, P1, hcs, _, hl, hm, hmm, _, hx⟩
  · simp [Value.cells] at hcs
    obtain ⟨rfl, rfl, rfl⟩ := hcs
    exact ⟨fun _ => 0, fun _ => 0, by omega, fun i hi => by omega, fun i hi => by omega, Cells.nil⟩
  · simp [Value.cells] at hcs
    obtain ⟨rfl, rfl, rfl⟩ := hcs
    unfold maxLen at hm
    have hlm : len ≤ m := by rw [hmm]; split <;> omega
    have hint : ∀ i, i < m → ∃ z y, V0 i = .int .i64 z ∧ V1 i = .int .i64 y ∧ (Lit.int .i64 z).wf = true ∧ (Lit.int .i64 y).wf = true := by
      intro i hi
      obtain ⟨_, _, t0, t1⟩ := hx i hi
      obtain ⟨z, e0, _, w0⟩ := DataW.trod_int h0 t0
      obtain ⟨y, e1, _, w1⟩ := DataW.trod_int h1 t1
      simp at e0 e1
      exact ⟨z, y, e0, e1, w0, w1⟩
    have hz : ∀ i, ∃ zy : Int × Int, i < m → V0 i = .int .i64 zy.1 ∧ V1 i = .int .i64 zy.2 ∧ (Lit.int .i64 zy.1).wf = true ∧ (Lit.int .i64 zy.2).wf = true := by
      intro i
      by_cases hi : i < m
      · obtain ⟨z, y, h⟩ := hint i hi; exact ⟨(z, y), fun _ => h⟩
      · exact ⟨(0, 0), fun h => absurd h hi⟩
    obtain ⟨X, hX⟩ := Classical.axiomOfChoice hz
    refine ⟨fun i => (X i).1, fun i => (X i).2, by omega, fun i hi => bounds_i64 (hX i (by omega)).2.2.1, fun i hi => bounds_i64 (hX i (by omega)).2.2.2, ?_⟩
    intro j hj
    obtain ⟨b, off, spot⟩ := x
    have hspot : spot = none := by simpa [Addr.add] using World.cell?_spot (hx 0 (by omega)).1
    subst hspot
    have hi : j / 2 < m := by omega
    obtain ⟨k0, k1, _, _⟩ := hx (j / 2) hi
    rw [add_plain] at k0 k1
    have e0 := (hX (j / 2) hi).1
    have e1 := (hX (j / 2) hi).2.1
    rcases (by omega : j % 2 = 0 ∨ j % 2 = 1) with hp | hp
    · have hj2 : j = j / 2 * 2 := by omega
      have hk : w.cell? ⟨b, off + j, none⟩ = some (.int .i64 (X (j / 2)).1) := by rw [← e0, ← k0]; congr 2; omega
      refine ⟨b, off, rfl, Nat.zero_le _, lt_of_cell hk, ?_⟩
      rw [hk]; unfold prs; rw [if_pos hp]
    · have hk : w.cell? ⟨b, off + j, none⟩ = some (.int .i64 (X (j / 2)).2) := by rw [← e1, ← k1]; congr 2; omega
      refine ⟨b, off, rfl, Nat.zero_le _, lt_of_cell hk, ?_⟩
      rw [hk]; unfold prs; rw [if_neg (by omega)]
end
end Go.Proofs.Ytcnpmbgeafkmlaa

