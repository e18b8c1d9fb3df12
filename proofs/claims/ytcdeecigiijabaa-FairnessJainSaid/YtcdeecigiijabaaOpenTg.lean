/-
  Arguments of a statement, as the walks want them: a slice of structs of three numbers, by the cells that it holds.
-/
import Derived.Test.YtcdeecigiijabaaTgMem
import Derived.Deep.SlicePairs
import Derived.OpenShut
namespace Go.Proofs.Ytcdeecigiijabaa
open Go.ChangeShapes Go.WideShapes Go.ChangeAt Go.RowKit Go.Deep
set_option linter.unusedVariables false

section
variable {H : Type} {enc : TypeId × Value → H} {P : Program} {w : World} {base : Nat} {spare : Nat → Bool} {held : Bool}
theorem open_tgs {t e : TypeId} {f0 f1 f2 : Field} {a : Option Addr} {len cap : Nat} {d : DataW H} {p : List MemPlace} (ht : P.underlying t = some (.slice e)) (he : P.underlying e = some (.struct #[f0, f1, f2]))
    (ce : P.cellsOf e = 3) (o0 : f0.offset = 0) (o1 : f1.offset = 1) (o2 : f2.offset = 2) (c0 : P.cellsOf f0.type = 1) (c1 : P.cellsOf f1.type = 1) (c2 : P.cellsOf f2.type = 1) (h0 : P.underlying f0.type = some (.int .i64)) (h1 : P.underlying f1.type = some (.int .i64)) (h2 : P.underlying f2.type = some (.int .i64))
    (h : DataW.Trod enc P w base spare held t (.slice a len cap) d p) : ∃ L : List Tg, len = L.length ∧ len ≤ 9223372036854775807 ∧ (∀ i (hi : i < L.length), (-9223372036854775808 ≤ L[i].f ∧ L[i].f ≤ 9223372036854775807) ∧ (-9223372036854775808 ≤ L[i].w ∧ L[i].w ≤ 9223372036854775807) ∧ (-9223372036854775808 ≤ L[i].s ∧ L[i].s ≤ 9223372036854775807)) ∧ SrAt csT 3 w 0 w.heap.size a L := by
  obtain ⟨fuel, hf⟩ := h
  rcases open_slice ht hf with ⟨hcs, _⟩ | ⟨x, l, c, m, n, D, Pl, hcs, _, hl, hm, hmm, _, hx⟩
  · simp [Value.cells] at hcs
    obtain ⟨rfl, rfl, rfl⟩ := hcs
    exact ⟨[], rfl, by omega, fun i hi => absurd hi (by simp), SrAt.nil⟩
  · simp [Value.cells] at hcs
    obtain ⟨rfl, rfl, rfl⟩ := hcs
    unfold maxLen at hm
    have hlm : len ≤ m := by rw [hmm]; split <;> omega
    have each : ∀ i, ∃ T : Tg, i < m → (w.cell? (x.add (i * 3)) = some (.int .i64 T.f) ∧ w.cell? (x.add (i * 3 + 1)) = some (.int .i64 T.w) ∧ w.cell? (x.add (i * 3 + 2)) = some (.int .i64 T.s)) ∧ (Lit.int .i64 T.f).wf = true ∧ (Lit.int .i64 T.w).wf = true ∧ (Lit.int .i64 T.s).wf = true := by
      intro i
      by_cases hi : i < m
      · obtain ⟨cs', k1, k2⟩ := hx i hi
        rw [ce] at k1
        obtain ⟨_, hlen, hcell⟩ := World.cells?_some k1
        obtain ⟨xs, k, hk, hxy, _, hxl, hff⟩ := DataW.trod_struct he k2
        match xs, hxl, cs', hlen with
        | [y0, y1, y2], _, [v0, v1, v2], _ =>
          have g0 := hff 0 f0 rfl
          have g1 := hff 1 f1 rfl
          have g2 := hff 2 f2 rfl
          simp [o0, o1, o2, c0, c1, c2] at g0 g1 g2
          have e0 := hcell 0 (by omega)
          have e1 := hcell 1 (by omega)
          have e2 := hcell 2 (by omega)
          rw [add_add] at e0 e1 e2
          obtain ⟨z0, q0, _, w0⟩ := DataW.trod_int h0 g0
          obtain ⟨z1, q1, _, w1⟩ := DataW.trod_int h1 g1
          obtain ⟨z2, q2, _, w2⟩ := DataW.trod_int h2 g2
          simp at q0 q1 q2
          subst q0 q1 q2
          exact ⟨⟨z0, z1, z2⟩, fun _ => ⟨⟨by simpa using e0, by simpa using e1, by simpa using e2⟩, w0, w1, w2⟩⟩
      · exact ⟨⟨0, 0, 0⟩, fun h => absurd h hi⟩
    obtain ⟨X, hX⟩ := Classical.axiomOfChoice each
    obtain ⟨b, off, spot⟩ := x
    refine ⟨(List.range len).map X, by simp, by omega, fun i hi => ?_, fun i hi => ?_⟩
    · have hi' : i < len := by simpa using hi
      obtain ⟨_, w0, w1, w2⟩ := hX i (by omega)
      simp only [List.getElem_map, List.getElem_range]
      exact ⟨bounds_i64 w0, bounds_i64 w1, bounds_i64 w2⟩
    · have hi' : i < len := by simpa using hi
      obtain ⟨⟨k0, k1, k2⟩, _⟩ := hX i (by omega)
      have hspot : spot = none := by simpa [Addr.add] using World.cell?_spot (hX 0 (by omega)).1.1
      subst hspot
      rw [add_plain] at k0 k1 k2
      simp only [List.getElem_map, List.getElem_range]
      refine ⟨b, off, rfl, Nat.zero_le _, lt_of_cell k0, fun k hk => ?_⟩
      match k, hk with
      | 0, _ => exact k0
      | 1, _ => exact k1
      | 2, _ => exact k2
end
end Go.Proofs.Ytcdeecigiijabaa

