/-
  A statement's argument that is a struct of a string and four integers, by value, opened.
-/
import Derived.Test.YtcnpmbgeafkmlaaOpen
import Derived.ChangeArms
import Derived.WideShapes
namespace Go.Proofs.Ytcnpmbgeafkmlaa
open Go.ChangeShapes Go.WideShapes Go.ChangeAt Go.RowKit
set_option linter.unusedVariables false

section
variable {H : Type} {enc : TypeId × Value → H} {P : Program} {w : World} {base : Nat} {spare : Nat → Bool} {held : Bool}
/-- The places and the types of the fields. -/
def HdFields (P : Program) (f0 f1 f2 f3 f4 : Field) : Prop :=
  (P.underlying f0.type = some .string ∧ P.cellsOf f0.type = 1 ∧ f0.offset = 0) ∧ (P.underlying f1.type = some (.int .i64) ∧ P.cellsOf f1.type = 1 ∧ f1.offset = 1) ∧
  (P.underlying f2.type = some (.int .i64) ∧ P.cellsOf f2.type = 1 ∧ f2.offset = 2) ∧ (P.underlying f3.type = some (.int .i64) ∧ P.cellsOf f3.type = 1 ∧ f3.offset = 3) ∧
  (P.underlying f4.type = some (.int .i64) ∧ P.cellsOf f4.type = 1 ∧ f4.offset = 4)
theorem field_int {n : Nat} {f : Field} {cs : List Value} {xs : List (DataW H × List MemPlace)} {i : Nat} {u : Value} (hu : P.underlying f.type = some (.int .i64)) (hc : P.cellsOf f.type = 1) (hlen : i < xs.length)
    (hd : (cs.drop f.offset).take 1 = [u]) (hg : DataW.trod enc P w base spare held n f.type ((cs.drop f.offset).take (P.cellsOf f.type)) = xs[i]?) : ∃ z, u = .int .i64 z := by
  rw [hc, hd, List.getElem?_eq_getElem hlen] at hg
  obtain ⟨z, e, _⟩ := DataW.trod_int hu hg
  exact ⟨z, by simpa using e⟩
theorem field_string {n : Nat} {f : Field} {cs : List Value} {xs : List (DataW H × List MemPlace)} {i : Nat} {u : Value} (hu : P.underlying f.type = some .string) (hc : P.cellsOf f.type = 1) (hlen : i < xs.length)
    (hd : (cs.drop f.offset).take 1 = [u]) (hg : DataW.trod enc P w base spare held n f.type ((cs.drop f.offset).take (P.cellsOf f.type)) = xs[i]?) : ∃ s : ByteArray, u = .string s ∧ s.size ≤ maxLen := by
  rw [hc, hd, List.getElem?_eq_getElem hlen] at hg
  obtain ⟨s, e, _, hm⟩ := DataW.trod_string hu hg
  exact ⟨s, by simpa using e, hm⟩
theorem open_hdr {r : Reach} {b0 : Nat} {t : TypeId} {f0 f1 f2 f3 f4 : Field} {v : Value} {d : DataW H} {p : List MemPlace} (hs : P.underlying t = some (.struct #[f0, f1, f2, f3, f4])) (hC : P.cellsOf t = 5) (hF : HdFields P f0 f1 f2 f3 f4)
    (hv : Value.okWide P w r b0 t v) (h : DataW.Trod enc P w base spare held t v d p) :
    ∃ (s : ByteArray) (z1 z2 z3 z4 : Int), v = .agg #[.string s, .int .i64 z1, .int .i64 z2, .int .i64 z3, .int .i64 z4] ∧ s.size ≤ maxLen := by
  obtain ⟨⟨u0, n0, o0⟩, ⟨u1, n1, o1⟩, ⟨u2, n2, o2⟩, ⟨u3, n3, o3⟩, ⟨u4, n4, o4⟩⟩ := hF
  obtain ⟨⟨cs⟩, rfl, hsz⟩ := okWide_struct hs hv
  have hl : cs.length = 5 := by rw [← hC, ← hsz]; rfl
  obtain ⟨fuel, hf⟩ := h
  obtain ⟨xs, n, _, _, _, hlen, hg⟩ := DataW.trod_struct hs hf
  have hx : xs.length = 5 := hlen
  match cs, hl with
  | [c0, c1, c2, c3, c4], _ =>
    obtain ⟨s, rfl, hm⟩ := field_string u0 n0 (i := 0) (by omega) (by rw [o0]; rfl) (hg 0 f0 rfl)
    obtain ⟨z1, rfl⟩ := field_int u1 n1 (i := 1) (by omega) (by rw [o1]; rfl) (hg 1 f1 rfl)
    obtain ⟨z2, rfl⟩ := field_int u2 n2 (i := 2) (by omega) (by rw [o2]; rfl) (hg 2 f2 rfl)
    obtain ⟨z3, rfl⟩ := field_int u3 n3 (i := 3) (by omega) (by rw [o3]; rfl) (hg 3 f3 rfl)
    obtain ⟨z4, rfl⟩ := field_int u4 n4 (i := 4) (by omega) (by rw [o4]; rfl) (hg 4 f4 rfl)
    exact ⟨s, z1, z2, z3, z4, rfl, hm⟩
end
end Go.Proofs.Ytcnpmbgeafkmlaa

