/-
  Arguments of a statement, as the walks want them: a struct of two numbers, by value.
-/
import Derived.Test.YtcnpmbgeafkmlaaOpenHd
namespace Go.Proofs.Ytcnpmbgeafkmlaa
open Go.ChangeShapes Go.WideShapes Go.ChangeAt Go.RowKit
set_option linter.unusedVariables false

section
variable {H : Type} {enc : TypeId × Value → H} {P : Program} {w : World} {base : Nat} {spare : Nat → Bool} {held : Bool}
/-- The places and the types of the fields. -/
def RtFields (P : Program) (f0 f1 : Field) : Prop :=
  (P.underlying f0.type = some (.int .i64) ∧ P.cellsOf f0.type = 1 ∧ f0.offset = 0) ∧ (P.underlying f1.type = some (.int .i64) ∧ P.cellsOf f1.type = 1 ∧ f1.offset = 1)
theorem open_two {r : Reach} {b0 : Nat} {t : TypeId} {f0 f1 : Field} {v : Value} {d : DataW H} {p : List MemPlace} (hs : P.underlying t = some (.struct #[f0, f1])) (hC : P.cellsOf t = 2) (hF : RtFields P f0 f1)
    (hv : Value.okWide P w r b0 t v) (h : DataW.Trod enc P w base spare held t v d p) :
    ∃ z0 z1 : Int, v = .agg #[.int .i64 z0, .int .i64 z1] := by
  obtain ⟨⟨u0, n0, o0⟩, ⟨u1, n1, o1⟩⟩ := hF
  obtain ⟨⟨cs⟩, rfl, hsz⟩ := okWide_struct hs hv
  have hl : cs.length = 2 := by rw [← hC, ← hsz]; rfl
  obtain ⟨fuel, hf⟩ := h
  obtain ⟨xs, n, _, _, _, hlen, hg⟩ := DataW.trod_struct hs hf
  have hx : xs.length = 2 := hlen
  match cs, hl with
  | [c0, c1], _ =>
    obtain ⟨z0, rfl⟩ := field_int u0 n0 (i := 0) (by omega) (by rw [o0]; rfl) (hg 0 f0 rfl)
    obtain ⟨z1, rfl⟩ := field_int u1 n1 (i := 1) (by omega) (by rw [o1]; rfl) (hg 1 f1 rfl)
    exact ⟨z0, z1, rfl⟩
end
end Go.Proofs.Ytcnpmbgeafkmlaa

