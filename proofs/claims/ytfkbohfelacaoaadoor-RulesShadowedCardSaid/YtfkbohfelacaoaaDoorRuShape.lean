/-
  Layer 9: what the rows' list of package variables says of the library's table and error (WS).
-/
import Derived.Test.YtfkbohfelacaoaaDoorRuNum
import Derived.Test.YtfkbohfelacaoaaDoorRows
import Derived.Stop.LaidErr
import Derived.Lib.LaidTab
import Derived.LaidLaws
namespace Go.Proofs.YtfkbohfelacaoaaDoor
set_option linter.unusedVariables false

abbrev ruLaid : List (String × DataW Unit) := Rows.rulesParseRow.laid
theorem gES : Tryd.prog.globalNamed "strconv.ErrSyntax" = some 2 := by kernel_rfl
theorem gESType : (Tryd.prog.globals[2]?).map (·.type) = some 79 := by kernel_rfl
theorem gPT : Tryd.prog.globalNamed "internal/strconv.uint64pow10" = some 0 := by kernel_rfl
theorem gPTType : (Tryd.prog.globals[0]?).map (·.type) = some 108 := by kernel_rfl
theorem esStar : "*" ++ "errors.errorString" = "*errors.errorString" := by decide
theorem esRow (u : TypeId) (h : Tryd.prog.typeName? 3 u = some "*errors.errorString") : u = 126 :=
  typeName_ptr_named (nm := "errors.errorString") (by rw [esStar]; kernel_rfl) (by kernel_rfl) (by decide) u (by rw [esStar]; exact h)
theorem esCells1 : Tryd.prog.cellsOf 128 = 1 := by kernel_rfl
theorem esCells2 : Tryd.prog.cellsOf 9 = 1 := by kernel_rfl
theorem ptCells : Tryd.prog.cellsOf 108 = 20 := by kernel_rfl
theorem u64Cells : Tryd.prog.cellsOf 90 = 1 := by kernel_rfl
theorem ws_of_laid {W : World} (h : laidMetH Tryd.prog ruLaid W) : WS W := by
  have h0 : laidMet Tryd.prog ruLaid W := h
  have h2 := (h0.tail).tail
  have h4 := (h2.tail).tail
  refine ⟨Lib.tabIs_of_head (rest := _) gPT gPTType Tryd.underlying108 Tryd.underlying90 u64Cells ptCells h2, ?_⟩
  obtain ⟨a0, s0, hv0, -, -, -⟩ := laid_sentinel h4 gES gESType Tryd.underlying79 esRow Tryd.underlying126 Tryd.underlying128 rfl rfl Tryd.underlying9 esCells1 esCells2
  exact ⟨_, by have := World.var?_cell gES hv0 0; simpa using this, .inr ⟨_, _, rfl⟩⟩
end Go.Proofs.YtfkbohfelacaoaaDoor

