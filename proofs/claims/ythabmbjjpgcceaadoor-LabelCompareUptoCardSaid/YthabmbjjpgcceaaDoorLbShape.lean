/-
  Layer 7: what the world's shape says of the library's variable MaxLen.
-/
import Derived.Test.YthabmbjjpgcceaaDoorLbMatch
import Derived.Shelf.LaysM
namespace Go.Proofs.YthabmbjjpgcceaaDoor
set_option linter.unusedVariables false

theorem ml_of_shape {w : World} (h : w.ShapedOpen Tryd.prog) : ML w :=
  Go.Proofs.cell_of_shapedOpen_int (zero := #[.int .i64 0]) (t := 3) h (of_decide_eq_true (by kernel_rfl)) (by kernel_rfl) rfl (by kernel_rfl) (by kernel_rfl) Tryd.underlying3
end Go.Proofs.YthabmbjjpgcceaaDoor

