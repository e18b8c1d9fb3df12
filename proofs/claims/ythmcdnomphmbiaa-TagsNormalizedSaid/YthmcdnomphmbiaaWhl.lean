/-
  More words on a block that is known whole. No program is named.
-/
import Derived.Test.YthmcdnomphmbiaaMem
namespace Go.Proofs.Ythmcdnomphmbiaa
open Go.ChangeShapes Go.WideShapes Go.ChangeAt Go.RowKit
theorem Whole.fresh (w : World) (t : TypeId) (cs : Array Value) : Whole (w.alloc (.cells cs t)) w.heap.size t cs := (MapKept.heap_alloc w _).1
theorem Whole.later {w w' : World} {g : Nat} {t : TypeId} {cs : Array Value} (h : Whole w g t cs) (hb : Below w.heap.size w w') : Whole w' g t cs := h.carry (hb.block _ h.size_lt)
end Go.Proofs.Ythmcdnomphmbiaa

