/-
  More words on a block that is known whole. No program is named.
-/
import Derived.Test.YtcnpmbgeafkmlaaMem
namespace Go.Proofs.Ytcnpmbgeafkmlaa
open Go.ChangeShapes Go.WideShapes Go.ChangeAt Go.RowKit
set_option linter.unusedVariables false

theorem Whole.fresh (w : World) (t : TypeId) (cs : Array Value) : Whole (w.alloc (.cells cs t)) w.heap.size t cs := (MapKept.heap_alloc w _).1
theorem Whole.later {w w' : World} {g : Nat} {t : TypeId} {cs : Array Value} (h : Whole w g t cs) (hb : Below w.heap.size w w') : Whole w' g t cs := h.carry (hb.block _ h.size_lt)
/-! ### (Calm) An answer, and nothing old has changed. No program is named. -/
/-- An answer x, and nothing old has changed. -/
def Calm (x : Value) (w : World) (e : Ending) (w' : World) : Prop := e = .returned x ∧ Below w.heap.size w w'
theorem Calm.same {x : Value} {w w' : World} {e : Ending} (h : e = .returned x ∧ w = w') : Calm x w e w' := by
  obtain ⟨h1, rfl⟩ := h; exact ⟨h1, Below.refl _ _⟩
theorem Calm.has {B : Nat} {a : Option Addr} {len cap k : Nat} {x : Value} {w0 w w' : World} {e : Ending} (h : Calm x w e w') (hg : Has B a len cap k w0 w) : Has B a len cap k w0 w' := hg.below h.2
/-- The world w, from which draws alone have been taken. -/
def Drn (w w' : World) : Prop := ∃ q, w' = w.drewN q
theorem Drn.refl (w : World) : Drn w w := ⟨0, rfl⟩
theorem Drn.more {w w' : World} (h : Drn w w') (n : Nat) : Drn w (w'.drewN n) := by
  obtain ⟨q, rfl⟩ := h; exact ⟨q + n, World.drewN_drewN _ _ _⟩
theorem Drn.cell {w w' : World} (h : Drn w w') (p : Addr) : w'.cell? p = w.cell? p := by obtain ⟨q, rfl⟩ := h; rfl
theorem Drn.below {w w' : World} (h : Drn w w') {B : Nat} : Below B w w' := by obtain ⟨q, rfl⟩ := h; exact Below_drewN (Below.refl _ _) q
end Go.Proofs.Ytcnpmbgeafkmlaa

