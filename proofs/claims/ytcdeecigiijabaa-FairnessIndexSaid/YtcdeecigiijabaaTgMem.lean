/-
  Layer 12: a tag's cells; lists of tags in memory.
-/
import Derived.Test.YtcdeecigiijabaaSrApp
import Derived.Test.YtcdeecigiijabaaTgPlain
import Derived.Test.YtcdeecigiijabaaWhl
namespace Go.Proofs.Ytcdeecigiijabaa
open Go.ChangeShapes Go.WideShapes Go.ChangeAt Go.RowKit
set_option linter.unusedVariables false

def csT (t : Tg) : List Value := [.int .i64 t.f, .int .i64 t.w, .int .i64 t.s]
theorem csT_len (t : Tg) : (csT t).length = 3 := rfl
theorem csT_one (t : Tg) : ∀ u ∈ csT t, u.oneCell' = true := by
  intro u hu; simp [csT] at hu; rcases hu with rfl | rfl | rfl <;> rfl
def aggT (t : Tg) : Value := .agg #[.int .i64 t.f, .int .i64 t.w, .int .i64 t.s]
/-- A tag that a slice holds. -/
theorem SrAt.tg {w : World} {L B : Nat} {A : Option Addr} {l : List Tg} (h : SrAt csT 3 w L B A l) {k : Nat} (hk : k < l.length) :
    ∃ b off, A = some ⟨b, off, none⟩ ∧ L ≤ b ∧ b < B ∧ w.cell? ⟨b, off + k * 3, none⟩ = some (.int .i64 l[k].f) ∧ w.cell? ⟨b, off + k * 3 + 1, none⟩ = some (.int .i64 l[k].w) ∧ w.cell? ⟨b, off + k * 3 + 2, none⟩ = some (.int .i64 l[k].s) := by
  obtain ⟨b, off, e, h1, h2, h3⟩ := h k hk
  exact ⟨b, off, e, h1, h2, h3 0 (by omega), h3 1 (by omega), h3 2 (by omega)⟩
/-- A list of tags in a row of the call's own. -/
def GotT (L : List Tg) (w : World) (e : Ending) (w' : World) : Prop :=
  ∃ A c, e = .returned (.slice A L.length c) ∧ SrAt csT 3 w' w.heap.size w'.heap.size A L ∧ Below w.heap.size w w'
/-- A list of tags in a row of the call's own, and a number. -/
def GotTE (L : List Tg) (x : Int) (w : World) (e : Ending) (w' : World) : Prop :=
  ∃ A c, e = .returned (.tuple #[.slice A L.length c, .int .i64 x]) ∧ SrAt csT 3 w' w.heap.size w'.heap.size A L ∧ Below w.heap.size w w'
end Go.Proofs.Ytcdeecigiijabaa

