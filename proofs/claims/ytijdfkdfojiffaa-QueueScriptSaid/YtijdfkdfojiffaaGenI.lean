/-
  The generator's Int64 (package airsharegen): a number of 64 bits.
-/
import Derived.Test.YtijdfkdfojiffaaGen
import Derived.WalkKit
import Derived.WalkSpells
import Derived.ProofKit
import Derived.OpenShut
import Derived.RowKit3
import Derived.Below
import Derived.OneCell
import Derived.RegionTactic
import Derived.Deep.RegionWith
import Derived.ChangeAlike
import Derived.Lib.Hide
namespace Go.Proofs.Ytijdfkdfojiffaa
open Go.ChangeShapes Go.WideShapes Go.ChangeAt Go.RowKit
set_option linter.unusedVariables false

/-- What Int64 answers: a number; three more have been taken. -/
def DrewI (B : Nat) (a : Option Addr) (len cap k : Nat) (w : World) (e : Ending) (w' : World) : Prop :=
  ∃ x : Int, -9223372036854775808 ≤ x ∧ x ≤ 9223372036854775807 ∧ e = .returned (.int .i64 x) ∧ Gen B a len cap (k + 3) w' ∧ Only B w w'
/-- The cells of the drawing list, and what a call that writes the choices alone leaves of them. -/
theorem Only.keep {B : Nat} {w w' : World} (h : Only B w w') {b o : Nat} {v : Value} (hn : b ≠ B) (hv : w.cell? ⟨b, o, none⟩ = some v) : w'.cell? ⟨b, o, none⟩ = some v := by
  rw [h.cell (lt_of_cell hv) hn]; exact hv
def inKind (k : IntKind) (lo hi : Int) (v : Value) : Bool := match v with | .int k' x => decide (k' = k ∧ lo ≤ x ∧ x ≤ hi) | _ => false
theorem pick_int {k : IntKind} {lo hi : Int} {cs : Array Value} (h : cs.toList.all (inKind k lo hi) = true) {n : Nat} (hn : n < cs.size) : ∃ x : Int, lo ≤ x ∧ x ≤ hi ∧ cs[n]? = some (.int k x) := by
  rw [List.all_eq_true] at h
  have hv := h cs[n] (by simp)
  rw [Array.getElem?_eq_getElem hn]
  unfold inKind at hv
  split at hv
  · rename_i k' x e
    simp at hv
    obtain ⟨rfl, h1, h2⟩ := hv
    exact ⟨x, h1, h2, by rw [e]⟩
  · simp at hv
theorem cell_new {w : World} {cs : Array Value} {t : TypeId} {n : Nat} {v : Value} (h : cs[n]? = some v) : (w.alloc (.cells cs t)).cell? ⟨w.heap.size, n, none⟩ = some v := by
  have e := (MapKept.heap_alloc w (.cells cs t)).1
  simp only [World.cell?, e]
  simpa using h
/-- The list that Int64 draws from. -/
def list19 : Array Value := #[Value.int IntKind.i64 0, Value.int IntKind.i64 1, Value.int IntKind.i64 (-1), Value.int IntKind.i64 2, Value.int IntKind.i64 3, Value.int IntKind.i64 7, Value.int IntKind.i64 (-7), Value.int IntKind.i64 10,
      Value.int IntKind.i64 2147483648, Value.int IntKind.i64 (-2147483648), Value.int IntKind.i64 2147483649, Value.int IntKind.i64 4611686018427387904, Value.int IntKind.i64 (-4611686018427387904),
      Value.int IntKind.i64 9223372036854775807, Value.int IntKind.i64 (-9223372036854775808), Value.int IntKind.i64 (-9223372036854775807), Value.int IntKind.i64 4294967295, Value.int IntKind.i64 3458764513820540928, Value.int IntKind.i64 720720]
theorem words19 (w : World) (n : Nat) (hn : n ≤ 18) : ∃ x : Int, -9223372036854775808 ≤ x ∧ x ≤ 9223372036854775807 ∧ (w.alloc (.cells list19 2)).cell? ⟨w.heap.size, n, none⟩ = some (.int .i64 x) := by
  obtain ⟨x, h0, h1, h2⟩ := pick_int (k := .i64) (lo := -9223372036854775808) (hi := 9223372036854775807) (cs := list19) (by decide) (n := n) (by show n < 19; omega)
  exact ⟨x, h0, h1, cell_new h2⟩
theorem wrap_bd (x : Int) : -9223372036854775808 ≤ IntKind.i64.wrap x ∧ IntKind.i64.wrap x ≤ 9223372036854775807 := by rw [IntKind.wrap_i64]; omega
/-- What Int64 answers, said of choices that a caller keeps. -/
def GaveI (B : Nat) (a : Option Addr) (len cap k : Nat) (w0 w : World) (e : Ending) (w' : World) : Prop :=
  ∃ x : Int, -9223372036854775808 ≤ x ∧ x ≤ 9223372036854775807 ∧ e = .returned (.int .i64 x) ∧ Has B a len cap (k + 3) w0 w' ∧ Only B w w'
end Go.Proofs.Ytijdfkdfojiffaa

