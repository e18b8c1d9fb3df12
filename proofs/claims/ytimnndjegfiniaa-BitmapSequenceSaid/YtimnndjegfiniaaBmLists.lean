/-
  Layer 6: the lists that the statements draw from.
-/
import Derived.Test.YtimnndjegfiniaaBmLaws2
namespace Go.Proofs.Ytimnndjegfiniaa
open Go.ChangeShapes Go.WideShapes Go.ChangeAt Go.RowKit
set_option linter.unusedVariables false

theorem Only.keep {B : Nat} {w w' : World} (h : Only B w w') {b o : Nat} {v : Value} (hn : b ≠ B) (hv : w.cell? ⟨b, o, none⟩ = some v) : w'.cell? ⟨b, o, none⟩ = some v := by
  rw [h.cell (lt_of_cell hv) hn]; exact hv
def inKind (k : IntKind) (lo hi : Int) (v : Value) : Bool := match v with | .int k' x => decide (k' = k ∧ lo ≤ x ∧ x ≤ hi) | _ => false
theorem pick_int {k : IntKind} {lo hi : Int} {cs : Array Value} (h : cs.toList.all (inKind k lo hi) = true) {n : Nat} (hn : n < cs.size) : ∃ x : Int, lo ≤ x ∧ x ≤ hi ∧ cs[n]? = some (.int k x) := by
  rw [List.all_eq_true] at h
  have hv := h cs[n] (by simp)
  rw [Array.getElem?_eq_getElem hn]
  unfold inKind at hv
  split at hv
  · rename_i k' x e
    simp at hv
    obtain ⟨rfl, h1, h2⟩ := hv
    exact ⟨x, h1, h2, by rw [e]⟩
  · simp at hv
theorem cell_new {w : World} {cs : Array Value} {t : TypeId} {n : Nat} {v : Value} (h : cs[n]? = some v) : (w.alloc (.cells cs t)).cell? ⟨w.heap.size, n, none⟩ = some v := by
  have e := (MapKept.heap_alloc w (.cells cs t)).1
  simp only [World.cell?, e]
  simpa using h
/-- A drawn list of numbers of a kind: each of its cells, in a new block. -/
theorem drawn {lo hi : Int} {cs : Array Value} {N : Nat} (hs : cs.size = N) (h : cs.toList.all (inKind .i64 lo hi) = true) (t : TypeId) (w : World) (n : Nat) (hn : n < N) :
    ∃ x : Int, lo ≤ x ∧ x ≤ hi ∧ (w.alloc (.cells cs t)).cell? ⟨w.heap.size, n, none⟩ = some (.int .i64 x) := by
  obtain ⟨x, h0, h1, h2⟩ := pick_int h (n := n) (by omega)
  exact ⟨x, h0, h1, cell_new h2⟩
def list9 : Array Value := #[.int .i64 0, .int .i64 1, .int .i64 65535, .int .i64 65534, .int .i64 32767, .int .i64 32768, .int .i64 100, .int .i64 63, .int .i64 64]
def list3 : Array Value := #[.int .i64 65536, .int .i64 (-65536), .int .i64 65537]
def list6 : Array Value := #[.int .i64 0, .int .i64 65535, .int .i64 65500, .int .i64 77, .int .i64 (-1), .int .i64 65536]
def list5 : Array Value := #[.int .i64 0, .int .i64 65535, .int .i64 65500, .int .i64 77, .int .i64 (-1)]
def list4 : Array Value := #[.int .i64 32767, .int .i64 32768, .int .i64 65535, .int .i64 65536]
theorem in9 (w : World) (n : Nat) (hn : n < 9) : ∃ x : Int, -65536 ≤ x ∧ x ≤ 65537 ∧ (w.alloc (.cells list9 3)).cell? ⟨w.heap.size, n, none⟩ = some (.int .i64 x) := drawn rfl (by decide) _ w n hn
theorem in3 (w : World) (n : Nat) (hn : n < 3) : ∃ x : Int, -65536 ≤ x ∧ x ≤ 65537 ∧ (w.alloc (.cells list3 3)).cell? ⟨w.heap.size, n, none⟩ = some (.int .i64 x) := drawn rfl (by decide) _ w n hn
theorem in6 (w : World) (n : Nat) (hn : n < 6) : ∃ x : Int, -65536 ≤ x ∧ x ≤ 65537 ∧ (w.alloc (.cells list6 3)).cell? ⟨w.heap.size, n, none⟩ = some (.int .i64 x) := drawn rfl (by decide) _ w n hn
theorem in5 (w : World) (n : Nat) (hn : n < 5) : ∃ x : Int, -65536 ≤ x ∧ x ≤ 65537 ∧ (w.alloc (.cells list5 3)).cell? ⟨w.heap.size, n, none⟩ = some (.int .i64 x) := drawn rfl (by decide) _ w n hn
theorem in4 (w : World) (n : Nat) (hn : n < 4) : ∃ x : Int, -65536 ≤ x ∧ x ≤ 65537 ∧ (w.alloc (.cells list4 3)).cell? ⟨w.heap.size, n, none⟩ = some (.int .i64 x) := drawn rfl (by decide) _ w n hn
end Go.Proofs.Ytimnndjegfiniaa

