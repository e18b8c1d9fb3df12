/-
  Layer 6: the lists that the statements draw from.
-/
import Derived.Test.YtimnndjegfiniaaBmLaws2
namespace Go.Proofs.Ytimnndjegfiniaa
open Go.ChangeShapes Go.WideShapes Go.ChangeAt Go.RowKit
set_option linter.unusedVariables false

theorem Only.keep {B : Nat} {w w' : World} (h : Only B w w') {b o : Nat} {v : Value} (hn : b ≠ B) (hv : w.cell? ⟨b, o, none⟩ = some v) : w'.cell? ⟨b, o, none⟩ = some v := by
  rw [h.cell (lt_of_cell hv) hn]; exact hv
def inKind (k : IntKind) (lo hi : Int) (v : Value) : Bool := match v with | .int k' x => decide (k' = k ∧ lo ≤ x ∧ x ≤ hi) | _ => false
theorem pick_int {k : IntKind} {lo hi : Int} {cs : Array Value} (h : cs.toList.all (inKind k lo hi) = true) {n : Nat} (hn : n < cs.size) : ∃ x : Int, lo ≤ x ∧ x ≤ hi ∧ cs[n]? = some (.int k x) := by
  rw [List.all_eq_true] at h
  have hv := h cs[n] (by simp)
  rw [Array.getElem?_eq_getElem hn]
  unfold inKind at hv
  split at hv
  · rename_i k' x e
    simp at hv
    obtain ⟨rfl, h1, h2⟩ := hv
    exact ⟨x, h1, h2, by rw [e]⟩
  · simp at hv
theorem cell_new {w : World} {cs : Array Value} {t : TypeId} {n : Nat} {v : Value} (h : cs[n]? = some v) : (w.alloc (.cells cs t)).cell? ⟨w.heap.size, n, none⟩ = some v := by
  have e := (MapKept.heap_alloc w (.cells cs t)).1
  simp only [World.cell?, e]
  simpa using h
/-- A drawn list of numbers of a kind: each of its cells, in a new block. -/
theorem drawn {lo hi : Int} {cs : Array Value} {N : Nat} (hs : cs.size = N) (h : cs.toList.all (inKind .i64 lo hi) = true) (t : TypeId) (w : World) (n : Nat) (hn : n < N) :
    ∃ x : Int, lo ≤ x ∧ x ≤ hi ∧ (w.alloc (.cells cs t)).cell? ⟨w.heap.size, n, none⟩ = some (.int .i64 x) := by
  obtain ⟨x, h0, h1, h2⟩ := pick_int h (n := n) (by omega)
  exact ⟨x, h0, h1, cell_new h2⟩
def list9 : Array Value := #[.int .i64 0, .int .i64 1, .int .i64 65535, .int .i64 65534, .int .i64 32767, .int .i64 32768, .int .i64 100, .int .i64 63, .int .i64 64]
def list3 : Array Value := #[.int .i64 65536, .int .i64 (-65536), .int .i64 65537]
def list6 : Array Value := #[.int .i64 0, .int .i64 65535, .int .i64 65500, .int .i64 77, .int .i64 (-1), .int .i64 65536]
def list5 : Array Value := #[.int .i64 0, .int .i64 65535, .int .i64 65500, .int .i64 77, .int .i64 (-1)]
def list4 : Array Value := #[.int .i64 32767, .int .i64 32768, .int .i64 65535, .int .i64 65536]
theorem in9 (w : World) (n : Nat) (hn : n < 9) : ∃ x : Int, -65536 ≤ x ∧ x ≤ 65537 ∧ (w.alloc (.cells list9 3)).cell? ⟨w.heap.size, n, none⟩ = some (.int .i64 x) := drawn rfl (by decide) _ w n hn
theorem in3 (w : World) (n : Nat) (hn : n < 3) : ∃ x : Int, -65536 ≤ x ∧ x ≤ 65537 ∧ (w.alloc (.cells list3 3)).cell? ⟨w.heap.size, n, none⟩ = some (.int .i64 x) := drawn rfl (by decide) _ w n hn
theorem in6 (w : World) (n : Nat) (hn : n < 6) : ∃ x : Int, -65536 ≤ x ∧ x ≤ 65537 ∧ (w.alloc (.cells list6 3)).cell? ⟨w.heap.size, n, none⟩ = some (.int .i64 x) := drawn rfl (by decide) _ w n hn
theorem in5 (w : World) (n : Nat) (hn : n < 5) : ∃ x : Int, -65536 ≤ x ∧ x ≤ 65537 ∧ (w.alloc (.cells list5 3)).cell? ⟨w.heap.size, n, none⟩ = some (.int .i64 x) := drawn rfl (by decide) _ w n hn
theorem in4 (w : World) (n : Nat) (hn : n < 4) : ∃ x : Int, -65536 ≤ x ∧ x ≤ 65537 ∧ (w.alloc (.cells list4 3)).cell? ⟨w.heap.size, n, none⟩ = some (.int .i64 x) := drawn rfl (by decide) _ w n hn
/-- A drawn list, wherever it lies: one number for each index. -/
theorem listed {lo hi : Int} {cs : Array Value} {N : Nat} (hs : cs.size = N) (h : cs.toList.all (inKind .i64 lo hi) = true) (t : TypeId) (n : Nat) (hn : n < N) :
    ∃ x : Int, lo ≤ x ∧ x ≤ hi ∧ ∀ (W : World) (g : Nat), g = W.heap.size → (W.alloc (.cells cs t)).cell? ⟨g, n, none⟩ = some (.int .i64 x) := by
  obtain ⟨x, h0, h1, h2⟩ := pick_int h (n := n) (by omega)
  exact ⟨x, h0, h1, fun W g hg => by subst hg; exact cell_new h2⟩
theorem on6 (n : Nat) (hn : n < 6) : ∃ x : Int, -65536 ≤ x ∧ x ≤ 65537 ∧ ∀ (W : World) (g : Nat), g = W.heap.size → (W.alloc (.cells list6 3)).cell? ⟨g, n, none⟩ = some (.int .i64 x) := listed rfl (by decide) _ n hn
theorem on5 (n : Nat) (hn : n < 5) : ∃ x : Int, -65536 ≤ x ∧ x ≤ 65537 ∧ ∀ (W : World) (g : Nat), g = W.heap.size → (W.alloc (.cells list5 3)).cell? ⟨g, n, none⟩ = some (.int .i64 x) := listed rfl (by decide) _ n hn
theorem on4 (n : Nat) (hn : n < 4) : ∃ x : Int, -65536 ≤ x ∧ x ≤ 65537 ∧ ∀ (W : World) (g : Nat), g = W.heap.size → (W.alloc (.cells list4 3)).cell? ⟨g, n, none⟩ = some (.int .i64 x) := listed rfl (by decide) _ n hn
/-- Old cells behind an alloc; behind a call that writes the choices alone. -/
theorem past_alloc : ∀ (W : World) (o : Obj) (b k : Nat), b < W.heap.size → (W.alloc o).cell? ⟨b, k, none⟩ = W.cell? ⟨b, k, none⟩ := fun W o b k h => World.cell?_alloc_lt W o ⟨b, k, none⟩ h
theorem past_call {C : Nat} {W w1 : World} (h : Only C W w1) : (∀ b k, b < W.heap.size → C < b → w1.cell? ⟨b, k, none⟩ = W.cell? ⟨b, k, none⟩) ∧ (∀ b k, b < W.heap.size → C < b → w1.frozen? ⟨b, k, none⟩ = W.frozen? ⟨b, k, none⟩) ∧ W.heap.size ≤ w1.heap.size :=
  ⟨fun b k hb hn => h.cell hb (by omega), fun b k hb hn => World.frozen?_of_block (a := ⟨b, k, none⟩) (h.block b hb (by omega)), h.size⟩
theorem Has.store {B : Nat} {a : Option Addr} {len cap k : Nat} {w0 w : World} (h : Has B a len cap k w0 w) {g : Nat} (hg : B < g) (o : Nat) (u : Value) : Has B a len cap k w0 (w.setCell ⟨g, o, none⟩ u) :=
  ⟨h.1.kept ((Below.refl _ w).setCell (p := ⟨g, o, none⟩) (by simp; omega) u), h.2.setCell (p := ⟨g, o, none⟩) (by simp; omega) u⟩
theorem put0 {W : World} {g : Nat} {u v : Value} (h : (W.cell? ⟨g, 0, none⟩).isSome = true) : ((W.setCell ⟨g, 0, none⟩ u).setCell ⟨g, 1, none⟩ v).cell? ⟨g, 0, none⟩ = some u := by
  exact (World.cell?_setCell_other _ ⟨g, 1, none⟩ ⟨g, 0, none⟩ v (by simp)).trans (World.cell?_setCell_same' _ _ _ h)
theorem put1 {W : World} {g : Nat} {u v : Value} (h : (W.cell? ⟨g, 1, none⟩).isSome = true) : ((W.setCell ⟨g, 0, none⟩ u).setCell ⟨g, 1, none⟩ v).cell? ⟨g, 1, none⟩ = some v :=
  World.cell?_setCell_same' _ _ _ (by rw [World.cell?_setCell_other _ ⟨g, 0, none⟩ ⟨g, 1, none⟩ u (by simp)]; exact h)
end Go.Proofs.Ytimnndjegfiniaa

