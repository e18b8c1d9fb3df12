/-
  Words for memory: a slice that reads as cells known by their place, nil let in; a block that is known whole. No program is named.
-/
import Derived.Test.YtcnpmbgeafkmlaaGen
import Derived.Test.YtcnpmbgeafkmlaaPlain
import Derived.Deep.Draws
import Derived.Laws.Rows
import Derived.Lib.Hide
import Derived.IntWalk
import Derived.Outline
import Derived.StillTactics
import Derived.Laws.Pointers
namespace Go.Proofs.Ytcnpmbgeafkmlaa
open Go.ChangeShapes Go.WideShapes Go.ChangeAt Go.RowKit
set_option linter.unusedVariables false

theorem ret_bool {a b : Bool} (h : a = b) : Ending.returned (.bool a) = .returned (.bool b) := by rw [h]
theorem ret_int {k : IntKind} {a b : Int} (h : a = b) : Ending.returned (.int k a) = .returned (.int k b) := by rw [h]
theorem Below_drewN {B : Nat} {a w : World} (h : Below B a w) (n : Nat) : Below B a (w.drewN n) := h.trans ⟨rfl, rfl, rfl, Nat.le_refl _, fun _ _ => rfl⟩
theorem cell_alloc_of {w : World} {b o : Nat} {v : Value} (h : w.cell? ⟨b, o, none⟩ = some v) (x : Obj) : (w.alloc x).cell? ⟨b, o, none⟩ = some v := by rw [World.cell?_alloc_lt w x ⟨b, o, none⟩ (lt_of_cell h)]; exact h
theorem cell_drewN (w : World) (n : Nat) (p : Addr) : (w.drewN n).cell? p = w.cell? p := rfl
/-- The slice at A holds m cells, the j-th f j; it lies in one block from L on and below B. -/
def Cells (w : World) (L B : Nat) (A : Option Addr) (m : Nat) (f : Nat → Value) : Prop :=
  ∀ j, j < m → ∃ b off, A = some ⟨b, off, none⟩ ∧ L ≤ b ∧ b < B ∧ w.cell? ⟨b, off + j, none⟩ = some (f j)
section
variable {w w' : World} {L B L' B' m m' : Nat} {A : Option Addr} {f f' : Nat → Value}
theorem Cells.nil : Cells w L B A 0 f := fun j hj => by omega
theorem Cells.keep (h : Cells w L B A m f) (hk : ∀ b o, L ≤ b → b < B → w'.cell? ⟨b, o, none⟩ = w.cell? ⟨b, o, none⟩) : Cells w' L B A m f := fun j hj => by
  obtain ⟨b, off, e, h1, h2, h3⟩ := h j hj
  exact ⟨b, off, e, h1, h2, (hk b _ h1 h2).trans h3⟩
theorem Cells.wider (h : Cells w L B A m f) (hL : L' ≤ L) (hB : B ≤ B') : Cells w L' B' A m f := fun j hj => by
  obtain ⟨b, off, e, h1, h2, h3⟩ := h j hj
  exact ⟨b, off, e, by omega, by omega, h3⟩
theorem Cells.fewer (h : Cells w L B A m f) (hm : m' ≤ m) : Cells w L B A m' f := fun j hj => h j (by omega)
theorem Cells.same (h : Cells w L B A m f) (he : ∀ j, j < m → f j = f' j) : Cells w L B A m f' := fun j hj => by
  obtain ⟨b, off, e, h1, h2, h3⟩ := h j hj
  exact ⟨b, off, e, h1, h2, by rw [h3, he j hj]⟩
theorem Cells.below {C : Nat} (h : Cells w L B A m f) (hb : Below C w w') (hB : B ≤ C) : Cells w' L B A m f :=
  h.keep fun b o _ h2 => hb.cell (p := ⟨b, o, none⟩) (show b < C by omega)
theorem Cells.drew (h : Cells w L B A m f) : Cells w.drew L B A m f := h
theorem Cells.drewN (h : Cells w L B A m f) (n : Nat) : Cells (w.drewN n) L B A m f := h
theorem Cells.alloc (h : Cells w L B A m f) (hB : B ≤ w.heap.size) (o : Obj) : Cells (w.alloc o) L B A m f :=
  h.below ((Below.refl _ _).alloc (Nat.le_refl _) o) hB
theorem Cells.setCell (h : Cells w L B A m f) {g : Nat} (hg : g < L ∨ B ≤ g) (o : Nat) (u : Value) : Cells (w.setCell ⟨g, o, none⟩ u) L B A m f :=
  h.keep fun b o' h1 h2 => World.cell?_of_block (w := w) (Below.heap_setCell w ⟨g, o, none⟩ u b (by show b ≠ g; omega))
theorem Cells.only {g : Nat} (h : Cells w L B A m f) (ho : Only g w w') (hg : g < L ∨ B ≤ g) (hB : B ≤ w.heap.size) : Cells w' L B A m f :=
  h.keep fun b o' h1 h2 => ho.cell (by omega) (by omega)
theorem Cells.none_ (h : Cells w L B none m f) : m = 0 := by
  rcases Nat.eq_zero_or_pos m with h0 | h0
  · exact h0
  · obtain ⟨b, off, e, _⟩ := h 0 h0; cases e
end

/-- Numbers: element i is X i. -/
def Nums (w : World) (L B : Nat) (A : Option Addr) (n : Nat) (X : Nat → Int) : Prop := Cells w L B A n (fun j => .int .i64 (X j))
/-- Pairs of numbers: element i is (I i, V i). -/
def prs (I V : Nat → Int) (j : Nat) : Value := .int .i64 (if j % 2 = 0 then I (j / 2) else V (j / 2))
def Prs (w : World) (L B : Nat) (A : Option Addr) (n : Nat) (I V : Nat → Int) : Prop := Cells w L B A (n * 2) (prs I V)
def Fits (n : Nat) (X : Nat → Int) : Prop := ∀ i, i < n → -9223372036854775808 ≤ X i ∧ X i ≤ 9223372036854775807
theorem prs_even (I V : Nat → Int) (i : Nat) : prs I V (i * 2) = .int .i64 (I i) := by unfold prs; rw [if_pos (by omega)]; congr 2; omega
theorem prs_odd (I V : Nat → Int) (i : Nat) : prs I V (i * 2 + 1) = .int .i64 (V i) := by unfold prs; rw [if_neg (by omega)]; congr 2; omega
theorem Nums.at_ {w : World} {L B : Nat} {A : Option Addr} {n : Nat} {X : Nat → Int} (h : Nums w L B A n X) {i : Nat} (hi : i < n) :
    ∃ b off, A = some ⟨b, off, none⟩ ∧ L ≤ b ∧ b < B ∧ w.cell? ⟨b, off + i, none⟩ = some (.int .i64 (X i)) := h i hi
theorem Prs.at_ {w : World} {L B : Nat} {A : Option Addr} {n : Nat} {I V : Nat → Int} (h : Prs w L B A n I V) {i : Nat} (hi : i < n) :
    ∃ b off, A = some ⟨b, off, none⟩ ∧ L ≤ b ∧ b < B ∧ w.cell? ⟨b, off + i * 2, none⟩ = some (.int .i64 (I i)) ∧ w.cell? ⟨b, off + i * 2 + 1, none⟩ = some (.int .i64 (V i)) := by
  obtain ⟨b, off, e, h1, h2, h3⟩ := h (i * 2) (by omega)
  obtain ⟨b', off', e', _, _, h4⟩ := h (i * 2 + 1) (by omega)
  obtain ⟨rfl, rfl⟩ : b = b' ∧ off = off' := by rw [e] at e'; simpa using e'
  exact ⟨b, off, e, h1, h2, by rw [h3, prs_even], by rw [Nat.add_assoc, h4, prs_odd]⟩

/-- All of block g is known: cells cs of type t, each of them free. -/
def Whole (w : World) (g : Nat) (t : TypeId) (cs : Array Value) : Prop := w.heap[g]? = some (.cells cs t (0, 0))
section
variable {w w' : World} {g : Nat} {t : TypeId} {cs : Array Value}
theorem Whole.size_lt (h : Whole w g t cs) : g < w.heap.size := lt_of_block (w := w) h
theorem Whole.read (h : Whole w g t cs) (o : Nat) : w.cell? ⟨g, o, none⟩ = cs[o]? := by
  have e : w.heap[g]? = some (.cells cs t (0, 0)) := h
  simp [World.cell?, e]
theorem Whole.free (h : Whole w g t cs) (o : Nat) : w.frozen? ⟨g, o, none⟩ = false := by
  have e : w.heap[g]? = some (.cells cs t (0, 0)) := h
  simp [World.frozen?, e]
theorem Whole.carry (h : Whole w g t cs) (e : w'.heap[g]? = w.heap[g]?) : Whole w' g t cs := e.trans h
theorem Whole.put (h : Whole w g t cs) (o : Nat) (u : Value) : Whole (w.setCell ⟨g, o, none⟩ u) g t (cs.setIfInBounds o u) := heap_setCell_same w g o cs t u h
theorem Whole.alloc (h : Whole w g t cs) (o : Obj) : Whole (w.alloc o) g t cs := h.carry (Below.heap_alloc w o g h.size_lt)
theorem Whole.other (h : Whole w g t cs) {g' : Nat} (hp : g ≠ g') (o : Nat) (u : Value) : Whole (w.setCell ⟨g', o, none⟩ u) g t cs := h.carry (Below.heap_setCell w ⟨g', o, none⟩ u g hp)
end
/-- Block g is a row of n numbers of type t. -/
def Row (w : World) (g : Nat) (t : TypeId) (n : Nat) (X : Nat → Int) : Prop := ∃ cs, Whole w g t cs ∧ cs.size = n ∧ ∀ i, i < n → cs[i]? = some (.int .i64 (X i))
section
variable {w w' : World} {g n : Nat} {t : TypeId} {X Y : Nat → Int}
theorem Row.lt (h : Row w g t n X) : g < w.heap.size := by obtain ⟨cs, hb, _⟩ := h; exact hb.size_lt
theorem Row.cell (h : Row w g t n X) {i : Nat} (hi : i < n) : w.cell? ⟨g, i, none⟩ = some (.int .i64 (X i)) := by obtain ⟨cs, hb, hs, hx⟩ := h; rw [hb.read, hx i hi]
theorem Row.frozen (h : Row w g t n X) (i : Nat) : w.frozen? ⟨g, i, none⟩ = false := by obtain ⟨cs, hb, _⟩ := h; exact hb.free i
theorem Row.drew (h : Row w g t n X) : Row w.drew g t n X := h
theorem Row.drewN (h : Row w g t n X) (k : Nat) : Row (w.drewN k) g t n X := h
theorem Row.same (h : Row w g t n X) (he : ∀ i, i < n → X i = Y i) : Row w g t n Y := by obtain ⟨cs, hb, hs, hx⟩ := h; exact ⟨cs, hb, hs, fun i hi => by rw [hx i hi, he i hi]⟩
theorem Row.alloc (h : Row w g t n X) (o : Obj) : Row (w.alloc o) g t n X := by obtain ⟨cs, hb, r⟩ := h; exact ⟨cs, hb.alloc o, r⟩
theorem Row.far (h : Row w g t n X) {g' : Nat} (hp : g ≠ g') (o : Nat) (u : Value) : Row (w.setCell ⟨g', o, none⟩ u) g t n X := by obtain ⟨cs, hb, r⟩ := h; exact ⟨cs, hb.other hp o u, r⟩
theorem Row.below {B : Nat} (h : Row w g t n X) (hb : Below B w w') (hg : g < B) : Row w' g t n X := by obtain ⟨cs, h1, r⟩ := h; exact ⟨cs, h1.carry (hb.block g hg), r⟩
theorem Row.only {B : Nat} (h : Row w g t n X) (ho : Only B w w') (hg : g ≠ B) : Row w' g t n X := by obtain ⟨cs, h1, r⟩ := h; exact ⟨cs, h1.carry (ho.block g h1.size_lt hg), r⟩
theorem Row.set_ (h : Row w g t n X) {i : Nat} (hi : i < n) (v : Int) : Row (w.setCell ⟨g, i, none⟩ (.int .i64 v)) g t n (upd X i v) := by
  obtain ⟨cs, hb, hs, hx⟩ := h
  refine ⟨_, hb.put i _, by simpa using hs, fun k hk => ?_⟩
  unfold upd
  by_cases e : k = i
  · subst e; rw [if_pos rfl]; rw [Array.getElem?_setIfInBounds, if_pos rfl, if_pos (by omega)]
  · rw [if_neg e, Array.getElem?_setIfInBounds, if_neg (by omega)]; exact hx k hk
theorem Row.nums (h : Row w g t n X) : Nums w g (g + 1) (some ⟨g, 0, none⟩) n X := fun j hj => ⟨g, 0, rfl, Nat.le_refl _, by omega, by rw [Nat.zero_add]; exact h.cell hj⟩
theorem Row.of_make {base : Nat} {cap : Nat} (hown : w.ownsRow base t 1 (.slice (some ⟨g, 0, none⟩) n n) n (madeCells (Value.int .i64 0).cells (n * 1)).toList) : Row w g t n (fun _ => 0) := by
  obtain ⟨h1, h2⟩ := hown
  rcases h2 with ⟨h2, _⟩ | ⟨g', cap', cur, hv, _, hh, hn, _, hc, htake⟩
  · simp at h2
  · simp only [Value.slice.injEq, Option.some.injEq, Addr.mk.injEq, and_true, true_and] at hv
    obtain ⟨rfl, rfl⟩ := hv
    refine ⟨cur, hh, by omega, fun i hi => ?_⟩
    rw [Nat.mul_one] at hc
    have hl : cur.toList = (madeCells (Value.int .i64 0).cells (n * 1)).toList := by rw [← htake, List.take_of_length_le (by simp; omega)]
    have : cur = madeCells (Value.int .i64 0).cells (n * 1) := Array.toList_inj.1 hl
    rw [this]
    simp [madeCells, hi, Value.cells]
    rw [show i % 1 = 0 by omega]; rfl
end
end Go.Proofs.Ytcnpmbgeafkmlaa

