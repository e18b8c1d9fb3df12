/-
  Words for memory (layer 4): entries that the heap owns, a change that turns no blocks but those of a set, the heap behind its pointer.
-/
import Derived.Test.YtlnbjmmbjhglnaaHpCmp
namespace Go.Proofs.Ytlnbjmmbjhglnaa
open Go.ChangeShapes Go.WideShapes Go.ChangeAt Go.RowKit
set_option linter.unusedVariables false

/-- No old block has turned but those of S. -/
structure Chg (S : Nat → Prop) (w w' : World) : Prop where
  os : w'.os = w.os
  tape : w'.tape = w.tape
  output : w'.output = w.output
  size : w.heap.size ≤ w'.heap.size
  block : ∀ k, k < w.heap.size → ¬ S k → w'.heap[k]? = w.heap[k]?
section
variable {S T : Nat → Prop} {a b c w w' : World}
theorem Chg.refl (S : Nat → Prop) (w : World) : Chg S w w := ⟨rfl, rfl, rfl, Nat.le_refl _, fun _ _ _ => rfl⟩
theorem Chg.trans (h : Chg S a b) (k : Chg S b c) : Chg S a c :=
  ⟨k.os.trans h.os, k.tape.trans h.tape, k.output.trans h.output, Nat.le_trans h.size k.size, fun i hi hn => (k.block i (by have := h.size; omega) hn).trans (h.block i hi hn)⟩
theorem Chg.of_below (h : Below a.heap.size a b) : Chg S a b := ⟨h.os, h.tape, h.output, h.size, fun k hk _ => h.block k hk⟩
theorem Chg.drew (h : Chg S a w) : Chg S a w.drew := ⟨h.os, h.tape, h.output, h.size, h.block⟩
theorem Chg.drewN (h : Chg S a w) (n : Nat) : Chg S a (w.drewN n) := ⟨h.os, h.tape, h.output, h.size, h.block⟩
theorem Chg.alloc (h : Chg S a w) (o : Obj) : Chg S a (w.alloc o) := h.trans (Chg.of_below ((Below.refl _ _).alloc (Nat.le_refl _) o))
theorem Chg.setCell (h : Chg S a w) {g : Nat} (hg : S g) (o : Nat) (u : Value) : Chg S a (w.setCell ⟨g, o, none⟩ u) :=
  h.trans ⟨rfl, rfl, rfl, by simp [World.setCell], fun k _ hn => Below.heap_setCell _ _ _ _ (fun e => hn (by rw [e]; exact hg))⟩
theorem Chg.setNew (h : Chg S a w) {g : Nat} (hg : a.heap.size ≤ g) (o : Nat) (u : Value) : Chg S a (w.setCell ⟨g, o, none⟩ u) :=
  ⟨h.os, h.tape, h.output, Nat.le_trans h.size (by simp [World.setCell]), fun k hk hn => (Below.heap_setCell w ⟨g, o, none⟩ u k (by show k ≠ g; omega)).trans (h.block k hk hn)⟩
theorem Chg.grown {row : Option Nat} (h : Chg S a w) (hg : w.grownBy w' row) (hr : ∀ k, row = some k → S k ∨ a.heap.size ≤ k) : Chg S a w' :=
  ⟨hg.os.trans h.os, hg.tape.trans h.tape, hg.output.trans h.output, Nat.le_trans h.size hg.size, fun k hk hn => (hg.block k (by have := h.size; omega) (fun e => by
    rcases hr k e.symm with h1 | h1
    · exact hn h1
    · omega)).trans (h.block k hk hn)⟩
theorem Chg.wider (h : Chg S a b) (hs : ∀ k, k < a.heap.size → S k → T k) : Chg T a b := ⟨h.os, h.tape, h.output, h.size, fun k hk hn => h.block k hk (fun e => hn (hs k hk e))⟩
theorem Chg.below (h : Chg S a b) {C : Nat} (hC : C ≤ a.heap.size) (hs : ∀ k, S k → C ≤ k) : Below C a b :=
  ⟨h.os, h.tape, h.output, h.size, fun k hk => h.block k (by omega) (fun e => by have := hs k e; omega)⟩
theorem Chg.of_only {B : Nat} (h : Only B a b) (hs : S B) : Chg S a b := ⟨h.os, h.tape, h.output, h.size, fun k hk hn => h.block k hk (fun e => hn (by rw [e]; exact hs))⟩
end

/-- The cells of n entries. -/
def flatE (E : Nat → Int × Int) : Nat → List Value
  | 0 => []
  | n + 1 => flatE E n ++ [.int .i64 (E n).1, .int .i64 (E n).2]
theorem flatE_len (E : Nat → Int × Int) (n : Nat) : (flatE E n).length = n * 2 := by
  induction n with
  | zero => rfl
  | succ n ih => simp only [flatE, List.length_append, ih, List.length_cons, List.length_nil]; omega
theorem flatE_congr {E F : Nat → Int × Int} {n : Nat} (h : ∀ i, i < n → E i = F i) : flatE E n = flatE F n := by
  induction n with
  | zero => rfl
  | succ n ih => simp only [flatE]; rw [ih (fun i hi => h i (by omega)), h n (by omega)]
/-- Cell j of entries. -/
def prE (E : Nat → Int × Int) (j : Nat) : Value := .int .i64 (if j % 2 = 0 then (E (j / 2)).1 else (E (j / 2)).2)
theorem prE_even (E : Nat → Int × Int) (i : Nat) : prE E (i * 2) = .int .i64 (E i).1 := by
  unfold prE; rw [if_pos (by omega), show i * 2 / 2 = i by omega]
theorem prE_odd (E : Nat → Int × Int) (i : Nat) : prE E (i * 2 + 1) = .int .i64 (E i).2 := by
  unfold prE; rw [if_neg (by omega), show (i * 2 + 1) / 2 = i by omega]
theorem flatE_at (E : Nat → Int × Int) (n j : Nat) (h : j < n * 2) : (flatE E n)[j]? = some (prE E j) := by
  induction n with
  | zero => omega
  | succ n ih =>
    simp only [flatE]
    rcases (by omega : j < n * 2 ∨ j = n * 2 ∨ j = n * 2 + 1) with h' | h' | h'
    · rw [List.getElem?_append_left (by rw [flatE_len]; exact h')]; exact ih h'
    · subst h'; rw [List.getElem?_append_right (by rw [flatE_len]; omega), flatE_len, Nat.sub_self, prE_even]; rfl
    · subst h'; rw [List.getElem?_append_right (by rw [flatE_len]; omega), flatE_len, prE_odd, show n * 2 + 1 - n * 2 = 1 by omega]; rfl
theorem flatE_take (E : Nat → Int × Int) {m n : Nat} (h : m ≤ n) : (flatE E n).take (m * 2) = flatE E m := by
  induction n with
  | zero => obtain rfl : m = 0 := by omega
            rfl
  | succ n ih =>
    rcases (by omega : m = n + 1 ∨ m ≤ n) with rfl | h'
    · rw [List.take_of_length_le (by rw [flatE_len]; exact Nat.le_refl _)]
    · simp only [flatE]; rw [List.take_append_of_le_length (by rw [flatE_len]; omega)]; exact ih h'
theorem flatE_ext {E : Nat → Int × Int} {n : Nat} {l : List Value} (hl : l.length = n * 2) (h : ∀ j, j < n * 2 → l[j]? = some (prE E j)) : l = flatE E n := by
  apply List.ext_getElem?
  intro j
  rcases Nat.lt_or_ge j (n * 2) with h' | h'
  · rw [h j h', flatE_at E n j h']
  · rw [List.getElem?_eq_none (by omega), List.getElem?_eq_none (by rw [flatE_len]; exact h')]

/-- Slice v owns n entries. -/
def Ents (w : World) (C : Nat) (v : Value) (n : Nat) (E : Nat → Int × Int) : Prop := w.ownsRow C 40 2 v n (flatE E n)
section
variable {w w' : World} {C n : Nat} {v : Value} {E F : Nat → Int × Int}
theorem Ents.nil (w : World) (C : Nat) (E : Nat → Int × Int) : Ents w C (.slice none 0 0) 0 E := World.ownsRow_nil _ _ _ _
theorem Ents.shape (h : Ents w C v n E) : ∃ A c, v = .slice A n c := by
  rcases h.2 with ⟨hv, rfl⟩ | ⟨g, cap, cur, hv, _⟩
  · exact ⟨none, 0, hv⟩
  · exact ⟨_, _, hv⟩
theorem Ents.some_ (h : Ents w C v n E) (hn : 0 < n) : ∃ g c, v = .slice (some ⟨g, 0, none⟩) n c ∧ n ≤ c ∧ C ≤ g ∧ g < w.heap.size := by
  rcases h.2 with ⟨hv, rfl⟩ | ⟨g, cap, cur, hv, h1, h2, h3, _⟩
  · omega
  · exact ⟨g, cap, hv, h3, h1, lt_of_block h2⟩
theorem Ents.cell {g c : Nat} (h : Ents w C (.slice (some ⟨g, 0, none⟩) n c) n E) {i : Nat} (hi : i < n) :
    w.cell? ⟨g, i * 2, none⟩ = some (.int .i64 (E i).1) ∧ w.cell? ⟨g, i * 2 + 1, none⟩ = some (.int .i64 (E i).2) := by
  constructor
  · rw [World.ownsRow.cellAt h _ (by omega), flatE_at E n _ (by omega), prE_even]
  · rw [World.ownsRow.cellAt h _ (by omega), flatE_at E n _ (by omega), prE_odd]
theorem Ents.free {g c : Nat} (h : Ents w C (.slice (some ⟨g, 0, none⟩) n c) n E) (j : Nat) : w.frozen? ⟨g, j, none⟩ = false := World.ownsRow.frozenAt h j
theorem Ents.lt (h : Ents w C v n E) : ∀ k, v.ownBlock = some k → C ≤ k ∧ k < w.heap.size := World.ownsRow.lt h
theorem Ents.keep (h : Ents w C v n E) (hk : ∀ k, v.ownBlock = some k → w'.heap[k]? = w.heap[k]?) : Ents w' C v n E := by
  refine ⟨h.1, ?_⟩
  rcases h.2 with h2 | ⟨g, cap, cur, hv, hg, hh, r⟩
  · exact .inl h2
  · exact .inr ⟨g, cap, cur, hv, hg, (hk g (by rw [hv]; rfl)).trans hh, r⟩
theorem Ents.same (h : Ents w C v n E) (he : ∀ i, i < n → E i = F i) : Ents w C v n F := by unfold Ents; rw [← flatE_congr he]; exact h
theorem Ents.key {g c : Nat} (h : Ents w C (.slice (some ⟨g, 0, none⟩) n c) n E) {i : Nat} (hi : i < n) (x : Int) :
    Ents (w.setCell ⟨g, i * 2 + 1, none⟩ (.int .i64 x)) C (.slice (some ⟨g, 0, none⟩) n c) n (up1 E i ((E i).1, x)) := by
  have h1 := World.ownsRow.stored h (i * 2 + 1) (.int .i64 x)
  have e : (flatE E n).set (i * 2 + 1) (.int .i64 x) = flatE (up1 E i ((E i).1, x)) n := by
    refine flatE_ext (by rw [List.length_set, flatE_len]) (fun j hj => ?_)
    rw [List.getElem?_set]
    by_cases hji : i * 2 + 1 = j
    · subst hji; rw [if_pos rfl, if_pos (by rw [flatE_len]; exact hj), prE_odd, up1_at]
    · rw [if_neg hji, flatE_at E n j hj]
      unfold prE
      by_cases h2 : j / 2 = i
      · rw [if_pos (by omega), if_pos (by omega), h2, up1_at]
      · rw [up1_ne _ _ _ _ h2]
  unfold Ents; rw [← e]; exact h1.1
theorem Ents.ids {g c : Nat} (h : Ents w C (.slice (some ⟨g, 0, none⟩) n c) n E) {i : Nat} (hi : i < n) (x : Int) :
    Ents (w.setCell ⟨g, i * 2, none⟩ (.int .i64 x)) C (.slice (some ⟨g, 0, none⟩) n c) n (up1 E i (x, (E i).2)) := by
  have h1 := World.ownsRow.stored h (i * 2) (.int .i64 x)
  have e : (flatE E n).set (i * 2) (.int .i64 x) = flatE (up1 E i (x, (E i).2)) n := by
    refine flatE_ext (by rw [List.length_set, flatE_len]) (fun j hj => ?_)
    rw [List.getElem?_set]
    by_cases hji : i * 2 = j
    · subst hji; rw [if_pos rfl, if_pos (by rw [flatE_len]; exact hj), prE_even, up1_at]
    · rw [if_neg hji, flatE_at E n j hj]
      unfold prE
      by_cases h2 : j / 2 = i
      · rw [if_neg (by omega), if_neg (by omega), h2, up1_at]
      · rw [up1_ne _ _ _ _ h2]
  unfold Ents; rw [← e]; exact h1.1
theorem Ents.put {g c : Nat} (h : Ents w C (.slice (some ⟨g, 0, none⟩) n c) n E) {i : Nat} (hi : i < n) (x y : Int) :
    Ents ((w.setCell ⟨g, i * 2, none⟩ (.int .i64 x)).setCell ⟨g, i * 2 + 1, none⟩ (.int .i64 y)) C (.slice (some ⟨g, 0, none⟩) n c) n (up1 E i (x, y)) := by
  have h2 := (h.ids hi x).key hi y
  rw [up1_at] at h2
  refine h2.same (fun j hj => ?_)
  by_cases hji : j = i
  · subst hji; rw [up1_at, up1_at]
  · rw [up1_ne _ _ _ _ hji, up1_ne _ _ _ _ hji, up1_ne _ _ _ _ hji]
theorem Ents.cut {g c m : Nat} (h : Ents w C (.slice (some ⟨g, 0, none⟩) n c) n E) (hm : m ≤ n) : Ents w C (.slice (some ⟨g, 0, none⟩) m c) m E := by
  refine ⟨flatE_len _ _, ?_⟩
  rcases h.2 with ⟨hv, _⟩ | ⟨g', cap, cur, hv, h1, h2, h3, h4, h5, h6⟩
  · simp at hv
  · simp only [Value.slice.injEq, Option.some.injEq, Addr.mk.injEq, and_true, true_and] at hv
    obtain ⟨rfl, rfl⟩ := hv
    exact .inr ⟨g, c, cur, rfl, h1, h2, by omega, h4, h5, by rw [← flatE_take E hm, ← h6, List.take_take, Nat.min_eq_left (by omega)]⟩
end
/-- The same by functions: element j of the slice is E j; in no block but one. -/
theorem Ents.prs {w : World} {C n : Nat} {v : Value} {E : Nat → Int × Int} (h : Ents w C v n E) : ∃ A c, v = .slice A n c ∧ Prs w C w.heap.size A n (fun j => (E j).1) (fun j => (E j).2) := by
  rcases h.2 with ⟨hv, rfl⟩ | ⟨g, cap, cur, hv, hg, hh, hn, _, hc, htake⟩
  · exact ⟨none, 0, hv, Cells.nil⟩
  · refine ⟨_, cap, hv, fun j hj => ⟨g, 0, rfl, hg, lt_of_block hh, ?_⟩⟩
    rw [cell_of_row w g (0 + j) cur _ (0, 0) hh, Nat.zero_add]
    have := flatE_at E n j hj
    rw [← htake, List.getElem?_take, if_pos hj] at this
    have h2 : cur[j]? = some (prE E j) := by simpa using this
    rw [h2]; rfl

/-- The heap behind pointer H: entries E in slice v, positions P in block PB. -/
structure HeapW (w : World) (C H PB : Nat) (v : Value) (cap n : Nat) (E : Nat → Int × Int) (P : Nat → Int) : Prop where
  blk : w.heap[H]? = some (.cells #[.int .i64 cap, v, .slice (some ⟨PB, 0, none⟩) 4096 4096] 60 (0, 0))
  ents : Ents w C v n E
  pos : Row w PB 3 4096 P
  lo : C ≤ H ∧ C ≤ PB
  ne : H ≠ PB ∧ v.ownBlock ≠ some H ∧ v.ownBlock ≠ some PB
  len : n ≤ cap ∧ cap ≤ 4096
def foot (H PB : Nat) (v : Value) : Nat → Prop := fun k => k = H ∨ k = PB ∨ v.ownBlock = some k
section
variable {w w' : World} {C H PB cap n : Nat} {v : Value} {E F : Nat → Int × Int} {P : Nat → Int}
theorem HeapW.keep (h : HeapW w C H PB v cap n E P) (hk : ∀ k, foot H PB v k → w'.heap[k]? = w.heap[k]?) : HeapW w' C H PB v cap n E P :=
  ⟨(hk H (.inl rfl)).trans h.blk, h.ents.keep (fun k e => hk k (.inr (.inr e))), by obtain ⟨cs, h1, r⟩ := h.pos; exact ⟨cs, h1.carry (hk PB (.inr (.inl rfl))), r⟩, h.lo, h.ne, h.len⟩
theorem HeapW.lt (h : HeapW w C H PB v cap n E P) : ∀ k, foot H PB v k → C ≤ k ∧ k < w.heap.size := by
  rintro k (rfl | rfl | e)
  · exact ⟨h.lo.1, lt_of_block h.blk⟩
  · exact ⟨h.lo.2, h.pos.lt⟩
  · exact h.ents.lt k e
theorem HeapW.below (h : HeapW w C H PB v cap n E P) (hb : Below w.heap.size w w') : HeapW w' C H PB v cap n E P := h.keep fun k hk => hb.block k (h.lt k hk).2
theorem HeapW.alloc (h : HeapW w C H PB v cap n E P) (o : Obj) : HeapW (w.alloc o) C H PB v cap n E P := h.below ((Below.refl _ _).alloc (Nat.le_refl _) o)
theorem HeapW.drew (h : HeapW w C H PB v cap n E P) : HeapW w.drew C H PB v cap n E P := h.below (Below.refl _ _).drew
theorem HeapW.cells (h : HeapW w C H PB v cap n E P) : w.cell? ⟨H, 0, none⟩ = some (.int .i64 cap) ∧ w.cell? ⟨H, 1, none⟩ = some v ∧ w.cell? ⟨H, 2, none⟩ = some (.slice (some ⟨PB, 0, none⟩) 4096 4096) ∧ w.frozen? ⟨H, 1, none⟩ = false := by
  have := h.blk
  exact ⟨by simp [World.cell?, this], by simp [World.cell?, this], by simp [World.cell?, this], by simp [World.frozen?, this]⟩
theorem HeapW.same (h : HeapW w C H PB v cap n E P) (he : ∀ i, i < n → E i = F i) : HeapW w C H PB v cap n F P := ⟨h.blk, h.ents.same he, h.pos, h.lo, h.ne, h.len⟩
end
end Go.Proofs.Ytlnbjmmbjhglnaa
