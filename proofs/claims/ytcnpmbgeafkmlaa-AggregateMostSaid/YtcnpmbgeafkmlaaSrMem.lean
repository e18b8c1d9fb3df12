/-
  Words for memory, for structs of any number of cells: a slice of structs by the cells that it holds (cs: a struct's cells, n of them), a row of the call's own that holds them. No program is named.
-/
import Derived.Test.YtcnpmbgeafkmlaaWhl
import Derived.Laws.OwnMore
namespace Go.Proofs.Ytcnpmbgeafkmlaa
open Go.ChangeShapes Go.WideShapes Go.ChangeAt Go.RowKit
set_option linter.unusedVariables false

section
universe u
variable {α : Type u} {cs : α → List Value} {n : Nat}
def srs (cs : α → List Value) (l : List α) : List Value := l.flatMap cs
theorem srs_nil : srs cs [] = [] := rfl
theorem srs_cons (a : α) (l : List α) : srs cs (a :: l) = cs a ++ srs cs l := rfl
theorem srs_app (l m : List α) : srs cs (l ++ m) = srs cs l ++ srs cs m := by unfold srs; rw [List.flatMap_append]
theorem srs_one (a : α) : srs cs [a] = cs a := by rw [srs_cons, srs_nil, List.append_nil]
theorem srs_snoc (l : List α) (a : α) : srs cs (l ++ [a]) = srs cs l ++ cs a := by rw [srs_app, srs_one]
theorem srs_len (hn : ∀ a, (cs a).length = n) : ∀ l : List α, (srs cs l).length = l.length * n
  | [] => by simp [srs]
  | a :: l => by rw [srs_cons, List.length_append, srs_len hn l, hn a, List.length_cons, Nat.add_mul]; omega
theorem srs_at (hn : ∀ a, (cs a).length = n) : ∀ (l : List α) (i k : Nat) (h : i < l.length), k < n → (srs cs l)[i * n + k]? = (cs l[i])[k]?
  | a :: l, 0, k, _, hk => by
    rw [srs_cons, Nat.zero_mul, Nat.zero_add, List.getElem?_append_left (by rw [hn]; exact hk)]; rfl
  | a :: l, i + 1, k, h, hk => by
    have e : (i + 1) * n = i * n + n := by rw [Nat.add_mul, Nat.one_mul]
    rw [srs_cons, List.getElem?_append_right (by rw [hn]; omega), hn, show (i + 1) * n + k - n = i * n + k by omega]
    exact srs_at hn l i k (by simpa using h) hk
/-- One cell of one struct of the row turns. -/
theorem srs_set (hn : ∀ a, (cs a).length = n) : ∀ (l : List α) (i k : Nat) (h : i < l.length) (a : α) (u : Value), k < n → cs a = (cs l[i]).set k u → srs cs (l.set i a) = (srs cs l).set (i * n + k) u
  | x :: l, 0, k, _, a, u, hk, e => by
    rw [List.set_cons_zero, srs_cons, srs_cons, Nat.zero_mul, Nat.zero_add, List.set_append_left _ _ (by rw [hn]; exact hk), e]; rfl
  | x :: l, i + 1, k, h, a, u, hk, e => by
    have e1 : (i + 1) * n = i * n + n := by rw [Nat.add_mul, Nat.one_mul]
    rw [List.set_cons_succ, srs_cons, srs_cons, List.set_append_right _ _ (by rw [hn]; omega), hn, show (i + 1) * n + k - n = i * n + k by omega, srs_set hn l i k (by simpa using h) a u hk (by simpa using e)]
/-- The slice at A holds the structs l; it lies in a block from L on and below B. -/
def SrAt (cs : α → List Value) (n : Nat) (w : World) (L B : Nat) (A : Option Addr) (l : List α) : Prop :=
  ∀ i (h : i < l.length), ∃ b off, A = some ⟨b, off, none⟩ ∧ L ≤ b ∧ b < B ∧ ∀ k, k < n → w.cell? ⟨b, off + i * n + k, none⟩ = (cs l[i])[k]?
variable {w w' : World} {L B L' B' C g : Nat} {A : Option Addr} {l : List α}
theorem SrAt.keep (h : SrAt cs n w L B A l) (hk : ∀ b o, L ≤ b → b < B → w'.cell? ⟨b, o, none⟩ = w.cell? ⟨b, o, none⟩) : SrAt cs n w' L B A l := fun i hi => by
  obtain ⟨b, off, e, h1, h2, h3⟩ := h i hi
  exact ⟨b, off, e, h1, h2, fun k hkn => (hk _ _ h1 h2).trans (h3 k hkn)⟩
theorem SrAt.below (h : SrAt cs n w L B A l) (hb : Below C w w') (hB : B ≤ C) : SrAt cs n w' L B A l :=
  h.keep fun b o _ h1 => hb.cell (p := ⟨b, o, none⟩) (show b < C by omega)
theorem SrAt.wider (h : SrAt cs n w L B A l) (hL : L' ≤ L) (hB : B ≤ B') : SrAt cs n w L' B' A l := fun i hi => by
  obtain ⟨b, off, e, h1, h2, h3⟩ := h i hi
  exact ⟨b, off, e, by omega, by omega, h3⟩
theorem SrAt.later (h : SrAt cs n w L w.heap.size A l) (hb : Below w.heap.size w w') : SrAt cs n w' L w'.heap.size A l := (h.below hb (Nat.le_refl _)).wider (Nat.le_refl _) hb.size
theorem SrAt.only (h : SrAt cs n w L B A l) (ho : Only g w w') (hB : B ≤ w.heap.size) (hg : g < L ∨ B ≤ g) : SrAt cs n w' L B A l :=
  h.keep fun b o h1 h2 => ho.cell (by omega) (by omega)
theorem SrAt.setCell (h : SrAt cs n w L B A l) (hg : g < L ∨ B ≤ g) (o : Nat) (u : Value) : SrAt cs n (w.setCell ⟨g, o, none⟩ u) L B A l :=
  h.keep fun b o' h1 h2 => World.cell?_of_block (w := w) (Below.heap_setCell w ⟨g, o, none⟩ u b (by show b ≠ g; omega))
theorem SrAt.drewN (h : SrAt cs n w L B A l) (q : Nat) : SrAt cs n (w.drewN q) L B A l := h
theorem SrAt.nil : SrAt cs n w L B A [] := fun i hi => absurd hi (by simp)
theorem SrAt.take (h : SrAt cs n w L B A l) (k : Nat) : SrAt cs n w L B A (l.take k) := fun i hi => by
  have hi' : i < l.length := by rw [List.length_take] at hi; omega
  obtain ⟨b, off, e, c⟩ := h i hi'
  rw [List.getElem_take]
  exact ⟨b, off, e, c⟩
/-- Out of a row of the call's own. -/
theorem SrAt.own (hn : ∀ a, (cs a).length = n) {base : Nat} {t : TypeId} {m c : Nat} (h : w.ownsRow base t n (.slice A m c) m (srs cs l)) (hm : m = l.length) : SrAt cs n w base w.heap.size A l := by
  subst hm
  rcases h.2 with ⟨hv, h0⟩ | ⟨g, cap, cur, hv, hb, hg, _⟩
  · intro i hi; omega
  · simp only [Value.slice.injEq] at hv
    obtain ⟨rfl, _, rfl⟩ := hv
    intro i hi
    refine ⟨g, 0, rfl, hb, lt_of_block hg, fun k hk => ?_⟩
    have h1 : i * n + k < l.length * n := by
      have : (i + 1) * n ≤ l.length * n := Nat.mul_le_mul_right n hi
      rw [Nat.add_mul, Nat.one_mul] at this
      omega
    rw [Nat.zero_add, h.cellAt (i * n + k) h1, srs_at hn l i k hi hk]
end
/-- A struct's cells in a new block, for append. -/
theorem newCells (w : World) (xs : List Value) (t : TypeId) : ∀ j u, xs[j]? = some u → (w.alloc (.cells xs.toArray t)).cell? ((⟨w.heap.size, 0, none⟩ : Addr).add j) = some u := by
  intro j u hj
  have h : ((⟨w.heap.size, 0, none⟩ : Addr).add j) = ⟨w.heap.size, j, none⟩ := by unfold Addr.add; split <;> simp_all
  rw [h, (Whole.fresh w t _).read]
  simpa using hj
/-- A row of the call's own outlasts calls that leave its block alone. -/
theorem row_keep {w w' : World} {base : Nat} {t : TypeId} {s n : Nat} {v : Value} {xs : List Value} (h : w.ownsRow base t s v n xs) (hk : ∀ g, base ≤ g → g < w.heap.size → w'.heap[g]? = w.heap[g]?) : w'.ownsRow base t s v n xs := by
  refine ⟨h.1, ?_⟩
  rcases h.2 with h1 | ⟨g, cap, cur, h1, h2, h3, h4⟩
  · exact .inl h1
  · exact .inr ⟨g, cap, cur, h1, h2, (hk g h2 (lt_of_block h3)).trans h3, h4⟩
theorem row_from {w w' : World} {base : Nat} {t : TypeId} {s n : Nat} {v : Value} {xs : List Value} (h : w.ownsRow base t s v n xs) (hb : Below w.heap.size w w') : w'.ownsRow base t s v n xs :=
  row_keep h fun g _ h2 => hb.block g h2
theorem row_past {w w' : World} {base B : Nat} {t : TypeId} {s n : Nat} {v : Value} {xs : List Value} (h : w.ownsRow base t s v n xs) (ho : Only B w w') (hB : B < base) : w'.ownsRow base t s v n xs :=
  row_keep h fun g h1 h2 => ho.block g h2 (by omega)
theorem row_first {w : World} {base : Nat} {t : TypeId} {s n m c : Nat} {A : Option Addr} {xs : List Value} (h : w.ownsRow base t s (.slice A n c) m xs) (b off : Nat) (e : A = some ⟨b, off, none⟩) : base ≤ b := by
  rcases h.2 with ⟨hv, _⟩ | ⟨g, cap, cur, hv, h2, _⟩
  · simp only [Value.slice.injEq] at hv
    obtain ⟨rfl, _⟩ := hv; cases e
  · simp only [Value.slice.injEq] at hv
    obtain ⟨rfl, _⟩ := hv
    simp only [Option.some.injEq, Addr.mk.injEq] at e
    omega
theorem row_own {w : World} {base : Nat} {e : TypeId} {size : Nat} {v : Value} {n : Nat} {xs : List Value} (h : w.ownsRow base e size v n xs) : ∀ k, v.ownBlock = some k → base ≤ k := by
  intro k hk
  rcases h.2 with ⟨hv, _⟩ | ⟨g, cap, cur, hv, hg, _⟩
  · subst hv; cases hk
  · subst hv; simp [Value.ownBlock] at hk; omega
end Go.Proofs.Ytcnpmbgeafkmlaa

