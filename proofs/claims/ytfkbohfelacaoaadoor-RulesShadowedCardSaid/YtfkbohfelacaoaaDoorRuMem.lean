/-
  Layer 9: words for memory: a slice of rules (five cells each), by the cells that it holds; a row of rules of the call's own that grows. The type's number is open. No program is named.
-/
import Derived.Test.YtfkbohfelacaoaaDoorRuPlain
import Derived.Test.YtfkbohfelacaoaaDoorWhl
import Derived.Laws.OwnMore
namespace Go.Proofs.YtfkbohfelacaoaaDoor
open Go.ChangeShapes Go.WideShapes Go.ChangeAt Go.RowKit
set_option linter.unusedVariables false

/-- A rule's cells. -/
def rc5 (r : Rul) : List Value := [.string r.st, .int .i64 r.c, .int .i64 r.f, .int .i64 r.l, .int .i64 r.w]
def rcs (l : List Rul) : List Value := l.flatMap rc5
theorem rcs_nil : rcs [] = [] := rfl
theorem rcs_cons (r : Rul) (l : List Rul) : rcs (r :: l) = rc5 r ++ rcs l := rfl
theorem rcs_app (l m : List Rul) : rcs (l ++ m) = rcs l ++ rcs m := by unfold rcs; rw [List.flatMap_append]
theorem rcs_one (r : Rul) : rcs [r] = rc5 r := by rw [rcs_cons, rcs_nil, List.append_nil]
theorem rcs_len : ∀ (l : List Rul), (rcs l).length = l.length * 5
  | [] => rfl
  | r :: l => by rw [rcs_cons, List.length_append, rcs_len l, List.length_cons]; show 5 + _ = _; omega
theorem rcs_at : ∀ (l : List Rul) (i k : Nat) (h : i < l.length), k < 5 → (rcs l)[i * 5 + k]? = (rc5 l[i])[k]?
  | r :: l, 0, k, _, hk => by
    rw [rcs_cons, List.getElem?_append_left (by show 0 * 5 + k < 5; omega), Nat.zero_mul, Nat.zero_add]; rfl
  | r :: l, i + 1, k, h, hk => by
    rw [rcs_cons, List.getElem?_append_right (by show 5 ≤ (i + 1) * 5 + k; omega)]
    show (rcs l)[(i + 1) * 5 + k - 5]? = _
    rw [show (i + 1) * 5 + k - 5 = i * 5 + k by omega]
    exact rcs_at l i k (by simpa using h) hk
/-- The slice at A holds the rules l; it lies below block B. -/
def RuAt (w : World) (B : Nat) (A : Option Addr) (l : List Rul) : Prop :=
  ∀ i (h : i < l.length), ∃ b off, A = some ⟨b, off, none⟩ ∧ b < B ∧ w.cell? ⟨b, off + i * 5, none⟩ = some (.string l[i].st) ∧ w.cell? ⟨b, off + i * 5 + 1, none⟩ = some (.int .i64 l[i].c) ∧ w.cell? ⟨b, off + i * 5 + 2, none⟩ = some (.int .i64 l[i].f) ∧
    w.cell? ⟨b, off + i * 5 + 3, none⟩ = some (.int .i64 l[i].l) ∧ w.cell? ⟨b, off + i * 5 + 4, none⟩ = some (.int .i64 l[i].w)
section
variable {w w' : World} {B B' C : Nat} {A : Option Addr} {l : List Rul}
theorem RuAt.keep (h : RuAt w B A l) (hk : ∀ b o, b < B → w'.cell? ⟨b, o, none⟩ = w.cell? ⟨b, o, none⟩) : RuAt w' B A l := fun i hi => by
  obtain ⟨b, off, e, hb, h0, h1, h2, h3, h4⟩ := h i hi
  exact ⟨b, off, e, hb, (hk _ _ hb).trans h0, (hk _ _ hb).trans h1, (hk _ _ hb).trans h2, (hk _ _ hb).trans h3, (hk _ _ hb).trans h4⟩
theorem RuAt.below (h : RuAt w B A l) (hb : Below C w w') (hB : B ≤ C) : RuAt w' B A l :=
  h.keep fun b o h1 => hb.cell (p := ⟨b, o, none⟩) (show b < C by omega)
theorem RuAt.wider (h : RuAt w B A l) (hB : B ≤ B') : RuAt w B' A l := fun i hi => by
  obtain ⟨b, off, e, hb, r⟩ := h i hi
  exact ⟨b, off, e, by omega, r⟩
theorem RuAt.nil : RuAt w B A [] := fun i hi => absurd hi (by simp)
theorem RuAt.only {g : Nat} {l : List Rul} (h : RuAt w B A l) (ho : Only g w w') (hB : B ≤ w.heap.size) (hg : B ≤ g) : RuAt w' B A l :=
  h.keep fun b o h1 => ho.cell (by omega) (by omega)
/-- Out of a row of the call's own. -/
theorem RuAt.own {base : Nat} {t : TypeId} {n c : Nat} (h : w.ownsRow base t 5 (.slice A n c) n (rcs l)) (hn : n = l.length) : RuAt w w.heap.size A l := by
  subst hn
  rcases h.2 with ⟨hv, h0⟩ | ⟨g, cap, cur, hv, _, hg, _⟩
  · intro i hi; omega
  · simp only [Value.slice.injEq] at hv
    obtain ⟨rfl, _, rfl⟩ := hv
    intro i hi
    have key : ∀ k, k < 5 → w.cell? ⟨g, i * 5 + k, none⟩ = (rc5 l[i])[k]? := fun k hk => by
      rw [h.cellAt (i * 5 + k) (by omega), rcs_at l i k hi hk]
    exact ⟨g, 0, rfl, lt_of_block hg, by rw [Nat.zero_add]; exact key 0 (by omega), by rw [Nat.zero_add]; exact key 1 (by omega), by rw [Nat.zero_add]; exact key 2 (by omega), by rw [Nat.zero_add]; exact key 3 (by omega), by rw [Nat.zero_add]; exact key 4 (by omega)⟩
end
/-- A rule in a new block of its own, for append. -/
theorem newRule (w : World) (r : Rul) (t : TypeId) : ∀ j u, (rc5 r)[j]? = some u → (w.alloc (.cells #[.string r.st, .int .i64 r.c, .int .i64 r.f, .int .i64 r.l, .int .i64 r.w] t)).cell? ((⟨w.heap.size, 0, none⟩ : Addr).add j) = some u := by
  intro j u hj
  have h : ((⟨w.heap.size, 0, none⟩ : Addr).add j) = ⟨w.heap.size, j, none⟩ := by unfold Addr.add; split <;> simp_all
  rw [h, (Whole.fresh w t _).read]
  unfold rc5 at hj
  simpa using hj
theorem ruleOne (r : Rul) : ∀ u ∈ rc5 r, u.oneCell' = true := by
  intro u hu
  simp only [rc5, List.mem_cons, List.not_mem_nil, or_false] at hu
  rcases hu with rfl | rfl | rfl | rfl | rfl <;> rfl
/-- The rules l in a row of the call's own, in a block from base on; nothing below base has turned since W0. -/
def RuBuf (W0 : World) (base : Nat) (t : TypeId) (l : List Rul) (v : Value) (w : World) : Prop := w.ownsRow base t 5 v l.length (rcs l) ∧ Below base W0 w ∧ base ≤ w.heap.size
theorem RuBuf.nil (w : World) (t : TypeId) : RuBuf w w.heap.size t [] (.slice none 0 0) w := ⟨⟨rfl, .inl ⟨rfl, rfl⟩⟩, Below.refl _ _, Nat.le_refl _⟩
theorem RuBuf.later {W0 w w' : World} {base : Nat} {t : TypeId} {l : List Rul} {v : Value} (h : RuBuf W0 base t l v w) (hb : Below w.heap.size w w') : RuBuf W0 base t l v w' := by
  refine ⟨⟨h.1.1, ?_⟩, h.2.1.trans (hb.mono h.2.2), Nat.le_trans h.2.2 hb.size⟩
  rcases h.1.2 with h1 | ⟨g, cap, cur, h1, h2, h3, h4⟩
  · exact .inl h1
  · exact .inr ⟨g, cap, cur, h1, h2, (hb.block g (lt_of_block h3)).trans h3, h4⟩
theorem RuBuf.only {W0 w w' : World} {base B : Nat} {t : TypeId} {l : List Rul} {v : Value} (h : RuBuf W0 base t l v w) (ho : Only B w w') (hB : B < base) (h0 : Below base W0 w') : RuBuf W0 base t l v w' := by
  refine ⟨⟨h.1.1, ?_⟩, h0, Nat.le_trans h.2.2 ho.size⟩
  rcases h.1.2 with h1 | ⟨g, cap, cur, h1, h2, h3, h4⟩
  · exact .inl h1
  · exact .inr ⟨g, cap, cur, h1, h2, (ho.block g (lt_of_block h3) (by omega)).trans h3, h4⟩
theorem own_block5 {w : World} {base : Nat} {e : TypeId} {size : Nat} {v : Value} {n : Nat} {xs : List Value} (h : w.ownsRow base e size v n xs) : ∀ k, v.ownBlock = some k → base ≤ k := by
  intro k hk
  rcases h.2 with ⟨hv, _⟩ | ⟨g, cap, cur, hv, hg, _⟩
  · subst hv; cases hk
  · subst hv; simp [Value.ownBlock] at hk; omega
theorem RuBuf.grown {W0 w w' : World} {base : Nat} {t : TypeId} {l : List Rul} {r : Rul} {v v' : Value} {o : Obj} (h : RuBuf W0 base t l v w) (ho : w'.ownsRow base t 5 v' (l.length + 1) (rcs l ++ rc5 r)) (hg : (w.alloc o).grownBy w' v.ownBlock) : RuBuf W0 base t (l ++ [r]) v' w' := by
  refine ⟨?_, (h.2.1.alloc h.2.2 o).grown hg (by have := h.2.2; simp; omega) (own_block5 h.1), ?_⟩
  · rw [List.length_append, rcs_app, rcs_one]; exact ho
  · have := hg.size; simp at this; have := h.2.2; omega
end Go.Proofs.YtfkbohfelacaoaaDoor

