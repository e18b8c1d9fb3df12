/-
  Rows of structs of any size that the call owns: appends of ONE struct, a cell of a struct written; no call and no program is named.
-/
import Derived.Test.YtcnpmbgeafkmlaaSrMem
import Derived.Test.YtcnpmbgeafkmlaaChg
import Derived.ArgAppend
import Derived.OwnWalk
import Derived.Laws.OwnMore
namespace Go.Proofs.Ytcnpmbgeafkmlaa
open Go.ChangeShapes Go.WideShapes Go.ChangeAt Go.RowKit
set_option linter.unusedVariables false

/-! ### rows of the call's own -/
section
variable {w w' : World} {base base' : Nat} {t : TypeId} {s n : Nat} {v : Value} {xs : List Value}
theorem owk (h : w.ownsRow base t s v n xs) (hk : ∀ k, v.ownBlock = some k → w'.heap[k]? = w.heap[k]?) : w'.ownsRow base t s v n xs := by
  refine ⟨h.1, ?_⟩
  rcases h.2 with h2 | ⟨g, cap, cur, hv, hg, hh, r⟩
  · exact .inl h2
  · exact .inr ⟨g, cap, cur, hv, hg, (hk g (by rw [hv]; rfl)).trans hh, r⟩
theorem oww (h : w.ownsRow base t s v n xs) (hC : base' ≤ base) : w.ownsRow base' t s v n xs := by
  refine ⟨h.1, ?_⟩
  rcases h.2 with h2 | ⟨g, cap, cur, hv, hg, r⟩
  · exact .inl h2
  · exact .inr ⟨g, cap, cur, hv, by omega, r⟩
theorem ow_type (h : w.ownsRow base t s v n xs) {k : Nat} (e : v.ownBlock = some k) : ∃ cur, w.heap[k]? = some (.cells cur t (0, 0)) := by
  rcases h.2 with ⟨h2, _⟩ | ⟨g, cap, cur, hv, hg, hh, r⟩
  · subst h2; cases e
  · subst hv; obtain rfl : g = k := by simpa [Value.ownBlock] using e
    exact ⟨cur, hh⟩
theorem ow_shape (h : w.ownsRow base t s v n xs) : ∃ A c, v = .slice A n c := by
  rcases h.2 with ⟨h2, h3⟩ | ⟨g, cap, cur, hv, _⟩
  · subst h3; exact ⟨none, 0, h2⟩
  · exact ⟨_, _, hv⟩
theorem ow_at (h : w.ownsRow base t s v n xs) (hn : 0 < n) : ∃ g c, v = .slice (some ⟨g, 0, none⟩) n c ∧ base ≤ g ∧ g < w.heap.size := by
  rcases h.2 with ⟨h2, h3⟩ | ⟨g, cap, cur, hv, hg, hh, _⟩
  · omega
  · exact ⟨_, _, hv, hg, lt_of_block hh⟩
end
/-- append of one struct: the row is the old one, or new. -/
theorem run_append_one {P : Program} {w : World} (T ty : TypeId) {C n size bytes : Nat} {e : TypeId} {z : Value} {v : Value} {xs news : List Value} (h1 : P.underlying T = some (.slice e)) (hinf : (P.info? e).map (fun i => (i.zero, i.size, i.bytes)) = some (some z, size, bytes)) (hzc : z.cells.size = size) (hsz : 0 < size)
    (h : w.ownsRow C e size v n xs) (ad : Addr) (hnl : news.length = size) (hc : ∀ j u, news[j]? = some u → w.cell? (ad.add j) = some u) (hone : ∀ u ∈ news, u.oneCell' = true) (hn : n ≤ 100000) (hby : bytes ≤ 1000) (hC : C ≤ w.heap.size) :
    ∃ v' w', (Builtin.append_ #[T, T] ty #[v, .slice (some ad) 1 1]).run P w = .ok v' w' ∧ w'.ownsRow C e size v' (n + 1) (xs ++ news) ∧ w.grownBy w' v.ownBlock ∧ (v'.ownBlock = v.ownBlock ∨ ∃ g, v'.ownBlock = some g ∧ w.heap.size ≤ g) := by
  obtain ⟨i0, hii, hz0, hz1, hz2⟩ := info_parts hinf
  have hb2 : (n + 1) * bytes ≤ 140737488355328 := by
    have : (n + 1) * bytes ≤ 100001 * 1000 := Nat.mul_le_mul (by omega) hby
    omega
  have fresh : ∀ (v' : Value) (w' : World), w'.ownsRow w.heap.size e size v' (n + 1) (xs ++ news) → w'.ownsRow C e size v' (n + 1) (xs ++ news) ∧ ∃ g, v'.ownBlock = some g ∧ w.heap.size ≤ g := by
    intro v' w' hv
    obtain ⟨g, c, rfl, hg, _⟩ := ow_at hv (by omega)
    exact ⟨oww hv hC, g, rfl, hg⟩
  have hown := h
  rcases h.2 with ⟨rfl, rfl⟩ | ⟨g, c, cur, rfl, k1, k2, k3, k4, k5, k6⟩
  · have ex : xs = [] := List.eq_nil_of_length_eq_zero (by simpa using h.1)
    subst ex
    obtain ⟨v', w', hrun, hv, hg, _⟩ := run_append_own (P := P) w w.heap.size T ty e i0 z size bytes h1 hii hz0 hz1 hz2 hzc hsz _ 0 [] (World.ownsRow_nil _ _ _ _) ad 1 1 news (by rw [hnl]; omega) hc hone (by unfold maxLen; omega) hb2 (Nat.le_refl _)
    obtain ⟨f1, f2⟩ := fresh v' w' hv
    exact ⟨v', w', hrun, f1, hg, .inr f2⟩
  · by_cases hr : n + 1 ≤ c
    · obtain ⟨w', hrun, r1, r2⟩ := run_append_fits (P := P) w C T ty e i0 size h1 hii hz1 g n c xs hown ad 1 1 news (by rw [hnl]; omega) hc hone hr
      exact ⟨_, w', hrun, r1, r2, .inl rfl⟩
    · obtain ⟨v', w', hrun, r1, r2⟩ := run_append_arg_grows (P := P) w T ty e i0 z size bytes h1 hii hz0 hz1 hz2 hzc hsz ⟨g, 0, none⟩ n c xs h.1 (fun j u hj => by
        have hjl : j < n * size := by
          rcases Nat.lt_or_ge j (n * size) with h' | h'
          · exact h'
          · rw [List.getElem?_eq_none (by rw [h.1]; exact h')] at hj; cases hj
        rw [Addr.add_lit, Nat.zero_add, World.ownsRow.cellAt hown j hjl]; exact hj) ad 1 1 news (by rw [hnl]; omega) hc (by omega) (by unfold maxLen; omega) hb2
      obtain ⟨f1, f2⟩ := fresh v' w' r1
      exact ⟨v', w', hrun, f1, ⟨r2.os, r2.tape, r2.output, r2.size, fun k hk _ => r2.block k hk (by simp)⟩, .inr f2⟩
/-- The same at the operation, wherever it stands. -/
theorem wp_append_one {P : Program} {w : World} {o : Oper} {a : Act} {K : Act → World → Prop} {Q : Exit → Act → World → Prop} (s x : Operand) (T : TypeId)
    (ho : o.op = .call { callee := .builtin .append, args := #[s, x], argTypes := #[T, T] }) {v v' u : Value} {w' : World} (hs : a.eval s = v) (hx : a.eval x = u)
    (hrun : (Builtin.append_ #[T, T] o.type #[v, u]).run P w = .ok v' w') (h : K (a.put o.dst v') w') : o.wp P a w K Q := by
  unfold Oper.wp
  simp [execOp, ho, resolve, invoke, builtin, hs, hx, hrun, Result.andThen]
  exact h
theorem wpList_append_one {P : Program} {w : World} {ops : Array Oper} {rest : List Oper} {o : Oper} {a : Act} {Q : Exit → Act → World → Prop} (hgd : o.guard = none) (s x : Operand) (T : TypeId)
    (ho : o.op = .call { callee := .builtin .append, args := #[s, x], argTypes := #[T, T] })
    {C n size bytes : Nat} {e : TypeId} {z : Value} {v : Value} {xs news : List Value} (h1 : P.underlying T = some (.slice e)) (hinf : (P.info? e).map (fun i => (i.zero, i.size, i.bytes)) = some (some z, size, bytes)) (hzc : z.cells.size = size) (hsz : 0 < size)
    (h : w.ownsRow C e size v n xs) (hs : a.eval s = v) (ad : Addr) (hx : a.eval x = .slice (some ad) 1 1) (hnl : news.length = size)
    (hc : ∀ j u, news[j]? = some u → w.cell? (ad.add j) = some u) (hone : ∀ u ∈ news, u.oneCell' = true) (hn : n ≤ 100000) (hby : bytes ≤ 1000) (hC : C ≤ w.heap.size)
    (K : ∀ (v' : Value) (w' : World), w'.ownsRow C e size v' (n + 1) (xs ++ news) → w.grownBy w' v.ownBlock → (v'.ownBlock = v.ownBlock ∨ ∃ g, v'.ownBlock = some g ∧ w.heap.size ≤ g) → wpList P ops Q rest (a.put o.dst v') w') :
    wpList P ops Q (o :: rest) a w := by
  refine wpList_plain hgd fun K' hK' => ?_
  obtain ⟨v', w', hrun, r1, r2, r3⟩ := run_append_one (P := P) T o.type h1 hinf hzc hsz h ad hnl hc hone hn hby hC
  unfold Oper.wp
  simp [execOp, ho, resolve, invoke, builtin, hs, hx, hrun, Result.andThen]
  exact hK' _ _ (K _ _ r1 r2 r3)

/-- An append whose run is known, at the operation. -/
theorem wpList_append_run {P : Program} {w : World} {ops : Array Oper} {rest : List Oper} {o : Oper} {a : Act} {Q : Exit → Act → World → Prop} (hgd : o.guard = none) (s x : Operand) (T : TypeId)
    (ho : o.op = .call { callee := .builtin .append, args := #[s, x], argTypes := #[T, T] }) {v v' u : Value} {w' : World} (hs : a.eval s = v) (hx : a.eval x = u)
    (hrun : (Builtin.append_ #[T, T] o.type #[v, u]).run P w = .ok v' w') (h : wpList P ops Q rest (a.put o.dst v') w') : wpList P ops Q (o :: rest) a w := by
  refine wpList_plain hgd fun K' hK' => ?_
  unfold Oper.wp
  simp [execOp, ho, resolve, invoke, builtin, hs, hx, hrun, Result.andThen]
  exact hK' _ _ h
section
universe u
variable {α : Type u} {cs : α → List Value} {n : Nat}
/-- One cell of one struct of a row is written. -/
theorem row_cell {w : World} {C g m c i k : Nat} {t : TypeId} {L : List α} (hn : ∀ a, (cs a).length = n) (h : w.ownsRow C t n (.slice (some ⟨g, 0, none⟩) m c) m (srs cs L)) (hi : i < L.length) (a : α) (u : Value) (hk : k < n) (e : cs a = (cs L[i]).set k u) :
    (w.setCell ⟨g, i * n + k, none⟩ u).ownsRow C t n (.slice (some ⟨g, 0, none⟩) m c) m (srs cs (L.set i a)) := by
  rw [srs_set hn L i k hi a u hk e]; exact (h.stored _ u).1
end
theorem own_ne {w w1 : World} {v v' : Value} {base k : Nat} {ty : TypeId} {s n : Nat} {v : Value} {xs : List Value} {b : Nat} (h : w.ownsRow base ty s v n xs) (hb : b < w.heap.size) (hv : v'.ownBlock = v.ownBlock ∨ ∃ g, v'.ownBlock = some g ∧ w1.heap.size ≤ g) (hs : w.heap.size ≤ w1.heap.size) (hn : v.ownBlock ≠ some b) : v'.ownBlock ≠ some b := by
  rcases hv with e | ⟨g, e, h1⟩
  · rw [e]; exact hn
  · rw [e]; intro e2; have : g = b := by simpa using e2
    omega
theorem below_grew {B : Nat} {a w w' : World} {row : Option Nat} (h : Below B a w) (hB : B ≤ a.heap.size) (hg : w.grownBy w' row) (hr : ∀ k, row = some k → B ≤ k) : Below B a w' :=
  h.trans ⟨hg.os, hg.tape, hg.output, hg.size, fun k hk => hg.block k (by have := h.size; omega) (fun e => by have := hr k e.symm; omega)⟩
end Go.Proofs.Ytcnpmbgeafkmlaa

