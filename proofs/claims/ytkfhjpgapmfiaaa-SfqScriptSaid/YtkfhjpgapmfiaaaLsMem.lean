/-
  Slices of tags that are never written: a slice value that holds a list (LsV), parts of it, appends of whole lists to a row of the call's own. No call and no program is named.
-/
import Derived.Test.YtkfhjpgapmfiaaaTgMem
import Derived.Test.YtkfhjpgapmfiaaaChg
import Derived.Deep.AppendSrc
namespace Go.Proofs.Ytkfhjpgapmfiaaa
open Go.ChangeShapes Go.WideShapes Go.ChangeAt Go.RowKit
set_option linter.unusedVariables false

/-- The value v is a slice that holds the tags l; its block (if any) holds tags alone and is of the set T. -/
def LsV (w : World) (T : Nat → Prop) (v : Value) (l : List Tg) : Prop :=
  ∃ A c, v = .slice A l.length c ∧ l.length ≤ c ∧ c ≤ maxLen ∧ ((A = none ∧ c = 0) ∨ ∃ b off cur, A = some ⟨b, off, none⟩ ∧ T b ∧ w.heap[b]? = some (.cells cur 52 (0, 0)) ∧
    ∀ i (h : i < l.length) k, k < 3 → w.cell? ⟨b, off + i * 3 + k, none⟩ = (csT l[i])[k]?)
section
variable {w w' : World} {T T' : Nat → Prop} {v : Value} {l : List Tg}
theorem LsV.shape (h : LsV w T v l) : ∃ A c, v = .slice A l.length c ∧ l.length ≤ c ∧ c ≤ maxLen := by
  obtain ⟨A, c, h1, h2, h3, _⟩ := h; exact ⟨A, c, h1, h2, h3⟩
theorem LsV.keep (h : LsV w T v l) (hk : ∀ b, T b → w'.heap[b]? = w.heap[b]?) : LsV w' T v l := by
  obtain ⟨A, c, h1, h2, h3, h4⟩ := h
  refine ⟨A, c, h1, h2, h3, h4.imp id ?_⟩
  rintro ⟨b, off, cur, e1, e2, e3, e4⟩
  exact ⟨b, off, cur, e1, e2, (hk b e2).trans e3, fun i hi k hk2 => (World.cell?_of_block (w := w) (hk b e2)).trans (e4 i hi k hk2)⟩
theorem LsV.wider (h : LsV w T v l) (hT : ∀ b, T b → T' b) : LsV w T' v l := by
  obtain ⟨A, c, h1, h2, h3, h4⟩ := h
  refine ⟨A, c, h1, h2, h3, h4.imp id ?_⟩
  rintro ⟨b, off, cur, e1, e2, e3⟩
  exact ⟨b, off, cur, e1, hT b e2, e3⟩
theorem LsV.nil (w : World) (T : Nat → Prop) : LsV w T (.slice none 0 0) [] := ⟨none, 0, rfl, Nat.le_refl _, Nat.zero_le _, .inl ⟨rfl, rfl⟩⟩
/-- A row of the call's own. -/
theorem LsV.own {base : Nat} {n : Nat} (h : w.ownsRow base 52 3 v n (srs csT l)) (hn : n = l.length) (hT : ∀ b, base ≤ b → b < w.heap.size → T b) : LsV w T v l := by
  subst hn
  rcases h.2 with ⟨rfl, h0⟩ | ⟨g, cap, cur, rfl, k2, k3, k4, k5, k6, k7⟩
  · have e : l = [] := List.eq_nil_of_length_eq_zero h0
    subst e; exact LsV.nil w T
  · refine ⟨_, cap, rfl, k4, k5, .inr ⟨g, 0, cur, rfl, hT g k2 (lt_of_block k3), k3, fun i hi k hk => ?_⟩⟩
    have h1 : i * 3 + k < l.length * 3 := by omega
    rw [Nat.zero_add, h.cellAt (i * 3 + k) h1, srs_at csT_len l i k hi hk]
/-- A tag that the slice holds. -/
theorem LsV.tg (h : LsV w T v l) {k : Nat} (hk : k < l.length) :
    ∃ b off c, v = .slice (some ⟨b, off, none⟩) l.length c ∧ l.length ≤ c ∧ T b ∧ b < w.heap.size ∧ (∃ cur, w.heap[b]? = some (.cells cur 52 (0, 0))) ∧
      w.cell? ⟨b, off + k * 3, none⟩ = some (.int .i64 l[k].f) ∧ w.cell? ⟨b, off + k * 3 + 1, none⟩ = some (.int .i64 l[k].w) ∧ w.cell? ⟨b, off + k * 3 + 2, none⟩ = some (.int .i64 l[k].s) := by
  obtain ⟨A, c, h1, h2, h3, h4⟩ := h
  rcases h4 with ⟨_, h5⟩ | ⟨b, off, cur, rfl, e2, e3, e4⟩
  · omega
  · exact ⟨b, off, c, h1, h2, e2, lt_of_block e3, ⟨cur, e3⟩, e4 k hk 0 (by omega), e4 k hk 1 (by omega), e4 k hk 2 (by omega)⟩
theorem LsV.at_ (h : LsV w T v l) {A : Option Addr} {n c : Nat} (e : v = .slice A n c) : SrAt csT 3 w 0 w.heap.size A l := by
  intro i hi
  obtain ⟨A', c', h1, h2, h3, h4⟩ := h
  rw [h1] at e
  simp only [Value.slice.injEq] at e
  obtain ⟨rfl, _, _⟩ := e
  rcases h4 with ⟨_, h5⟩ | ⟨b, off, cur, rfl, e2, e3, e4⟩
  · omega
  · exact ⟨b, off, rfl, Nat.zero_le _, lt_of_block e3, fun k hk => e4 i hi k hk⟩
/-- The first i tags. -/
theorem LsV.take (h : LsV w T v l) {i : Nat} (hi : i ≤ l.length) : ∃ A c, v = .slice A l.length c ∧ i ≤ c ∧ LsV w T (.slice A i c) (l.take i) := by
  obtain ⟨A, c, h1, h2, h3, h4⟩ := h
  refine ⟨A, c, h1, by omega, A, c, by rw [List.length_take]; congr 1; omega, by rw [List.length_take]; omega, h3, h4.imp id ?_⟩
  rintro ⟨b, off, cur, e1, e2, e3, e4⟩
  refine ⟨b, off, cur, e1, e2, e3, fun j hj k hk => ?_⟩
  rw [List.getElem_take]
  exact e4 j (by rw [List.length_take] at hj; omega) k hk
/-- What a slice from i on is: at its capacity's end the address stays. -/
def dropV (v : Value) (i : Nat) : Value :=
  match v with
  | .slice (some a) n c => if i = c then .slice (some a) 0 0 else .slice (some (a.add (i * 3))) (n - i) (c - i)
  | .slice none n c => .slice none 0 0
  | u => u
theorem LsV.drop (h : LsV w T v l) {i : Nat} (hi : i ≤ l.length) : LsV w T (dropV v i) (l.drop i) := by
  obtain ⟨A, c, rfl, h2, h3, h4⟩ := h
  rcases h4 with ⟨rfl, rfl⟩ | ⟨b, off, cur, rfl, e2, e3, e4⟩
  · obtain rfl : l = [] := List.eq_nil_of_length_eq_zero (by omega)
    exact ⟨none, 0, by simp [dropV], by simp, Nat.zero_le _, .inl ⟨rfl, rfl⟩⟩
  · unfold dropV
    by_cases hc : i = c
    · have e0 : l.drop i = [] := List.drop_of_length_le (by omega)
      simp only [if_pos hc]
      rw [e0]
      exact ⟨_, 0, rfl, Nat.zero_le _, Nat.zero_le _, .inr ⟨b, off, cur, rfl, e2, e3, fun j hj => absurd hj (by simp)⟩⟩
    · simp only [if_neg hc]
      refine ⟨_, _, by rw [List.length_drop], by rw [List.length_drop]; omega, by omega, .inr ⟨b, off + i * 3, cur, by rw [Addr.add_lit], e2, e3, fun j hj k hk => ?_⟩⟩
      rw [List.getElem_drop]
      have hj' : i + j < l.length := by rw [List.length_drop] at hj; omega
      have := e4 (i + j) hj' k hk
      rw [show off + i * 3 + j * 3 + k = off + (i + j) * 3 + k by omega]
      exact this
end
/-- append of a whole list: the row is the call's own. -/
theorem run_append_list {P : Program} {w : World} (TY ty : TypeId) {C n : Nat} {v u : Value} {l M : List Tg} {T : Nat → Prop} (h1 : P.underlying TY = some (.slice 52))
    (hinf : (P.info? 52).map (fun i => (i.zero, i.size, i.bytes)) = some (some (.agg #[.int .i64 0, .int .i64 0, .int .i64 0]), 3, 24))
    (h : w.ownsRow C 52 3 v n (srs csT l)) (hu : LsV w T u M) (hn : n ≤ 100000) (hm : M.length ≤ 100000) (hC : C ≤ w.heap.size) :
    ∃ v' w', (Builtin.append_ #[TY, TY] ty #[v, u]).run P w = .ok v' w' ∧ w'.ownsRow C 52 3 v' (n + M.length) (srs csT (l ++ M)) ∧ w.grownBy w' v.ownBlock := by
  obtain ⟨i0, hii, hz0, hz1, hz2⟩ := info_parts hinf
  obtain ⟨A, c, rfl, g2, g3, g4⟩ := hu
  rcases g4 with ⟨rfl, rfl⟩ | ⟨b, off, cur, rfl, e2, e3, e4⟩
  · obtain rfl : M = [] := List.eq_nil_of_length_eq_zero (by omega)
    refine ⟨v, w, run_append_owned_none w C TY ty _ i0 3 h1 hii v n _ h, by simpa using h, World.grownBy.refl _ _⟩
  · obtain ⟨v', w', hrun, hv, hg, _⟩ := run_append_own (P := P) w C TY ty _ i0 _ 3 24 h1 hii hz0 hz1 hz2 rfl (by decide) v n _ h ⟨b, off, none⟩ M.length c (srs csT M) (srs_len csT_len M)
      (fun j x hj => by
        have hjl : j < M.length * 3 := by
          rcases Nat.lt_or_ge j (M.length * 3) with h' | h'
          · exact h'
          · rw [List.getElem?_eq_none (by rw [srs_len csT_len]; exact h')] at hj; cases hj
        have hq : j = j / 3 * 3 + j % 3 := by omega
        have h3 := e4 (j / 3) (by omega) (j % 3) (by omega)
        rw [hq, srs_at csT_len M (j / 3) (j % 3) (by omega) (by omega), ← h3] at hj
        rw [Addr.add_lit, ← hj]; congr 2; omega)
      (fun x hx => by
        unfold srs at hx
        rw [List.mem_flatMap] at hx
        obtain ⟨t, _, ht⟩ := hx
        exact csT_one t x ht)
      (by unfold maxLen; omega) (by omega) hC
    exact ⟨v', w', hrun, by rw [srs_app]; exact hv, hg⟩
end Go.Proofs.Ytkfhjpgapmfiaaa

