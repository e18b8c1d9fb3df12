/-
  Slices of any elements that are never written: a slice value that holds a list (LsG), parts of it, appends of whole lists to a row of the call's own. No call and no program is named. (LsMem is the same for tags.)
-/
import Derived.Test.YtcnpmbgeafkmlaaSrApp
import Derived.Deep.AppendSrc
namespace Go.Proofs.Ytcnpmbgeafkmlaa
open Go.ChangeShapes Go.WideShapes Go.ChangeAt Go.RowKit
set_option linter.unusedVariables false

section
universe u
variable {α : Type u} {cs : α → List Value} {m : Nat} {t : TypeId} {w w' : World} {T T' : Nat → Prop} {v : Value} {l : List α}
/-- The value v is a slice that holds the list l; its block (if any) holds such elements alone and is of the set T. -/
def LsG (cs : α → List Value) (m : Nat) (t : TypeId) (w : World) (T : Nat → Prop) (v : Value) (l : List α) : Prop :=
  ∃ A c, v = .slice A l.length c ∧ l.length ≤ c ∧ c ≤ maxLen ∧ ((A = none ∧ c = 0) ∨ ∃ b off cur, A = some ⟨b, off, none⟩ ∧ T b ∧ w.heap[b]? = some (.cells cur t (0, 0)) ∧
    ∀ i (h : i < l.length) k, k < m → w.cell? ⟨b, off + i * m + k, none⟩ = (cs l[i])[k]?)
theorem LsG.shape (h : LsG cs m t w T v l) : ∃ A c, v = .slice A l.length c ∧ l.length ≤ c ∧ c ≤ maxLen := by
  obtain ⟨A, c, h1, h2, h3, _⟩ := h; exact ⟨A, c, h1, h2, h3⟩
theorem LsG.keep (h : LsG cs m t w T v l) (hk : ∀ b, T b → w'.heap[b]? = w.heap[b]?) : LsG cs m t w' T v l := by
  obtain ⟨A, c, h1, h2, h3, h4⟩ := h
  refine ⟨A, c, h1, h2, h3, h4.imp id ?_⟩
  rintro ⟨b, off, cur, e1, e2, e3, e4⟩
  exact ⟨b, off, cur, e1, e2, (hk b e2).trans e3, fun i hi k hk2 => (World.cell?_of_block (w := w) (hk b e2)).trans (e4 i hi k hk2)⟩
theorem LsG.wider (h : LsG cs m t w T v l) (hT : ∀ b, T b → T' b) : LsG cs m t w T' v l := by
  obtain ⟨A, c, h1, h2, h3, h4⟩ := h
  refine ⟨A, c, h1, h2, h3, h4.imp id ?_⟩
  rintro ⟨b, off, cur, e1, e2, e3⟩
  exact ⟨b, off, cur, e1, hT b e2, e3⟩
/-- The block is there and is of the elements' type: another type's block is another block. -/
theorem LsG.typed (h : LsG cs m t w T v l) (hT : ∀ b, T b → ∀ cur, w.heap[b]? = some (.cells cur t (0, 0)) → T' b) : LsG cs m t w T' v l := by
  obtain ⟨A, c, h1, h2, h3, h4⟩ := h
  refine ⟨A, c, h1, h2, h3, h4.imp id ?_⟩
  rintro ⟨b, off, cur, e1, e2, e3, e4⟩
  exact ⟨b, off, cur, e1, hT b e2 cur e3, e3, e4⟩
theorem LsG.nil (w : World) (T : Nat → Prop) : LsG cs m t w T (.slice none 0 0) [] := ⟨none, 0, rfl, Nat.le_refl _, Nat.zero_le _, .inl ⟨rfl, rfl⟩⟩
theorem idx_lt {i k m n : Nat} (hi : i < n) (hk : k < m) : i * m + k < n * m := by
  have := Nat.mul_le_mul_right m (show i + 1 ≤ n by omega)
  rw [Nat.add_mul, Nat.one_mul] at this
  omega
/-- A row of the call's own. -/
theorem LsG.own {base n : Nat} (hn : ∀ a, (cs a).length = m) (h : w.ownsRow base t m v n (srs cs l)) (hl : n = l.length) (hT : ∀ b, base ≤ b → b < w.heap.size → T b) : LsG cs m t w T v l := by
  subst hl
  rcases h.2 with ⟨rfl, h0⟩ | ⟨g, cap, cur, rfl, k2, k3, k4, k5, k6, k7⟩
  · have e : l = [] := List.eq_nil_of_length_eq_zero h0
    subst e; exact LsG.nil w T
  · refine ⟨_, cap, rfl, k4, k5, .inr ⟨g, 0, cur, rfl, hT g k2 (lt_of_block k3), k3, fun i hi k hk => ?_⟩⟩
    rw [Nat.zero_add, h.cellAt (i * m + k) (idx_lt hi hk), srs_at hn l i k hi hk]
/-- Element k of the slice: its block and its cells. -/
theorem LsG.el (h : LsG cs m t w T v l) {k : Nat} (hk : k < l.length) :
    ∃ b off c, v = .slice (some ⟨b, off, none⟩) l.length c ∧ l.length ≤ c ∧ T b ∧ b < w.heap.size ∧ (∃ cur, w.heap[b]? = some (.cells cur t (0, 0))) ∧
      ∀ i (hi : i < l.length) j, j < m → w.cell? ⟨b, off + i * m + j, none⟩ = (cs l[i])[j]? := by
  obtain ⟨A, c, h1, h2, h3, h4⟩ := h
  rcases h4 with ⟨_, h5⟩ | ⟨b, off, cur, rfl, e2, e3, e4⟩
  · omega
  · exact ⟨b, off, c, h1, h2, e2, lt_of_block e3, ⟨cur, e3⟩, e4⟩
theorem LsG.at_ (h : LsG cs m t w T v l) {A : Option Addr} {n c : Nat} (e : v = .slice A n c) : SrAt cs m w 0 w.heap.size A l := by
  intro i hi
  obtain ⟨A', c', h1, h2, h3, h4⟩ := h
  rw [h1] at e
  simp only [Value.slice.injEq] at e
  obtain ⟨rfl, _, _⟩ := e
  rcases h4 with ⟨_, h5⟩ | ⟨b, off, cur, rfl, e2, e3, e4⟩
  · omega
  · exact ⟨b, off, rfl, Nat.zero_le _, lt_of_block e3, fun k hk => e4 i hi k hk⟩
/-- The first i elements. -/
theorem LsG.take (h : LsG cs m t w T v l) {i : Nat} (hi : i ≤ l.length) : ∃ A c, v = .slice A l.length c ∧ i ≤ c ∧ LsG cs m t w T (.slice A i c) (l.take i) := by
  obtain ⟨A, c, h1, h2, h3, h4⟩ := h
  refine ⟨A, c, h1, by omega, A, c, by rw [List.length_take]; congr 1; omega, by rw [List.length_take]; omega, h3, h4.imp id ?_⟩
  rintro ⟨b, off, cur, e1, e2, e3, e4⟩
  refine ⟨b, off, cur, e1, e2, e3, fun j hj k hk => ?_⟩
  rw [List.getElem_take]
  exact e4 j (by rw [List.length_take] at hj; omega) k hk
/-- What a slice from i on is: at its capacity's end the address stays. -/
def dropG (m : Nat) (v : Value) (i : Nat) : Value :=
  match v with
  | .slice (some a) n c => if i = c then .slice (some a) 0 0 else .slice (some (a.add (i * m))) (n - i) (c - i)
  | .slice none n c => .slice none 0 0
  | u => u
theorem LsG.drop (h : LsG cs m t w T v l) {i : Nat} (hi : i ≤ l.length) : LsG cs m t w T (dropG m v i) (l.drop i) := by
  obtain ⟨A, c, rfl, h2, h3, h4⟩ := h
  rcases h4 with ⟨rfl, rfl⟩ | ⟨b, off, cur, rfl, e2, e3, e4⟩
  · obtain rfl : l = [] := List.eq_nil_of_length_eq_zero (by omega)
    exact ⟨none, 0, by simp [dropG], by simp, Nat.zero_le _, .inl ⟨rfl, rfl⟩⟩
  · unfold dropG
    by_cases hc : i = c
    · have e0 : l.drop i = [] := List.drop_of_length_le (by omega)
      simp only [if_pos hc]
      rw [e0]
      exact ⟨_, 0, rfl, Nat.zero_le _, Nat.zero_le _, .inr ⟨b, off, cur, rfl, e2, e3, fun j hj => absurd hj (by simp)⟩⟩
    · simp only [if_neg hc]
      refine ⟨_, _, by rw [List.length_drop], by rw [List.length_drop]; omega, by omega, .inr ⟨b, off + i * m, cur, by rw [Addr.add_lit], e2, e3, fun j hj k hk => ?_⟩⟩
      rw [List.getElem_drop]
      have hj' : i + j < l.length := by rw [List.length_drop] at hj; omega
      have := e4 (i + j) hj' k hk
      rw [show off + i * m + j * m + k = off + (i + j) * m + k by rw [Nat.add_mul]; omega]
      exact this
/-- append of a whole list: the row is the call's own. -/
theorem run_append_ls {P : Program} (TY ty : TypeId) {C n bytes : Nat} {z u : Value} {M : List α} (hn : ∀ a, (cs a).length = m) (hone : ∀ a, ∀ u ∈ cs a, u.oneCell' = true) (hm0 : 0 < m) (hz : z.cells.size = m) (hby : bytes ≤ 1000) (h1 : P.underlying TY = some (.slice t))
    (hinf : (P.info? t).map (fun i => (i.zero, i.size, i.bytes)) = some (some z, m, bytes))
    (h : w.ownsRow C t m v n (srs cs l)) (hu : LsG cs m t w T u M) (hnn : n ≤ 100000) (hm : M.length ≤ 100000) (hC : C ≤ w.heap.size) :
    ∃ v' w', (Builtin.append_ #[TY, TY] ty #[v, u]).run P w = .ok v' w' ∧ w'.ownsRow C t m v' (n + M.length) (srs cs (l ++ M)) ∧ w.grownBy w' v.ownBlock := by
  obtain ⟨i0, hii, hz0, hz1, hz2⟩ := info_parts hinf
  obtain ⟨A, c, rfl, g2, g3, g4⟩ := hu
  have hbig : (n + M.length) * bytes ≤ 140737488355328 := by
    have : (n + M.length) * bytes ≤ 200000 * 1000 := Nat.mul_le_mul (by omega) hby
    omega
  rcases g4 with ⟨rfl, rfl⟩ | ⟨b, off, cur, rfl, e2, e3, e4⟩
  · obtain rfl : M = [] := List.eq_nil_of_length_eq_zero (by omega)
    refine ⟨v, w, run_append_owned_none w C TY ty _ i0 m h1 hii v n _ h, by simpa using h, World.grownBy.refl _ _⟩
  · obtain ⟨v', w', hrun, hv, hg, _⟩ := run_append_own (P := P) w C TY ty _ i0 _ m bytes h1 hii hz0 hz1 hz2 hz hm0 v n _ h ⟨b, off, none⟩ M.length c (srs cs M) (srs_len hn M)
      (fun j x hj => by
        have hjl : j < M.length * m := by
          rcases Nat.lt_or_ge j (M.length * m) with h' | h'
          · exact h'
          · rw [List.getElem?_eq_none (by rw [srs_len hn]; exact h')] at hj; cases hj
        have hq : j / m * m + j % m = j := by rw [Nat.mul_comm]; exact Nat.div_add_mod j m
        have hd : j / m < M.length := Nat.div_lt_of_lt_mul (by rw [Nat.mul_comm]; exact hjl)
        have hr := Nat.mod_lt j hm0
        have h3 := e4 (j / m) hd (j % m) hr
        rw [← hq, srs_at hn M (j / m) (j % m) hd hr, ← h3] at hj
        rw [Addr.add_lit, ← hj]; congr 2; omega)
      (fun x hx => by
        unfold srs at hx
        rw [List.mem_flatMap] at hx
        obtain ⟨t, _, ht⟩ := hx
        exact hone t x ht)
      (by unfold maxLen; omega) hbig hC
    exact ⟨v', w', hrun, by rw [srs_app]; exact hv, hg⟩
/-- An empty row that has just been made. -/
theorem own_empty_ls (cs : α → List Value) (w : World) (base : Nat) (hb : base ≤ w.heap.size) (hm0 : 0 < m) : (w.alloc (.cells #[] t)).ownsRow base t m (.slice (some ⟨w.heap.size, 0, none⟩) 0 0) 0 (srs cs []) :=
  World.ownsRow_lit w #[] 0 hb (Nat.zero_le _) (by simp)
end
end Go.Proofs.Ytcnpmbgeafkmlaa

