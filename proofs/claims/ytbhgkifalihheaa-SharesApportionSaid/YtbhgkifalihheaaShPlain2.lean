/-
  Plain arithmetic for layer 3, continued: the distribution under caps; the distribution of units. No program in sight.
-/
import Derived.Test.YtbhgkifalihheaaShPlain
namespace Go.Proofs.Ytbhgkifalihheaa
open Go.RowKit
set_option linter.unusedVariables false

/-! ### Fill -/
/-- The positions of the open parts among the first n. -/
def opens (G C : Nat → Int) : Nat → List Nat
  | 0 => []
  | n + 1 => if G n < C n then opens G C n ++ [n] else opens G C n
theorem opens_len (G C : Nat → Int) (n : Nat) : (opens G C n).length ≤ n := by
  induction n with
  | zero => simp [opens]
  | succ n ih =>
    unfold opens; split
    · rw [List.length_append]; simp; omega
    · omega
theorem opens_mem (G C : Nat → Int) (n : Nat) : ∀ i, i ∈ opens G C n ↔ i < n ∧ G i < C i := by
  induction n with
  | zero => simp [opens]
  | succ n ih =>
    intro i
    unfold opens
    split
    · rename_i h
      rw [List.mem_append, ih, List.mem_singleton]
      constructor
      · rintro (⟨h1, h2⟩ | rfl)
        · exact ⟨by omega, h2⟩
        · exact ⟨by omega, h⟩
      · rintro ⟨h1, h2⟩
        rcases (by omega : i < n ∨ i = n) with h3 | h3
        · exact .inl ⟨h3, h2⟩
        · exact .inr h3
    · rename_i h
      rw [ih]
      constructor
      · rintro ⟨h1, h2⟩; exact ⟨by omega, h2⟩
      · rintro ⟨h1, h2⟩
        rcases (by omega : i < n ∨ i = n) with h3 | h3
        · exact ⟨h3, h2⟩
        · subst h3; omega
/-- Entry k of the list of positions. -/
def opAt (G C : Nat → Int) (n k : Nat) : Nat := (opens G C n).getD k 0
theorem opAt_get {G C : Nat → Int} {n k : Nat} (hk : k < (opens G C n).length) : (opens G C n)[k]? = some (opAt G C n k) := by
  unfold opAt; rw [List.getD_eq_getElem?_getD, List.getElem?_eq_getElem hk]; rfl
theorem opAt_mem {G C : Nat → Int} {n k : Nat} (hk : k < (opens G C n).length) : opAt G C n k < n ∧ G (opAt G C n k) < C (opAt G C n k) :=
  (opens_mem G C n _).1 (List.mem_of_getElem? (opAt_get hk))
theorem opens_lt (G C : Nat → Int) (n : Nat) : ∀ k l, k < l → l < (opens G C n).length → opAt G C n k < opAt G C n l := by
  induction n with
  | zero => intro k l _ h; simp [opens] at h
  | succ n ih =>
    intro k l hkl hl
    by_cases hc : G n < C n
    · have e : opens G C (n + 1) = opens G C n ++ [n] := by show (if G n < C n then _ else _) = _; rw [if_pos hc]
      have g : ∀ q, q < (opens G C n).length → opAt G C (n + 1) q = opAt G C n q := by
        intro q hq; unfold opAt; rw [e, List.getD_eq_getElem?_getD, List.getElem?_append_left hq, ← List.getD_eq_getElem?_getD]
      have gl : opAt G C (n + 1) (opens G C n).length = n := by
        unfold opAt; rw [e, List.getD_eq_getElem?_getD, List.getElem?_append_right (Nat.le_refl _)]; simp
      rw [e, List.length_append] at hl
      simp at hl
      rw [g k (by omega)]
      rcases (by omega : l < (opens G C n).length ∨ l = (opens G C n).length) with h | h
      · rw [g l h]; exact ih k l hkl h
      · rw [h, gl]; exact (opAt_mem (by omega)).1
    · have e : opens G C (n + 1) = opens G C n := by show (if G n < C n then _ else _) = _; rw [if_neg hc]
      have g : ∀ q, opAt G C (n + 1) q = opAt G C n q := by intro q; unfold opAt; rw [e]
      rw [g, g]; rw [e] at hl; exact ih k l hkl hl
/-- k entries of a round: what is given and the rest. -/
def fillTo (C : Nat → Int) (at_ : Nat → Nat) (X : Nat → Int) (G : Nat → Int) (r : Int) : Nat → (Nat → Int) × Int
  | 0 => (G, r)
  | k + 1 =>
    let s := fillTo C at_ X G r k
    (upd s.1 (at_ k) (s.1 (at_ k) + min (X k) (C (at_ k) - s.1 (at_ k))), s.2 - min (X k) (C (at_ k) - s.1 (at_ k)))
/-- A round. -/
def fillRnd (C V : Nat → Int) (n : Nat) (s : (Nat → Int) × Int) : (Nat → Int) × Int :=
  fillTo C (opAt s.1 C n) (spl s.2 (fun k => V (opAt s.1 C n k)) (opens s.1 C n).length) s.1 s.2 (opens s.1 C n).length
/-- The distribution under caps ends here. -/
def fillEnd (C : Nat → Int) (n : Nat) (s : (Nat → Int) × Int) : Prop := s.2 ≤ 0 ∨ (opens s.1 C n).length = 0
def fillIt (C V : Nat → Int) (n : Nat) (a : Int) : Nat → (Nat → Int) × Int
  | 0 => (fun _ => 0, a)
  | j + 1 => fillRnd C V n (fillIt C V n a j)
/-- What holds of what is given and of the rest. -/
def FillOk (C : Nat → Int) (n : Nat) (a : Int) (s : (Nat → Int) × Int) : Prop := (∀ i, i < n → 0 ≤ s.1 i ∧ s.1 i ≤ C i) ∧ 0 ≤ s.2 ∧ s.2 ≤ a ∧ sumTo s.1 n + s.2 = a
/-- What holds behind k entries of a round. -/
theorem fillTo_ok {C X G : Nat → Int} {at_ : Nat → Nat} {r a : Int} {n m : Nat} (hm : ∀ k, k < m → at_ k < n) (hlt : ∀ k l, k < l → l < m → at_ k < at_ l) (hX : ∀ k, k < m → 0 ≤ X k) (hs : sumTo X m = r)
    (hG : ∀ i, i < n → 0 ≤ G i ∧ G i ≤ C i) (hsum : sumTo G n + r = a) (ha : r ≤ a) (k : Nat) (hk : k ≤ m) :
    (∀ i, i < n → 0 ≤ (fillTo C at_ X G r k).1 i ∧ (fillTo C at_ X G r k).1 i ≤ C i) ∧ r - sumTo X k ≤ (fillTo C at_ X G r k).2 ∧ (fillTo C at_ X G r k).2 ≤ r ∧ sumTo (fillTo C at_ X G r k).1 n + (fillTo C at_ X G r k).2 = a ∧
      (∀ i, (∀ l, l < k → at_ l ≠ i) → (fillTo C at_ X G r k).1 i = G i) := by
  induction k with
  | zero => exact ⟨hG, by simp [sumTo, fillTo], Int.le_refl _, hsum, fun _ _ => rfl⟩
  | succ k ih =>
    obtain ⟨h1, h2, h3, h4, h5⟩ := ih (by omega)
    have hak := hm k (by omega)
    have hx := hX k (by omega)
    have hg := h1 _ hak
    simp only [fillTo]
    generalize fillTo C at_ X G r k = s at *
    have hmin : 0 ≤ min (X k) (C (at_ k) - s.1 (at_ k)) ∧ min (X k) (C (at_ k) - s.1 (at_ k)) ≤ X k ∧ min (X k) (C (at_ k) - s.1 (at_ k)) ≤ C (at_ k) - s.1 (at_ k) := by omega
    generalize min (X k) (C (at_ k) - s.1 (at_ k)) = t at *
    refine ⟨fun i hi => ?_, by rw [sumTo_succ]; omega, by omega, by rw [sumTo_upd hak]; omega, fun i hi => ?_⟩
    · by_cases e : i = at_ k
      · subst e; rw [upd_at]; omega
      · rw [upd_ne e]; exact h1 i hi
    · have := hi k (by omega)
      rw [upd_ne (fun e => this e.symm)]
      exact h5 i (fun l hl => hi l (by omega))
/-- A round that gives something lowers the rest. -/
theorem fillTo_less {C X G : Nat → Int} {at_ : Nat → Nat} {r a : Int} {n m : Nat} (hm : ∀ k, k < m → at_ k < n) (hlt : ∀ k l, k < l → l < m → at_ k < at_ l) (hX : ∀ k, k < m → 0 ≤ X k) (hs : sumTo X m = r)
    (hG : ∀ i, i < n → 0 ≤ G i ∧ G i ≤ C i) (hop : ∀ k, k < m → G (at_ k) < C (at_ k)) (hsum : sumTo G n + r = a) (ha : r ≤ a) (k : Nat) (hk : k ≤ m) (h1 : 1 ≤ sumTo X k) : (fillTo C at_ X G r k).2 ≤ r - 1 := by
  induction k with
  | zero => simp [sumTo] at h1
  | succ k ih =>
    obtain ⟨g1, g2, g3, g4, g5⟩ := fillTo_ok hm hlt hX hs hG hsum ha k (by omega)
    have hg := g1 _ (hm k (by omega))
    have hx := hX k (by omega)
    have hge := sumTo_ge (X := X) (n := k) (fun i hi => hX i (by omega))
    have heq : (fillTo C at_ X G r k).1 (at_ k) = G (at_ k) := g5 _ (fun l hl => by have := hlt l k hl (by omega); omega)
    have ho := hop k (by omega)
    rw [sumTo_succ] at h1
    simp only [fillTo]
    by_cases hp : 1 ≤ sumTo X k
    · have := ih (by omega) hp; omega
    · omega
/-- The facts of a round, of whatever state that is not at its end. -/
theorem round_facts {C V : Nat → Int} {n : Nat} {a : Int} {s : (Nat → Int) × Int} (a1 : a ≤ 9223372036854775807) (hn : n ≤ 64) (hv : ∀ i, i < n → 1 ≤ V i ∧ V i ≤ 2147483648) (h : FillOk C n a s) (he : ¬ fillEnd C n s) :
    let m := (opens s.1 C n).length
    let X := spl s.2 (fun k => V (opAt s.1 C n k)) m
    0 < m ∧ m ≤ n ∧ (∀ k, k < m → opAt s.1 C n k < n ∧ s.1 (opAt s.1 C n k) < C (opAt s.1 C n k)) ∧ (∀ k, k < m → 0 ≤ X k ∧ X k ≤ s.2) ∧ sumTo X m = s.2 := by
  obtain ⟨h1, h2, h3, h4⟩ := h
  have hml := opens_len s.1 C n
  have hm0 : 0 < (opens s.1 C n).length := by
    rcases Nat.eq_zero_or_pos (opens s.1 C n).length with h0 | h0
    · exact absurd (.inr h0) he
    · exact h0
  refine ⟨hm0, hml, fun k hk => opAt_mem hk, fun k hk => ?_, spl_sum hm0⟩
  exact (spl_bd (by omega) (by omega) (by omega) (fun i hi => hv _ (opAt_mem hi).1) hk).1 h2
theorem fillRnd_ok {C V : Nat → Int} {n : Nat} {a : Int} {s : (Nat → Int) × Int} (a1 : a ≤ 9223372036854775807) (hn : n ≤ 64) (hv : ∀ i, i < n → 1 ≤ V i ∧ V i ≤ 2147483648) (h : FillOk C n a s) (he : ¬ fillEnd C n s) :
    FillOk C n a (fillRnd C V n s) ∧ (fillRnd C V n s).2 < s.2 := by
  obtain ⟨f1, f2, f3, f4, f5⟩ := round_facts a1 hn hv h he
  obtain ⟨h1, h2, h3, h4⟩ := h
  have hk := fillTo_ok (C := C) (G := s.1) (r := s.2) (a := a) (n := n) (fun k hk => (f3 k hk).1) (opens_lt s.1 C n) (fun k hk => (f4 k hk).1) f5 h1 h4 h3 _ (Nat.le_refl _)
  have hpos : 1 ≤ s.2 := by
    rcases (by omega : s.2 ≤ 0 ∨ 1 ≤ s.2) with h0 | h0
    · exact absurd (.inl h0) he
    · exact h0
  have hl := fillTo_less (C := C) (G := s.1) (r := s.2) (a := a) (n := n) (fun k hk => (f3 k hk).1) (opens_lt s.1 C n) (fun k hk => (f4 k hk).1) f5 h1 (fun k hk => (f3 k hk).2) h4 h3 _ (Nat.le_refl _) (by omega)
  unfold fillRnd
  rw [f5] at hk
  exact ⟨⟨hk.1, by omega, by omega, hk.2.2.2.1⟩, by omega⟩
theorem fillIt_ok {C V : Nat → Int} {n : Nat} {a : Int} (a0 : 0 ≤ a) (a1 : a ≤ 9223372036854775807) (hn : n ≤ 64) (hv : ∀ i, i < n → 1 ≤ V i ∧ V i ≤ 2147483648) (hC : ∀ i, i < n → 0 ≤ C i) (j : Nat) (he : ∀ i, i < j → ¬ fillEnd C n (fillIt C V n a i)) : FillOk C n a (fillIt C V n a j) := by
  induction j with
  | zero =>
    refine ⟨fun i hi => ⟨Int.le_refl _, hC i hi⟩, a0, Int.le_refl _, ?_⟩
    have : sumTo (fun _ => (0 : Int)) n = 0 := by
      induction n with
      | zero => rfl
      | succ n ih => rw [sumTo_succ, ih (by omega) (fun i hi => hv i (by omega)) (fun i hi => hC i (by omega)) (fun i hi => by omega)]; rfl
    show sumTo (fun _ => (0 : Int)) n + a = a
    omega
  | succ j ih => exact (fillRnd_ok a1 hn hv (ih (fun i hi => he i (by omega))) (he j (by omega))).1
/-- The first end: the state that Fill hands back. -/
def FirstEnd (C V : Nat → Int) (n : Nat) (a : Int) (s : (Nat → Int) × Int) : Prop := ∃ j, s = fillIt C V n a j ∧ fillEnd C n (fillIt C V n a j) ∧ ∀ i, i < j → ¬ fillEnd C n (fillIt C V n a i)
theorem FirstEnd.one {C V : Nat → Int} {n : Nat} {a : Int} {s t : (Nat → Int) × Int} (h : FirstEnd C V n a s) (k : FirstEnd C V n a t) : s = t := by
  obtain ⟨i, rfl, h1, h2⟩ := h
  obtain ⟨j, rfl, k1, k2⟩ := k
  rcases Nat.lt_trichotomy i j with hij | rfl | hij
  · exact absurd h1 (k2 i hij)
  · rfl
  · exact absurd k1 (h2 j hij)

/-! ### Apportion -/
/-- The position of the part that gets the next unit, among the first k. -/
def bestTo (U V : Nat → Int) : Nat → Nat
  | 0 => 0
  | k + 1 => if (U k + 1) * V (bestTo U V k) < (U (bestTo U V k) + 1) * V k then k else bestTo U V k
theorem bestTo_lt (U V : Nat → Int) (n : Nat) (hn : 0 < n) : bestTo U V n < n := by
  induction n with
  | zero => omega
  | succ n ih =>
    unfold bestTo; split
    · omega
    · rcases Nat.eq_zero_or_pos n with h | h
      · subst h; show 0 < 1; omega
      · have := ih h; omega
theorem bestTo_one (U V : Nat → Int) : bestTo U V 1 = 0 := by unfold bestTo; split <;> rfl
/-- The best is at least as good as each of them. -/
theorem bestTo_best {U V : Nat → Int} {n : Nat} (hU : ∀ i, i < n → 0 ≤ U i) (hV : ∀ i, i < n → 1 ≤ V i) (k : Nat) (hk : k ≤ n) : ∀ i, i < k → (U (bestTo U V k) + 1) * V i ≤ (U i + 1) * V (bestTo U V k) := by
  induction k with
  | zero => intro i hi; omega
  | succ k ih =>
    intro i hi
    have hb : ∀ m, 0 < m → m ≤ n → bestTo U V m < n := fun m h0 h1 => by have := bestTo_lt U V m h0; omega
    unfold bestTo
    split
    · rename_i h
      rcases (by omega : i = k ∨ i < k) with rfl | hik
      · exact Int.le_refl _
      · have h1 := ih (by omega) i hik
        have hbk := hb k (by omega) (by omega)
        have v1 := hV k (by omega); have v2 := hV i (by omega); have v3 := hV _ hbk
        have u1 := hU k (by omega)
        -- (Uk+1) Vb < (Ub+1) Vk, (Ub+1) Vi ≤ (Ui+1) Vb
        generalize bestTo U V k = b at *
        have e1 : (U k + 1) * V b * V i ≤ (U b + 1) * V k * V i := Int.mul_le_mul_of_nonneg_right (by omega) (by omega)
        have e2 : (U b + 1) * V i * V k ≤ (U i + 1) * V b * V k := Int.mul_le_mul_of_nonneg_right h1 (by omega)
        have e3 : (U b + 1) * V k * V i = (U b + 1) * V i * V k := by rw [Int.mul_assoc, Int.mul_assoc, Int.mul_comm (V k)]
        have e4 : (U k + 1) * V i * V b ≤ (U i + 1) * V k * V b := by
          have a1 : (U k + 1) * V i * V b = (U k + 1) * V b * V i := by rw [Int.mul_assoc, Int.mul_assoc, Int.mul_comm (V i)]
          have a2 : (U i + 1) * V k * V b = (U i + 1) * V b * V k := by rw [Int.mul_assoc, Int.mul_assoc, Int.mul_comm (V k)]
          omega
        exact Int.le_of_mul_le_mul_right e4 (by omega)
    · rename_i h
      rcases (by omega : i = k ∨ i < k) with rfl | hik
      · omega
      · exact ih (by omega) i hik
/-- The units behind j of them. -/
def unitsAt (V : Nat → Int) (n : Nat) : Nat → Nat → Int
  | 0 => fun _ => 0
  | j + 1 => upd (unitsAt V n j) (bestTo (unitsAt V n j) V n) (unitsAt V n j (bestTo (unitsAt V n j) V n) + 1)
theorem unitsAt_bd (V : Nat → Int) (n : Nat) (j : Nat) : ∀ i, 0 ≤ unitsAt V n j i ∧ unitsAt V n j i ≤ j := by
  induction j with
  | zero => intro i; exact ⟨Int.le_refl _, Int.le_refl _⟩
  | succ j ih =>
    intro i
    have h1 := ih i
    have h2 := ih (bestTo (unitsAt V n j) V n)
    show 0 ≤ upd _ _ _ i ∧ upd _ _ _ i ≤ _
    unfold upd; split <;> omega
theorem unitsAt_sum {V : Nat → Int} {n : Nat} (hn : 0 < n) (j : Nat) : sumTo (unitsAt V n j) n = j := by
  induction j with
  | zero =>
    have : ∀ n, sumTo (fun _ => (0 : Int)) n = 0 := by
      intro n
      induction n with
      | zero => rfl
      | succ n ih => rw [sumTo_succ, ih]; rfl
    exact this n
  | succ j ih =>
    show sumTo (upd _ _ _) n = _
    rw [sumTo_upd (bestTo_lt _ _ _ hn), ih]; omega
/-- No envy. -/
theorem unitsAt_envy {V : Nat → Int} {n : Nat} (hV : ∀ i, i < n → 1 ≤ V i) (j : Nat) : ∀ i k, i < n → k < n → 0 < unitsAt V n j i → unitsAt V n j i * V k ≤ (unitsAt V n j k + 1) * V i := by
  induction j with
  | zero => intro i k _ _ h; exact absurd h (by show ¬ (0 : Int) < 0; omega)
  | succ j ih =>
    intro i k hi hk h0
    have hbd := unitsAt_bd V n j
    have hbest := bestTo_best (U := unitsAt V n j) (V := V) (n := n) (fun i _ => (hbd i).1) hV n (Nat.le_refl _) k hk
    have hv := hV i hi
    have hih := ih i k hi hk
    have hvk := hV k hk
    simp only [unitsAt] at h0 ⊢
    have ubk := hbd k
    have ubi := hbd i
    generalize hb : bestTo (unitsAt V n j) V n = b at *
    generalize unitsAt V n j = U at *
    have hgrow : ∀ x : Nat, U x ≤ upd U b (U b + 1) x := by
      intro x; unfold upd; split
      · rename_i e; subst e; omega
      · omega
    have hk' : (U k + 1) * V i ≤ (upd U b (U b + 1) k + 1) * V i := Int.mul_le_mul_of_nonneg_right (by have := hgrow k; omega) (by omega)
    by_cases e : i = b
    · subst e
      rw [upd_at]
      exact Int.le_trans hbest hk'
    · rw [upd_ne e] at h0 ⊢
      exact Int.le_trans (hih h0) hk'
end Go.Proofs.Ytbhgkifalihheaa
