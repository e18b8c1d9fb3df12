/-
  Layer 7, plain: patterns: what a pattern of bytes matches, by its parts between asterisks, by prefix, suffix and first places; patterns of runes and of their bytes. No program is named.
-/
import Derived.Test.YthabmbjjpgcceaaDoorLbDec
import Derived.Lib.Split
import Derived.Lib.SplitLaws
import Derived.Lib.CutLaws
namespace Go.Proofs.YthabmbjjpgcceaaDoor
set_option linter.unusedVariables false
set_option linter.unusedSectionVars false

section
variable {α : Type} [DecidableEq α]
/-- f holds of a tail of s. -/
def anyTail (f : List α → Bool) : List α → Bool
  | [] => f []
  | d :: s => f (d :: s) || anyTail f s
/-- s results from p where each z stands for any sequence. -/
def lik (z : α) : List α → List α → Bool
  | [], s => s.isEmpty
  | c :: p, s => if c = z then anyTail (lik z p) s else match s with
    | [] => false
    | d :: s => decide (c = d) && lik z p s
theorem lik_nil (z : α) (s : List α) : lik z [] s = s.isEmpty := rfl
theorem lik_z (z : α) (p s : List α) : lik z (z :: p) s = anyTail (lik z p) s := by simp [lik]
theorem lik_c {z c : α} (hc : c ≠ z) (p : List α) (d : α) (s : List α) : lik z (c :: p) (d :: s) = (decide (c = d) && lik z p s) := by simp [lik, hc]
theorem lik_c0 {z c : α} (hc : c ≠ z) (p : List α) : lik z (c :: p) [] = false := by simp [lik, hc]
theorem anyTail_iff (f : List α → Bool) : ∀ s : List α, anyTail f s = true ↔ ∃ x y, s = x ++ y ∧ f y = true
  | [] => ⟨fun h => ⟨[], [], rfl, h⟩, fun ⟨x, y, e, h⟩ => by have e' : x ++ y = [] := e.symm; simp at e'; rw [e'.2] at h; exact h⟩
  | d :: s => by
    rw [anyTail, Bool.or_eq_true, anyTail_iff f s]
    constructor
    · rintro (h | ⟨x, y, rfl, h⟩)
      · exact ⟨[], _, rfl, h⟩
      · exact ⟨d :: x, y, rfl, h⟩
    · rintro ⟨x, y, e, h⟩
      cases x with
      | nil => left; rw [show d :: s = y from e]; exact h
      | cons a x => simp at e; right; exact ⟨x, y, e.2, h⟩
/-- An asterisk: any sequence, then the rest. -/
theorem lik_star {z : α} {p : List α} (s : List α) : lik z (z :: p) s = true ↔ ∃ x y, s = x ++ y ∧ lik z p y = true := by rw [lik_z]; exact anyTail_iff _ s
/-- Any other letter: itself, then the rest. -/
theorem lik_cons {z c : α} {p : List α} (hc : c ≠ z) (s : List α) : lik z (c :: p) s = true ↔ ∃ t, s = c :: t ∧ lik z p t = true := by
  cases s with
  | nil => rw [lik_c0 hc]; simp
  | cons d s =>
    rw [lik_c hc]; simp only [Bool.and_eq_true, decide_eq_true_eq]
    constructor
    · rintro ⟨rfl, h⟩; exact ⟨s, rfl, h⟩
    · rintro ⟨t, e, h⟩; cases e; exact ⟨rfl, h⟩
/-- Letters none of which is an asterisk. -/
theorem lik_pre {z : α} {q p : List α} : ∀ (s : List α), z ∉ q → (lik z (q ++ p) s = true ↔ ∃ t, s = q ++ t ∧ lik z p t = true) := by
  induction q with
  | nil => intro s _; simp
  | cons c q ih =>
    intro s h
    simp at h
    rw [List.cons_append, lik_cons (fun e => h.1 e.symm)]
    constructor
    · rintro ⟨t, rfl, k⟩
      obtain ⟨t', rfl, k'⟩ := (ih t h.2).1 k
      exact ⟨t', rfl, k'⟩
    · rintro ⟨t, rfl, k⟩
      exact ⟨q ++ t, rfl, (ih _ h.2).2 ⟨t, rfl, k⟩⟩
theorem lik_plain {z : α} {q : List α} (s : List α) (h : z ∉ q) : lik z q s = true ↔ s = q := by
  have := lik_pre (p := []) s h
  rw [List.append_nil] at this
  rw [this]
  constructor
  · rintro ⟨t, rfl, k⟩; rw [lik_nil] at k; simp at k; simp [k]
  · rintro rfl; exact ⟨[], by simp, by simp [lik_nil]⟩
/-- Two asterisks are as good as one. -/
theorem lik_twice {z : α} {p : List α} (s : List α) : lik z (z :: z :: p) s = lik z (z :: p) s := by
  rw [Bool.eq_iff_iff, lik_star, lik_star]
  constructor
  · rintro ⟨x, y, rfl, h⟩
    obtain ⟨u, v, rfl, k⟩ := (lik_star y).1 h
    exact ⟨x ++ u, v, by simp, k⟩
  · rintro ⟨x, y, rfl, h⟩
    exact ⟨[], x ++ y, rfl, (lik_star _).2 ⟨x, y, rfl, h⟩⟩
theorem lik_congr {z c : α} {p q : List α} (h : ∀ s, lik z p s = lik z q s) (s : List α) : lik z (c :: p) s = lik z (c :: q) s := by
  by_cases hc : c = z
  · subst hc
    rw [Bool.eq_iff_iff, lik_star, lik_star]
    exact ⟨fun ⟨x, y, e, k⟩ => ⟨x, y, e, (h y) ▸ k⟩, fun ⟨x, y, e, k⟩ => ⟨x, y, e, (h y).symm ▸ k⟩⟩
  · rw [Bool.eq_iff_iff, lik_cons hc, lik_cons hc]
    exact ⟨fun ⟨t, e, k⟩ => ⟨t, e, (h t) ▸ k⟩, fun ⟨t, e, k⟩ => ⟨t, e, (h t).symm ▸ k⟩⟩
theorem lik_congr_pre {z : α} {p q : List α} (h : ∀ s, lik z p s = lik z q s) : ∀ (a : List α) (s : List α), lik z (a ++ p) s = lik z (a ++ q) s
  | [], s => h s
  | c :: a, s => lik_congr (lik_congr_pre h a) s

/-- One letter more of a pattern that is put together without an asterisk behind an asterisk. -/
def push (z : α) (q : List α) (c : α) : List α := if c = z ∧ q.getLast? = some z then q else q ++ [c]
theorem push_lik {z : α} (q : List α) (c : α) (p s : List α) : lik z (push z q c ++ p) s = lik z (q ++ c :: p) s := by
  unfold push
  by_cases h : c = z ∧ q.getLast? = some z
  · rw [if_pos h]
    obtain ⟨rfl, h⟩ := h
    obtain ⟨a, rfl⟩ := List.getLast?_eq_some_iff.1 h
    rw [List.append_assoc, List.append_assoc]
    exact (lik_congr_pre (fun s => (lik_twice s).symm) a s)
  · rw [if_neg h]; simp
theorem pushes_lik {z : α} : ∀ (l q : List α) (s : List α), lik z (l.foldl (push z) q) s = lik z (q ++ l) s
  | [], q, s => by simp
  | c :: l, q, s => by
    rw [List.foldl_cons, pushes_lik l, push_lik]
/-- The parts q, r .. stand in t one behind the other, in their order. -/
def mids : List (List α) → List α → Prop
  | [], _ => True
  | q :: r, t => ∃ x y, t = x ++ q ++ y ∧ mids r y
theorem mids_more : ∀ (r : List (List α)) (x t : List α), mids r t → mids r (x ++ t)
  | [], _, _, _ => trivial
  | q :: r, x, t, ⟨a, b, e, h⟩ => ⟨x ++ a, b, by rw [e]; simp, h⟩
/-- Parts behind an asterisk each: any sequence ahead of each. -/
def stars : List (List α) → List α → Prop
  | [], t => t = []
  | q :: r, t => ∃ x y, t = x ++ q ++ y ∧ stars r y
theorem stars_last : ∀ (r : List (List α)) (q t : List α), stars (r ++ [q]) t ↔ ∃ m, t = m ++ q ∧ mids r m
  | [], q, t => by
    constructor
    · rintro ⟨x, y, rfl, h⟩; cases (show y = [] from h); exact ⟨x, by simp, trivial⟩
    · rintro ⟨m, rfl, _⟩; exact ⟨m, [], by simp, rfl⟩
  | a :: r, q, t => by
    constructor
    · rintro ⟨x, y, rfl, h⟩
      obtain ⟨m, rfl, k⟩ := (stars_last r q y).1 h
      exact ⟨x ++ a ++ m, by simp, x, m, rfl, k⟩
    · rintro ⟨m, rfl, x, y, rfl, k⟩
      exact ⟨x, y ++ q, by simp, (stars_last r q _).2 ⟨y, rfl, k⟩⟩
/-- A pattern out of parts. -/
def joins (z : α) : List (List α) → List α
  | [] => []
  | q :: r => z :: (q ++ joins z r)
theorem lik_joins {z : α} : ∀ (r : List (List α)), (∀ q ∈ r, z ∉ q) → ∀ t, (lik z (joins z r) t = true ↔ stars r t)
  | [], _, t => by simp [joins, lik_nil, stars]
  | q :: r, h, t => by
    rw [joins, lik_star]
    constructor
    · rintro ⟨x, y, rfl, k⟩
      obtain ⟨y', rfl, k'⟩ := (lik_pre y (h q (by simp))).1 k
      exact ⟨x, y', by simp, (lik_joins r (fun q hq => h q (by simp [hq])) _).1 k'⟩
    · rintro ⟨x, y, rfl, k⟩
      exact ⟨x, q ++ y, by simp, (lik_pre _ (h q (by simp))).2 ⟨y, rfl, (lik_joins r (fun q hq => h q (by simp [hq])) _).2 k⟩⟩
theorem lik_parts {z : α} (a : List α) (r : List (List α)) (q : List α) (ha : z ∉ a) (hr : ∀ x ∈ r, z ∉ x) (hq : z ∉ q) (s : List α) :
    lik z (a ++ joins z (r ++ [q])) s = true ↔ ∃ m, s = a ++ m ++ q ∧ mids r m := by
  rw [lik_pre _ ha]
  constructor
  · rintro ⟨t, rfl, k⟩
    have k' := (lik_joins (r ++ [q]) (by intro x hx; simp at hx; (rcases hx with hx | rfl <;> first | exact hr x hx | exact hq)) t).1 k
    obtain ⟨m, rfl, k2⟩ := (stars_last r q t).1 k'
    exact ⟨m, by simp, k2⟩
  · rintro ⟨m, rfl, k⟩
    refine ⟨m ++ q, by simp, (lik_joins (r ++ [q]) (by intro x hx; simp at hx; (rcases hx with hx | rfl <;> first | exact hr x hx | exact hq)) _).2 ?_⟩
    exact (stars_last r q _).2 ⟨m, rfl, k⟩
end

/-- Patterns of runes and of their bytes match alike. -/
theorem lik_encs : ∀ (p s : List Nat), (∀ r ∈ p, Scal r) → (∀ r ∈ s, Scal r) → (lik 42 (encs p) (encs s) = true ↔ lik 42 p s = true)
  | [], s, _, hs => by
    rw [lik_nil, show encs [] = [] from rfl, lik_nil]
    cases s with
    | nil => simp [encs]
    | cons a s => rw [encs_cons]; have := enc_ne (hs a (by simp)); simp [this]
  | a :: p, s, hp, hs => by
    have ih := fun s hs => lik_encs p s (fun r hr => hp r (by simp [hr])) hs
    obtain ⟨b, t, e, hb, ht, h42⟩ := enc_shape (hp a (by simp))
    rw [encs_cons, e]
    rcases h42 with ⟨rfl, h1, rfl⟩ | ⟨h1, h2⟩
    · obtain rfl : b = 42 := UInt8.toNat_inj.1 h1
      rw [List.cons_append, List.nil_append, lik_star, lik_star]
      constructor
      · rintro ⟨x, y, hxy, k⟩
        have cut : (∃ s1 s2, s = s1 ++ s2 ∧ x = encs s1 ∧ y = encs s2) → ∃ x y, s = x ++ y ∧ lik 42 p y = true := by
          rintro ⟨s1, s2, rfl, rfl, rfl⟩
          exact ⟨s1, s2, rfl, (ih s2 (fun r hr => hs r (by simp [hr]))).1 k⟩
        cases p with
        | nil =>
          rw [show encs [] = [] from rfl, lik_nil] at k
          simp at k
          exact cut (encs_cut s x y hs hxy (Or.inl k))
        | cons c p =>
          obtain ⟨b', t', e', hb', ht', h42'⟩ := enc_shape (hp c (by simp))
          rcases h42' with ⟨rfl, h1', rfl⟩ | ⟨h1', h2'⟩
          · obtain rfl : b' = 42 := UInt8.toNat_inj.1 h1'
            refine ⟨[], s, rfl, (ih s hs).1 ?_⟩
            rw [encs_cons, e', List.cons_append, List.nil_append] at k ⊢
            obtain ⟨u, v, rfl, k2⟩ := (lik_star y).1 k
            exact (lik_star _).2 ⟨x ++ u, v, by rw [hxy]; simp, k2⟩
          · have k' := k
            rw [encs_cons, e', List.cons_append, lik_cons (by intro hh; rw [hh] at h2'; exact h2' rfl)] at k'
            obtain ⟨v, hv, _⟩ := k'
            exact cut (encs_cut s x y hs hxy (Or.inr ⟨b', v, hv, hb'⟩))
      · rintro ⟨x, y, rfl, k⟩
        exact ⟨encs x, encs y, encs_app x y, (ih y (fun r hr => hs r (by simp [hr]))).2 k⟩
    · have hn : (42 : UInt8) ∉ b :: t := by
        intro hm
        simp only [List.mem_cons] at hm
        rcases hm with hm | hm
        · rw [← hm] at h2; exact h2 rfl
        · have := ht 42 hm; unfold Cnt at this; have h3 : (42 : UInt8).toNat = 42 := rfl; omega
      rw [lik_pre _ hn, lik_cons h1]
      constructor
      · rintro ⟨v, hv, k⟩
        have hv' : encs s = encs [a] ++ v := by rw [hv]; simp [encs, e]
        obtain ⟨w, rfl, rfl⟩ := encs_pre [a] s v (by intro r hr; simp at hr; subst hr; exact hp r (by simp)) hs hv'
        exact ⟨w, rfl, (ih w (fun r hr => hs r (by simp [hr]))).1 k⟩
      · rintro ⟨w, rfl, k⟩
        exact ⟨encs w, by rw [encs_cons, e], (ih w (fun r hr => hs r (by simp [hr]))).2 k⟩

/-- Where an instance is found first, most is left. -/
theorem index_mids (q : List UInt8) (r : List (List UInt8)) (t : List UInt8) :
    mids (q :: r) t ↔ (Lib.cut t q).2.2 = true ∧ mids r (Lib.cut t q).2.1 := by
  have occ : ∀ j, Lib.occAt t q j = true ↔ ∃ y, t.drop j = q ++ y := fun j => by
    unfold Lib.occAt
    rw [List.isPrefixOf_iff_prefix]
    exact ⟨fun ⟨y, h⟩ => ⟨y, h.symm⟩, fun ⟨y, h⟩ => ⟨y, h.symm⟩⟩
  rcases Lib.index_spec t q with ⟨h1, h2⟩ | ⟨i, h1, h2, h3, h4⟩
  · have e : Lib.cut t q = (t, [], false) := by unfold Lib.cut; rw [h1, if_neg (by omega)]
    rw [e]
    constructor
    · rintro ⟨x, y, rfl, _⟩
      have := h2 x.length (by simp)
      rw [(occ _).2 ⟨y, by simp⟩] at this; cases this
    · rintro ⟨h, _⟩; cases h
  · have e : Lib.cut t q = (t.take i, t.drop (i + q.length), true) := by unfold Lib.cut; rw [h1, if_pos (by omega)]; simp
    rw [e]
    obtain ⟨y0, hy0⟩ := (occ i).1 h3
    have hd : t.drop (i + q.length) = y0 := by rw [← List.drop_drop, hy0]; simp
    constructor
    · rintro ⟨x, y, rfl, k⟩
      refine ⟨rfl, ?_⟩
      show mids r ((x ++ q ++ y).drop (i + q.length))
      have hx : i ≤ x.length := by
        rcases Nat.lt_or_ge x.length i with h | h
        · have := h4 x.length h
          rw [(occ _).2 ⟨y, by simp⟩] at this; cases this
        · exact h
      have : (x ++ q ++ y).drop (i + q.length) = ((x ++ q).drop (i + q.length)) ++ y := by
        rw [List.drop_append_of_le_length (by simp; omega)]
      rw [this]
      exact mids_more r _ y k
    · rintro ⟨_, k⟩
      refine ⟨t.take i, t.drop (i + q.length), ?_, k⟩
      rw [hd, List.append_assoc, ← hy0, List.take_append_drop]
end Go.Proofs.YthabmbjjpgcceaaDoor

