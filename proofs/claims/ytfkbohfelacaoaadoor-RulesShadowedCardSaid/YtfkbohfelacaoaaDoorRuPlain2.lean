/-
  Layer 9, plain: the library's words (ParseUint, Itoa, IndexByte) in ours; the words of a text, cut one by one. No program is named.
-/
import Derived.Test.YtfkbohfelacaoaaDoorRuPlain
import Derived.Lib.ParseIntB
import Derived.Lib.ItoaNum
import Derived.Lib.IndexLaws
namespace Go.Proofs.YtfkbohfelacaoaaDoor
set_option linter.unusedVariables false

theorem decL_dec (n : Nat) : decL n = Lib.decDigits n := by
  induction n using Nat.strongRecOn with
  | ind n ih =>
    rw [Lib.decDigits]
    by_cases h : n < 10
    · rw [dif_pos h, decL_low h]
    · rw [dif_neg h, decL_high h, ih (n / 10) (by omega)]
theorem itoa_dec {n : Int} (h : 0 ≤ n) : Lib.itoa n = decL n.toNat := by
  unfold Lib.itoa; rw [if_neg (by omega), decL_dec]
theorem uintM_dig : ∀ (l : List UInt8) (a k : Nat), a < k → k * 10 ^ l.length ≤ 1000000 → Lib.parseUintM (2 ^ 64 - 1) a l = match digF l a with | some n => .ok n | none => Lib.parseUintB 64 []
  | [], a, k, _, _ => rfl
  | b :: l, a, k, ha, hk => by
    have hp : 0 < 10 ^ l.length := Nat.pow_pos (by decide)
    rw [List.length_cons, Nat.pow_succ, Nat.mul_comm (10 ^ l.length) 10, ← Nat.mul_assoc] at hk
    have hk' : k * 10 ≤ 1000000 := Nat.le_trans (Nat.le_mul_of_pos_right _ hp) hk
    rw [Lib.parseUintM, digF]
    by_cases h : 48 ≤ b.toNat ∧ b.toNat ≤ 57
    · rw [if_pos h, if_pos h, if_neg (by omega), if_neg (by omega), uintM_dig l _ (k * 10) (by omega) hk, Nat.mul_comm a 10]
    · rw [if_neg h, if_neg h]; exact (if_pos rfl).symm
theorem uint_dig {l : List UInt8} (h0 : l ≠ []) (h : l.length ≤ 5) : Lib.parseUintB 64 l = match digF l 0 with | some n => .ok n | none => Lib.parseUintB 64 [] := by
  unfold Lib.parseUintB
  rw [if_neg h0]
  refine uintM_dig l 0 1 (by decide) ?_
  have : 10 ^ l.length ≤ 10 ^ 5 := Nat.pow_le_pow_right (by decide) h
  omega
theorem digN_cases (l : List UInt8) : (5 < l.length ∧ digN 5 l = none) ∨ (l = [] ∧ digN 5 l = none ∧ Lib.parseUintB 64 l = Lib.parseUintB 64 []) ∨
    (1 ≤ l.length ∧ l.length ≤ 5 ∧ digF l 0 = none ∧ digN 5 l = none ∧ Lib.parseUintB 64 l = Lib.parseUintB 64 []) ∨
    (∃ n, n < 100000 ∧ 1 ≤ l.length ∧ l.length ≤ 5 ∧ Lib.parseUintB 64 l = .ok n ∧ ((1 < l.length ∧ nb l 0 = 48 ∧ digN 5 l = none) ∨ (¬ (1 < l.length ∧ nb l 0 = 48) ∧ digN 5 l = some n))) := by
  unfold digN
  by_cases h5 : 5 < l.length
  · exact .inl ⟨h5, by rw [if_pos (by omega)]⟩
  · right
    cases l with
    | nil => exact .inl ⟨rfl, rfl, rfl⟩
    | cons b t =>
      right
      have hl : 1 ≤ (b :: t).length := by simp
      have hu := uint_dig (l := b :: t) (by simp) (by omega)
      generalize b :: t = l at *
      cases hd : digF l 0 with
      | none =>
        left
        rw [hd] at hu
        refine ⟨hl, by omega, rfl, ?_, hu⟩
        split <;> rfl
      | some n =>
        right
        rw [hd] at hu
        have hn := digF_lt l 0 n 1 hd (by decide)
        have : 10 ^ l.length ≤ 10 ^ 5 := Nat.pow_le_pow_right (by decide) (by omega)
        refine ⟨n, by omega, hl, by omega, hu, ?_⟩
        by_cases hz : 1 < l.length ∧ nb l 0 = 48
        · exact .inl ⟨hz.1, hz.2, by rw [if_pos (.inr hz)]⟩
        · exact .inr ⟨hz, by rw [if_neg (fun h => h.elim (fun h => by omega) (fun h => hz h))]⟩
/-- Where a byte stands first, by the library's words. -/
theorem idx_cut (l : List UInt8) (c : UInt8) : (Lib.indexByte l c = -1 ∧ cutB c l = none ∧ c ∉ l) ∨ (∃ o : Nat, Lib.indexByte l c = o ∧ o < l.length ∧ cutB c l = some (l.take o, l.drop (o + 1)) ∧ c ∉ l.take o) := by
  by_cases h : Lib.indexByte l c = -1
  · have hn : c ∉ l := fun k => by
      obtain ⟨i, hi, e⟩ := List.getElem_of_mem k
      exact Lib.indexByte_none h i (by rw [List.getElem?_eq_getElem hi, e])
    exact .inl ⟨h, cutB_none hn, hn⟩
  · have := Lib.indexByte_ge l c
    obtain ⟨o, ho⟩ := Int.eq_ofNat_of_zero_le (show 0 ≤ Lib.indexByte l c by omega)
    obtain ⟨h1, h2⟩ := Lib.indexByte_some ho
    obtain ⟨hl, e⟩ := List.getElem?_eq_some_iff.1 h1
    have hb : ∀ j (hj : j < o), l[j] ≠ c := fun j hj k => h2 j hj (by rw [List.getElem?_eq_getElem (by omega), k])
    refine .inr ⟨o, ho, hl, cutB_first l o hl (fun j hj => hb j hj) e, fun k => ?_⟩
    obtain ⟨j, hj, e⟩ := List.mem_take_iff_getElem.1 k
    exact hb j (by omega) e
/-- k words, each with a space behind, and a last one; none empty. -/
def cutK : Nat → List UInt8 → Option (List (List UInt8))
  | 0, l => if l = [] ∨ 32 ∈ l then none else some [l]
  | k + 1, l => match cutB 32 l with
    | some (x, y) => if x = [] then none else (cutK k y).map (x :: ·)
    | none => none
theorem cutB_some {c : UInt8} : ∀ {l x y : List UInt8}, cutB c l = some (x, y) → c ∉ x ∧ l = x ++ c :: y
  | [], x, y, h => by cases h
  | b :: l, x, y, h => by
    rw [cutB] at h
    split at h
    · rename_i e; cases h; exact ⟨by simp, by simp [e]⟩
    · rename_i e
      cases hc : cutB c l with
      | none => rw [hc] at h; cases h
      | some p =>
        rw [hc] at h
        have h' : (b :: p.1, p.2) = (x, y) := by simpa using h
        cases h'
        obtain ⟨h1, h2⟩ := cutB_some (x := p.1) (y := p.2) hc
        refine ⟨fun k => ?_, by rw [List.cons_append, ← h2]⟩
        rcases List.mem_cons.1 k with k | k
        · exact e k.symm
        · exact h1 k
theorem cutB_none' {c : UInt8} : ∀ {l : List UInt8}, cutB c l = none → c ∉ l
  | [], _ => by simp
  | b :: l, h => by
    rw [cutB] at h
    split at h
    · cases h
    · rename_i e
      have h' : cutB c l = none := by simpa using h
      intro k
      rcases List.mem_cons.1 k with k | k
      · exact e k.symm
      · exact cutB_none' h' k
theorem cutK_wsp : ∀ (k : Nat) (l : List UInt8), cutK k l = if (wsp 32 l).length = k + 1 ∧ [] ∉ wsp 32 l then some (wsp 32 l) else none
  | 0, l => by
    rw [cutK]
    by_cases h : (32 : UInt8) ∈ l
    · rw [if_pos (.inr h)]
      cases hc : cutB 32 l with
      | none => exact absurd h (cutB_none' hc)
      | some p =>
        obtain ⟨h1, h2⟩ := cutB_some (x := p.1) (y := p.2) hc
        rw [if_neg]
        rintro ⟨h3, _⟩
        rw [h2, wsp_cons h1] at h3
        have := List.length_pos_iff.2 (wsp_ne 32 p.2)
        simp only [List.length_cons] at h3
        omega
    · rw [wsp_word h]
      by_cases e : l = []
      · subst e; rfl
      · rw [if_neg (by simp [e, h]), if_pos ⟨rfl, by simpa using Ne.symm e⟩]
  | k + 1, l => by
    rw [cutK]
    cases hc : cutB 32 l with
    | none =>
      have h := cutB_none' hc
      rw [wsp_word h, if_neg]
      rintro ⟨h1, _⟩
      simp at h1
    | some p =>
      obtain ⟨x, y⟩ := p
      obtain ⟨h1, h2⟩ := cutB_some hc
      rw [h2, wsp_cons h1]
      show (if x = [] then none else _) = _
      by_cases e : x = []
      · subst e
        rw [if_pos rfl, if_neg]
        rintro ⟨_, h⟩; exact h (by simp)
      · rw [if_neg e, cutK_wsp k y]
        by_cases h3 : (wsp 32 y).length = k + 1 ∧ [] ∉ wsp 32 y
        · rw [if_pos h3, if_pos ⟨by simp [h3.1], by simp [Ne.symm e, h3.2]⟩]; rfl
        · rw [if_neg h3, if_neg]
          · rfl
          · rintro ⟨h4, h5⟩
            exact h3 ⟨by simpa using h4, fun h => h5 (by simp [h])⟩
/-- The words of a rule's text, or none. -/
def four (l : List UInt8) : Option (List UInt8 × List UInt8 × List UInt8 × List UInt8) :=
  match cutK 3 l with
  | some [a, b, c, d] => some (a, b, c, d)
  | _ => none
theorem digN_nil : digN 5 [] = none := rfl
theorem porL_nil : porL [] = none := rfl
/-- What a text describes, by its words. -/
theorem syn_four (l : List UInt8) : synL l = (four l).bind fun p => if nb p.2.2.2 0 = 62 then (clsL p.2.1).bind fun c => (porL p.2.2.1).bind fun q => (digN 5 (p.2.2.2.drop 1)).map fun (n : Nat) => (⟨stL p.1, c, q.1, q.2, (n : Int)⟩ : Rul) else none := by
  unfold synL four
  rw [cutK_wsp]
  by_cases h : (wsp 32 l).length = 3 + 1 ∧ [] ∉ wsp 32 l
  · rw [if_pos h]
    obtain ⟨h1, h2⟩ := h
    match hw : wsp 32 l, h1, h2 with
    | [a, b, c, d], _, h2 =>
      simp only [List.mem_cons, List.not_mem_nil, or_false, not_or] at h2
      show (if a = [] ∨ ¬ nb d 0 = 62 then none else _) = (if nb d 0 = 62 then _ else none)
      by_cases e : nb d 0 = 62
      · rw [if_neg (fun k => k.elim (fun k => h2.1 k.symm) (fun k => k e)), if_pos e]
      · rw [if_pos (.inr e), if_neg e]
  · rw [if_neg h]
    show _ = none
    match hw : wsp 32 l with
    | [] => rfl
    | [_] => rfl
    | [_, _] => rfl
    | [_, _, _] => rfl
    | [a, b, c, d] =>
      have h2 : [] ∈ wsp 32 l := by
        refine Classical.byContradiction fun k => h ⟨by rw [hw]; rfl, k⟩
      rw [hw] at h2
      simp only [List.mem_cons, List.not_mem_nil, or_false] at h2
      show (if a = [] ∨ ¬ nb d 0 = 62 then none else _) = none
      rcases h2 with h2 | h2 | h2 | h2
      · rw [if_pos (.inl h2.symm)]
      · subst h2
        split
        · rfl
        · rfl
      · subst h2
        split
        · rfl
        · cases clsL b <;> rfl
      · subst h2
        rw [if_pos (.inr (by decide))]
    | _ :: _ :: _ :: _ :: _ :: _ => rfl
theorem four_ne {l a b c d : List UInt8} (h : four l = some (a, b, c, d)) : a ≠ [] ∧ b ≠ [] ∧ c ≠ [] ∧ d ≠ [] := by
  unfold four at h
  rw [cutK_wsp] at h
  by_cases k : (wsp 32 l).length = 3 + 1 ∧ [] ∉ wsp 32 l
  · rw [if_pos k] at h
    obtain ⟨k1, k2⟩ := k
    match hw : wsp 32 l, k1, k2 with
    | [x, y, z, u], _, k2 =>
      rw [hw] at h
      cases h
      simp only [List.mem_cons, List.not_mem_nil, or_false, not_or] at k2
      exact ⟨Ne.symm k2.1, Ne.symm k2.2.1, Ne.symm k2.2.2.1, Ne.symm k2.2.2.2⟩
  · rw [if_neg k] at h; cases h
end Go.Proofs.YtfkbohfelacaoaaDoor

