/-
  Layer 18, plain: the delivered packets of a flow ascend, and there are as many as are in that state. No program is named.
-/
import Derived.Test.YtkhngfadhfomoaaLfPlain
namespace Go.Proofs.Ytkhngfadhfomoaa
set_option linter.unusedVariables false

theorem filt_set {α : Type} (p : α → Bool) : ∀ (l : List α) (i : Nat) (hi : i < l.length) (e : α), ((l.set i e).filter p).length + (if p l[i] = true then 1 else 0) = (l.filter p).length + (if p e = true then 1 else 0)
  | [], i, hi, e => absurd hi (by simp)
  | x :: l, 0, hi, e => by
    simp only [List.set_cons_zero, List.getElem_cons_zero, List.filter_cons]
    split <;> split <;> simp_all
  | x :: l, i + 1, hi, e => by
    have ih := filt_set p l i (by simpa using hi) e
    simp only [List.set_cons_succ, List.getElem_cons_succ, List.filter_cons]
    by_cases h : p x = true
    · simp only [h, if_true, List.length_cons]; omega
    · simp only [if_neg h]; exact ih
theorem up_in {s : LfS} {id st wy k : Int} {d : List Int} {r : Int → Int} : lfIn ⟨lfUp s id st wy, d, r⟩ k ↔ lfIn s k := by unfold lfIn; simp only [lfUp_len]
theorem lfI_inj {s : LfS} {a b : Int} (ha : lfIn s a) (hb : lfIn s b) (h : lfI a = lfI b) : a = b := by unfold lfIn at ha hb; unfold lfI at h; omega
theorem up_fl (s : LfS) (id st wy k : Int) (d : List Int) (r : Int → Int) : lfFl ⟨lfUp s id st wy, d, r⟩ k = lfFl s k := by
  unfold lfFl
  by_cases hk : lfIn s k
  · rw [dif_pos hk, dif_pos (up_in.2 hk)]
    by_cases hi : lfIn s id
    · simp only [lfUp, dif_pos hi, List.getElem_set]
      split
      · rename_i h; simp only [h]
      · rfl
    · simp only [lfUp, dif_neg hi]
  · rw [dif_neg hk, dif_neg (fun h => hk (up_in.1 h))]
theorem up_st (s : LfS) (id st wy k : Int) (d : List Int) (r : Int → Int) (hne : k ≠ id) : lfSt ⟨lfUp s id st wy, d, r⟩ k = lfSt s k := by
  unfold lfSt
  by_cases hk : lfIn s k
  · rw [dif_pos hk, dif_pos (up_in.2 hk)]
    by_cases hi : lfIn s id
    · simp only [lfUp, dif_pos hi, List.getElem_set]
      split
      · rename_i h; exact absurd (lfI_inj hk hi h.symm) hne
      · rfl
    · simp only [lfUp, dif_neg hi]
  · rw [dif_neg hk, dif_neg (fun h => hk (up_in.1 h))]
theorem up_self (s : LfS) (id st wy : Int) (d : List Int) (r : Int → Int) (hi : lfIn s id) : lfSt ⟨lfUp s id st wy, d, r⟩ id = st := by
  unfold lfSt
  rw [dif_pos (up_in.2 hi)]
  simp only [lfUp, dif_pos hi, List.getElem_set_self]
theorem up_cn (s : LfS) (id st wy : Int) (d : List Int) (r : Int → Int) (hi : lfIn s id) (f x : Int) : lfCn ⟨lfUp s id st wy, d, r⟩ f x + (if lfFl s id = f ∧ lfSt s id = x then 1 else 0) = lfCn s f x + (if lfFl s id = f ∧ st = x then 1 else 0) := by
  have hl := lfI_lt hi
  have e1 : lfFl s id = s.l[lfI id].f := by unfold lfFl; rw [dif_pos hi]
  have e2 : lfSt s id = s.l[lfI id].s := by unfold lfSt; rw [dif_pos hi]
  have h := filt_set (fun e : LfE => e.f == f && e.s == x) s.l (lfI id) hl { s.l[lfI id] with s := st, y := wy }
  simp only [Bool.and_eq_true, beq_iff_eq] at h
  rw [e1, e2]
  unfold lfCn
  simp only [lfUp, dif_pos hi]
  have h1 : ((if s.l[lfI id].f = f ∧ s.l[lfI id].s = x then 1 else 0 : Nat) : Int) = if s.l[lfI id].f = f ∧ s.l[lfI id].s = x then 1 else 0 := by split <;> rfl
  have h2 : ((if s.l[lfI id].f = f ∧ st = x then 1 else 0 : Nat) : Int) = if s.l[lfI id].f = f ∧ st = x then 1 else 0 := by split <;> rfl
  rw [← h1, ← h2]
  omega
theorem app_fl {s : LfS} {k : Int} (hk : lfIn s k) (e : LfE) (d : List Int) (r : Int → Int) : lfFl ⟨s.l ++ [e], d, r⟩ k = lfFl s k ∧ lfSt ⟨s.l ++ [e], d, r⟩ k = lfSt s k := by
  have hl := lfI_lt hk
  have hk2 : lfIn ⟨s.l ++ [e], d, r⟩ k := by unfold lfIn at hk ⊢; simp only [List.length_append, List.length_singleton]; omega
  unfold lfFl lfSt
  rw [dif_pos hk, dif_pos hk2, dif_pos hk, dif_pos hk2]
  simp only [List.getElem_append_left hl]
  exact ⟨trivial, trivial⟩
structure LfO (s : LfS) : Prop where
  ok : LfOk s
  t : ∀ k ∈ s.d, lfSt s k = 3
  p : ∀ f, (lfOd s f).Pairwise (· < ·)
  c : ∀ f, ((lfOd s f).length : Int) = lfCn s f 3
theorem LfO.new : LfO LfS.new := ⟨LfOk.new, (fun k hk => by cases hk), fun f => List.Pairwise.nil, fun f => rfl⟩
theorem od_congr {d : List Int} {g h : Int → Int} {f : Int} (e : ∀ k ∈ d, g k = h k) : (d.filter fun k => g k == f) = d.filter fun k => h k == f := List.filter_congr fun k hk => by rw [e k hk]
theorem LfO.acc {s : LfS} (h : LfO s) (f n : Int) : LfO (s.acc f n) := by
  have hok := h.ok.acc f n
  unfold LfS.acc at hok ⊢
  split
  · rename_i hE
    rw [if_pos hE] at hok
    have e0 : ∀ k ∈ s.d, lfFl ⟨s.l ++ [⟨f, n, 1, 0⟩], s.d, s.r⟩ k = lfFl s k := fun k hk => (app_fl (h.ok.d k hk) _ _ _).1
    have e1 : ∀ g, lfOd ⟨s.l ++ [⟨f, n, 1, 0⟩], s.d, s.r⟩ g = lfOd s g := fun g => od_congr e0
    refine ⟨hok, fun k hk => ?_, fun g => ?_, fun g => ?_⟩
    · rw [(app_fl (h.ok.d k hk) _ _ _).2]; exact h.t k hk
    · rw [e1]; exact h.p g
    · rw [e1, h.c g]
      unfold lfCn
      simp [List.filter_append]
  · exact h
theorem LfO.up {s : LfS} (h : LfO s) {id st wy : Int} (hi : lfIn s id) (h1 : lfSt s id ≠ 3) (h2 : st ≠ 3) (hst : 1 ≤ st ∧ st ≤ 4) : LfO { s with l := lfUp s id st wy } := by
  have e1 : ∀ g, lfOd { s with l := lfUp s id st wy } g = lfOd s g := fun g => od_congr fun k hk => up_fl s id st wy k s.d s.r
  refine ⟨h.ok.up id hst s.d h.ok.d, fun k hk => ?_, fun g => ?_, fun g => ?_⟩
  · have hne : k ≠ id := fun e => h1 (by rw [← e]; exact h.t k hk)
    exact (up_st s id st wy k s.d s.r hne).trans (h.t k hk)
  · rw [e1]; exact h.p g
  · rw [e1, h.c g]
    have := up_cn s id st wy s.d s.r hi g 3
    rw [if_neg (by omega), if_neg (by omega)] at this
    show lfCn s g 3 = lfCn ⟨lfUp s id st wy, s.d, s.r⟩ g 3
    omega
theorem LfO.snd {s : LfS} (h : LfO s) (id : Int) : LfO (s.snd id) := by
  unfold LfS.snd
  split
  · rename_i hE
    have h12 : lfSt s id = 1 ∨ lfSt s id = 2 := by
      unfold lfSdE at hE
      by_cases h1 : lfSt s id = 0
      · rw [if_pos h1] at hE; cases hE
      · rw [if_neg h1] at hE
        by_cases h2 : lfSt s id = 1 ∨ lfSt s id = 2
        · exact h2
        · rw [if_neg h2] at hE; cases hE
    exact h.up (lfSt_in (by omega)) (by omega) (by decide) (by decide)
  · exact h
theorem LfO.drp {s : LfS} (h : LfO s) (id y : Int) : LfO (s.drp id y) := by
  unfold LfS.drp
  split
  · rename_i hE
    have h12 : lfSt s id = 1 ∨ lfSt s id = 2 := by
      unfold lfDpE at hE
      by_cases h1 : lfSt s id = 0
      · rw [if_pos h1] at hE; cases hE
      · rw [if_neg h1] at hE
        by_cases h2 : y < 1 ∨ 4 < y
        · rw [if_pos h2] at hE; cases hE
        · rw [if_neg h2] at hE
          by_cases h3 : lfSt s id ≠ 1 ∧ lfSt s id ≠ 2
          · rw [if_pos h3] at hE; cases hE
          · omega
    exact h.up (lfSt_in (by omega)) (by omega) (by decide) (by decide)
  · exact h
theorem LfO.rfs {s : LfS} (h : LfO s) (f : Int) : LfO (s.rfs f) := by
  unfold LfS.rfs
  split
  · exact ⟨⟨h.ok.e, h.ok.d⟩, h.t, h.p, h.c⟩
  · exact h
theorem LfO.dlv {s : LfS} (h : LfO s) (id : Int) : LfO (s.dlv id) := by
  have hok := h.ok.dlv id
  unfold LfS.dlv at hok ⊢
  split
  · rename_i hE
    rw [if_pos hE] at hok
    obtain ⟨h2, ho⟩ := lfDvE_ok hE
    have hi : lfIn s id := lfSt_in (by omega)
    have e0 : ∀ k, lfFl ⟨lfUp s id 3 (lfWy s id), s.d ++ [id], s.r⟩ k = lfFl s k := fun k => up_fl s id 3 _ k _ _
    have e1 : ∀ g, lfOd ⟨lfUp s id 3 (lfWy s id), s.d ++ [id], s.r⟩ g = lfOd s g ++ if lfFl s id = g then [id] else [] := fun g => by
      unfold lfOd
      simp only [List.filter_append, e0]
      congr 1
      by_cases hg : lfFl s id = g
      · simp [hg]
      · simp [hg]
    refine ⟨hok, fun k hk => ?_, fun g => ?_, fun g => ?_⟩
    · by_cases hne : k = id
      · rw [hne]; exact up_self s id 3 _ _ _ hi
      · rw [up_st s id 3 _ k _ _ hne]
        rcases List.mem_append.1 hk with h3 | h3
        · exact h.t k h3
        · exact absurd (List.mem_singleton.1 h3) hne
    · rw [e1]
      split
      · rename_i hg
        rw [List.pairwise_append]
        refine ⟨h.p g, List.pairwise_singleton _ _, fun a ha b hb => ?_⟩
        rw [List.mem_singleton] at hb
        subst hb
        obtain ⟨ha1, ha2⟩ := List.mem_filter.1 ha
        have ha3 : lfFl s a = g := by simpa using ha2
        have h4 : ¬ b < a := fun hlt => by
          unfold lfOver at ho
          rw [List.any_eq_false] at ho
          have := ho a ha1
          rw [ha3, hg] at this
          simp [hlt] at this
        have h5 : a ≠ b := fun e => by have := h.t a ha1; rw [e, h2] at this; cases this
        omega
      · rw [List.append_nil]; exact h.p g
    · rw [e1]
      have h6 := up_cn s id 3 (lfWy s id) (s.d ++ [id]) s.r hi g 3
      have h7 := h.c g
      have h8 : ¬ (lfFl s id = g ∧ lfSt s id = 3) := by omega
      rw [if_neg h8] at h6
      by_cases hg : lfFl s id = g
      · rw [if_pos hg, List.length_append]
        rw [if_pos ⟨hg, rfl⟩] at h6
        simp only [List.length_singleton]
        push_cast
        omega
      · rw [if_neg hg, List.append_nil]
        rw [if_neg (fun h9 => hg h9.1)] at h6
        omega
  · exact h
end Go.Proofs.Ytkhngfadhfomoaa

