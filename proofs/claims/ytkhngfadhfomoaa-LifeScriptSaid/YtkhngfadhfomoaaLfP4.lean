/-
  Layer 18, plain and memory: what the program holds after each call; an object that is turned beside others.
-/
import Derived.Test.YtkhngfadhfomoaaLfP3
import Derived.Test.YtkhngfadhfomoaaRowS
namespace Go.Proofs.Ytkhngfadhfomoaa
open Go.ChangeShapes Go.WideShapes Go.ChangeAt Go.RowKit
set_option linter.unusedVariables false

theorem At.more {T : Nat → Prop} {w w1 : World} {P Q : RP} (h : At T w (Star P Q) w1) (hP : Frm 0 P) : ∃ B, Q B w1 ∧ ∀ {R : RP} {w2 : World}, ((∃ T2, R T2 w2 ∧ ∀ k, T2 k → B k ∨ w1.heap.size ≤ k) ∧ Chg B w1 w2) → At T w (Star P R) w2 := by
  obtain ⟨T1, ⟨A, B, hT, hd, hp, hq⟩, h2, h3⟩ := h
  refine ⟨B, hq, fun {R w2} ⟨⟨T2, hr, hT2⟩, hc⟩ => ⟨fun k => A k ∨ T2 k, ⟨A, T2, fun k => Iff.rfl, fun k ha ht => ?_, hP.chg hp hc (fun _ _ => Nat.zero_le _) (fun k hk hb => hd k hk hb), hr⟩, fun k hk => ?_, h3.join hc (fun k hk => h2 k ((hT k).2 (.inr hk)))⟩⟩
  · rcases hT2 k ht with h9 | h9
    · exact hd k ha h9
    · have := hP.lt hp k ha; omega
  · rcases hk with h9 | h9
    · exact h2 k ((hT k).2 (.inl h9))
    · rcases hT2 k h9 with h8 | h8
      · exact h2 k ((hT k).2 (.inr h8))
      · exact .inr (Nat.le_trans h3.size h8)
theorem At.more1 {T : Nat → Prop} {w w1 : World} {Q : RP} (h : At T w Q w1) : ∃ B, Q B w1 ∧ ∀ {R : RP} {w2 : World}, ((∃ T2, R T2 w2 ∧ ∀ k, T2 k → B k ∨ w1.heap.size ≤ k) ∧ Chg B w1 w2) → At T w R w2 := by
  obtain ⟨B, hq, h2, h3⟩ := h
  refine ⟨B, hq, fun {R w2} ⟨⟨T2, hr, hT2⟩, hc⟩ => ⟨T2, hr, fun k hk => ?_, h3.join hc h2⟩⟩
  rcases hT2 k hk with h8 | h8
  · exact h2 k h8
  · exact .inr (Nat.le_trans h3.size h8)
/-! ### bytes and counts -/
theorem by_set (f : Int) : ∀ (l : List LfE) (i : Nat) (hi : i < l.length) (e : LfE), lfBy (l.set i e) f + (if l[i].f = f ∧ l[i].s = 3 then l[i].n else 0) = lfBy l f + (if e.f = f ∧ e.s = 3 then e.n else 0)
  | [], i, hi, e => absurd hi (by simp)
  | x :: l, 0, hi, e => by
    unfold lfBy
    simp only [List.set_cons_zero, List.getElem_cons_zero, List.filter_cons]
    by_cases h1 : e.f = f ∧ e.s = 3 <;> by_cases h2 : x.f = f ∧ x.s = 3 <;> simp [h1, h2] <;> omega
  | x :: l, i + 1, hi, e => by
    have ih := by_set f l i (by simpa using hi) e
    unfold lfBy at ih ⊢
    simp only [List.set_cons_succ, List.getElem_cons_succ, List.filter_cons]
    by_cases h2 : x.f = f ∧ x.s = 3 <;> simp [h2] <;> omega
theorem by_snoc (l : List LfE) (e : LfE) (f : Int) (h : e.s ≠ 3) : lfBy (l ++ [e]) f = lfBy l f := by
  unfold lfBy
  simp [List.filter_append, h]
section
variable {s : LfS} {id : Int} {k f j x : Nat} {e : LfE}
theorem up_is (hi : lfIn s id) (hk : k = lfI id) (he : s.l[k]'(hk ▸ lfI_lt hi) = e) (x y : Int) : lfUp s id x y = s.l.set k { e with s := x, y := y } := by
  subst hk he
  unfold lfUp
  rw [dif_pos hi]
/-- A packet of flow f has gone from state j to state x, but that its flow's numbers and bytes are as they were. -/
theorem LpP.moved {R : Nat} {m' : LpS} {T : Nat → Prop} {w : World} (h : LpP R m' T w) (hi : lfIn s id) (hk : k = lfI id) (he : s.l[k]'(hk ▸ lfI_lt hi) = e) (hef : e.f = f) (hes : e.s = j) (hf : f < 32) (hj : j < 5) (hx : x < 5) (hjx : x ≠ j) (y : Int) (d : List Int)
    (hd : ∀ g : Nat, g < 32 → lfOd ⟨lfUp s id x y, d, s.r⟩ g = m'.o g) (hl : m'.l = s.l.set k { e with s := x, y := y }) (hc : m'.c = ((lpM s).mv k f j x e).c) (hr : m'.r = (lpM s).r) (hb : ∀ g : Nat, g < 32 → lfBy (lfUp s id x y) g = m'.b g) : LpP R (lpM ⟨lfUp s id x y, d, s.r⟩) T w := by
  have e1 : lfFl s id = f := by unfold lfFl; rw [dif_pos hi]; subst hk; rw [he, hef]
  have e2 : lfSt s id = j := by unfold lfSt; rw [dif_pos hi]; subst hk; rw [he, hes]
  refine h.same ?_ (fun g i hg hi5 => ?_) (fun g hg => by rw [hr]; rfl) (fun g hg => hd g hg) (fun g hg => hb g hg)
  · rw [hl]; exact up_is hi hk he x y
  · have h9 := up_cn s id x y d s.r hi g i
    rw [e1, e2] at h9
    rw [hc]
    show lfCn ⟨lfUp s id x y, d, s.r⟩ g i = if g = f ∧ i = x then lfCn s f x + 1 else if g = f ∧ i = j then lfCn s f j - 1 else lfCn s g i
    by_cases h1 : g = f
    · subst h1
      by_cases h2 : i = x
      · subst h2
        rw [if_pos ⟨rfl, rfl⟩]
        rw [if_neg (fun h => hjx (by omega)), if_pos ⟨rfl, rfl⟩] at h9
        omega
      · rw [if_neg (fun h => h2 h.2)]
        by_cases h3 : i = j
        · subst h3
          rw [if_pos ⟨rfl, rfl⟩]
          rw [if_pos ⟨rfl, rfl⟩, if_neg (fun h => h2 (by omega))] at h9
          omega
        · rw [if_neg (fun h => h3 h.2)]
          rw [if_neg (fun h => h3 (by omega)), if_neg (fun h => h2 (by omega))] at h9
          omega
    · rw [if_neg (fun h => h1 h.1), if_neg (fun h => h1 h.1)]
      rw [if_neg (fun h => h1 (by omega)), if_neg (fun h => h1 (by omega))] at h9
      omega
theorem by_up (hi : lfIn s id) (hk : k = lfI id) (he : s.l[k]'(hk ▸ lfI_lt hi) = e) (h3 : e.s ≠ 3) (x y g : Int) : lfBy (lfUp s id x y) g = lfBy s.l g + if e.f = g ∧ x = 3 then e.n else 0 := by
  have h9 := by_set g s.l k (hk ▸ lfI_lt hi) { e with s := x, y := y }
  rw [up_is hi hk he]
  rw [he, if_neg (fun h => h3 h.2)] at h9
  simpa using h9
theorem od_up (x y g : Int) : lfOd ⟨lfUp s id x y, s.d, s.r⟩ g = lfOd s g := od_congr fun k hk => up_fl s id x y k s.d s.r
theorem od_dlv (y g : Int) : lfOd ⟨lfUp s id 3 y, s.d ++ [id], s.r⟩ g = lfOd s g ++ if lfFl s id = g then [id] else [] := by
  have e0 : ∀ k, lfFl ⟨lfUp s id 3 y, s.d ++ [id], s.r⟩ k = lfFl s k := fun k => up_fl s id 3 _ k _ _
  unfold lfOd
  simp only [List.filter_append, e0]
  congr 1
  by_cases hg : lfFl s id = g
  · simp [hg]
  · simp [hg]
/-- Whether a later packet of the flow has been delivered: the last one tells. -/
theorem lfOver_nil (h : (lfOd s (lfFl s id)).length = 0) : lfOver s id = false := by
  unfold lfOver
  rw [List.any_eq_false]
  intro k hk h9
  have h8 : k ∈ lfOd s (lfFl s id) := List.mem_filter.2 ⟨hk, by simp at h9; simpa using h9.2⟩
  rw [List.eq_nil_of_length_eq_zero h] at h8
  cases h8
theorem lfOver_last (h : LfO s) {f : Int} (hf : lfFl s id = f) {q : Nat} (hq : (lfOd s f).length = q + 1) : lfOver s id = decide (id < (lfOd s f)[q]'(by omega)) := by
  subst hf
  have hp := h.p (lfFl s id)
  obtain ⟨L, hL⟩ : ∃ L, lfOd s (lfFl s id) = L := ⟨_, rfl⟩
  have hm : ∀ k, k ∈ L ↔ k ∈ s.d ∧ lfFl s k = lfFl s id := fun k => by rw [← hL]; unfold lfOd; rw [List.mem_filter]; simp
  simp only [hL] at hq hp ⊢
  by_cases hlt : id < L[q]'(by omega)
  · rw [decide_eq_true hlt]
    unfold lfOver
    rw [List.any_eq_true]
    obtain ⟨h1, h2⟩ := (hm _).1 (List.getElem_mem (l := L) (n := q) (by omega))
    exact ⟨_, h1, by simp [hlt, h2]⟩
  · rw [decide_eq_false hlt]
    unfold lfOver
    rw [List.any_eq_false]
    intro k hk h9
    simp at h9
    obtain ⟨i, hi, rfl⟩ := List.getElem_of_mem ((hm k).2 ⟨hk, h9.2⟩)
    by_cases hiq : i = q
    · subst hiq; exact hlt h9.1
    · have := List.pairwise_iff_getElem.1 hp i q hi (by omega) (by omega)
      omega
end
end Go.Proofs.Ytkhngfadhfomoaa

