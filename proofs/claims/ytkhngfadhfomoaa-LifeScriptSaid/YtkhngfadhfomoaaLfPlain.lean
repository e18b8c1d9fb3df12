/-
  Layer 18, plain: a table of packets, its calls and answers. No program is named.
-/
import Derived.Test.YtkhngfadhfomoaaPlain
namespace Go.Proofs.Ytkhngfadhfomoaa
set_option linter.unusedVariables false

/-- A packet: flow, length, state, reason. -/
structure LfE where
  f : Int
  n : Int
  s : Int
  y : Int
/-- A table: its packets, the numbers delivered, the refused ones of each flow. -/
structure LfS where
  l : List LfE
  d : List Int
  r : Int → Int
def LfS.new : LfS := ⟨[], [], fun _ => 0⟩
def lfF (f : Int) : Bool := decide (0 ≤ f) && decide (f < 32)
theorem lfF_yes {f : Int} (h : lfF f = true) : 0 ≤ f ∧ f < 32 := by unfold lfF at h; simpa using h
theorem lfF_of {f : Int} (h : 0 ≤ f ∧ f < 32) : lfF f = true := by unfold lfF; simpa using h
theorem lfF_no {f : Int} (h : lfF f = false) : f < 0 ∨ 32 ≤ f := by
  rcases Int.lt_or_le f 0 with h1 | h1
  · exact .inl h1
  · rcases Int.lt_or_le f 32 with h2 | h2
    · rw [lfF_of ⟨h1, h2⟩] at h; cases h
    · exact .inr h2
/-- The place of a number. -/
def lfI (id : Int) : Nat := (id - 1).toNat
def lfIn (s : LfS) (id : Int) : Prop := 1 ≤ id ∧ id ≤ s.l.length
instance (s : LfS) (id : Int) : Decidable (lfIn s id) := by unfold lfIn; exact inferInstance
theorem lfI_lt {s : LfS} {id : Int} (h : lfIn s id) : lfI id < s.l.length := by unfold lfIn at h; unfold lfI; omega
theorem lfI_is {s : LfS} {id : Int} (h : lfIn s id) : id - 1 = (lfI id : Int) := by unfold lfIn at h; unfold lfI; omega
def lfSt (s : LfS) (id : Int) : Int := if h : lfIn s id then s.l[lfI id]'(lfI_lt h) |>.s else 0
def lfWy (s : LfS) (id : Int) : Int := if h : lfIn s id then s.l[lfI id]'(lfI_lt h) |>.y else 0
def lfFl (s : LfS) (id : Int) : Int := if h : lfIn s id then s.l[lfI id]'(lfI_lt h) |>.f else 0
def lfUp (s : LfS) (id st wy : Int) : List LfE := if h : lfIn s id then s.l.set (lfI id) { s.l[lfI id]'(lfI_lt h) with s := st, y := wy } else s.l
def lfAcE (f n : Int) : Int := if lfF f = true ∧ 1 ≤ n ∧ n ≤ 4096 then 0 else 1
def lfAcV (s : LfS) (f n : Int) : Int := if lfAcE f n = 0 then s.l.length + 1 else 0
def LfS.acc (s : LfS) (f n : Int) : LfS := if lfAcE f n = 0 then { s with l := s.l ++ [⟨f, n, 1, 0⟩] } else s
def lfRfE (f : Int) : Int := if lfF f = true then 0 else 1
def LfS.rfs (s : LfS) (f : Int) : LfS := if lfF f = true then { s with r := fun k => if k = f then s.r f + 1 else s.r k } else s
def lfSdE (s : LfS) (id : Int) : Int := if lfSt s id = 0 then 6 else if lfSt s id = 1 ∨ lfSt s id = 2 then 0 else 14
def LfS.snd (s : LfS) (id : Int) : LfS := if lfSdE s id = 0 then { s with l := lfUp s id 2 (lfWy s id) } else s
/-- Has a packet of the same flow with a greater number been delivered? -/
def lfOver (s : LfS) (id : Int) : Bool := s.d.any fun k => decide (id < k) && (lfFl s k == lfFl s id)
def lfDvE (s : LfS) (id : Int) : Int := if lfSt s id = 0 then 6 else if lfSt s id ≠ 2 then 14 else if lfOver s id = true then 1 else 0
def LfS.dlv (s : LfS) (id : Int) : LfS := if lfDvE s id = 0 then { s with l := lfUp s id 3 (lfWy s id), d := s.d ++ [id] } else s
def lfDpE (s : LfS) (id y : Int) : Int := if lfSt s id = 0 then 6 else if y < 1 ∨ 4 < y then 1 else if lfSt s id ≠ 1 ∧ lfSt s id ≠ 2 then 14 else 0
def LfS.drp (s : LfS) (id y : Int) : LfS := if lfDpE s id y = 0 then { s with l := lfUp s id 4 y } else s
def lfCn (s : LfS) (f x : Int) : Int := (s.l.filter fun e => e.f == f && e.s == x).length
def lfOd (s : LfS) (f : Int) : List Int := s.d.filter fun k => lfFl s k == f
def lfAn (l : List LfE) (f : Int) : Int := (l.filter fun e => e.f == f).length
def lfBy (l : List LfE) (f : Int) : Int := ((l.filter fun e => e.f == f && e.s == 3).map (·.n)).sum
/-! ### what stays -/
structure LfOk (s : LfS) : Prop where
  e : ∀ x ∈ s.l, (0 ≤ x.f ∧ x.f < 32) ∧ (1 ≤ x.n ∧ x.n ≤ 4096) ∧ 1 ≤ x.s ∧ x.s ≤ 4
  d : ∀ k ∈ s.d, lfIn s k
/-- Nothing has grown beyond N. -/
structure LfB (s : LfS) (N : Nat) : Prop where
  l : s.l.length ≤ N
  d : s.d.length ≤ N
  r : ∀ k, 0 ≤ s.r k ∧ s.r k ≤ N
theorem LfOk.new : LfOk LfS.new := ⟨(fun x hx => by cases hx), (fun x hx => by cases hx)⟩
theorem LfB.new (N : Nat) : LfB LfS.new N := ⟨by simp [LfS.new], by simp [LfS.new], fun k => by simp [LfS.new]⟩
theorem lfUp_len (s : LfS) (id st wy : Int) : (lfUp s id st wy).length = s.l.length := by unfold lfUp; split <;> simp
theorem lfSt_in {s : LfS} {id : Int} (h : lfSt s id ≠ 0) : lfIn s id := by
  by_cases h1 : lfIn s id
  · exact h1
  · unfold lfSt at h; rw [dif_neg h1] at h; exact absurd rfl h
theorem LfOk.st {s : LfS} (h : LfOk s) (id : Int) : (lfIn s id → 1 ≤ lfSt s id ∧ lfSt s id ≤ 4) ∧ 0 ≤ lfSt s id ∧ lfSt s id ≤ 4 := by
  by_cases h1 : lfIn s id
  · have h2 := h.e _ (List.getElem_mem (lfI_lt h1))
    have e : lfSt s id = (s.l[lfI id]'(lfI_lt h1)).s := by unfold lfSt; rw [dif_pos h1]
    rw [e]; exact ⟨fun _ => h2.2.2, by omega, by omega⟩
  · have e : lfSt s id = 0 := by unfold lfSt; rw [dif_neg h1]
    rw [e]; exact ⟨fun h2 => absurd h2 h1, by omega, by omega⟩
theorem LfOk.up {s : LfS} (h : LfOk s) (id : Int) {st wy : Int} (hs : 1 ≤ st ∧ st ≤ 4) (d : List Int) (hd : ∀ k ∈ d, lfIn s k) : LfOk { s with l := lfUp s id st wy, d := d } := by
  refine ⟨fun x hx => ?_, fun k hk => ?_⟩
  · by_cases h1 : lfIn s id
    · simp only [lfUp, dif_pos h1] at hx
      rcases List.mem_or_eq_of_mem_set hx with hx | rfl
      · exact h.e x hx
      · have := h.e _ (List.getElem_mem (lfI_lt h1))
        exact ⟨this.1, this.2.1, hs⟩
    · simp only [lfUp, dif_neg h1] at hx
      exact h.e x hx
  · have := hd k hk
    unfold lfIn at this ⊢
    show 1 ≤ k ∧ k ≤ (lfUp s id st wy).length
    rw [lfUp_len]; exact this
theorem LfOk.acc {s : LfS} (h : LfOk s) (f n : Int) : LfOk (s.acc f n) := by
  unfold LfS.acc
  split
  · rename_i hE
    have hf : lfF f = true ∧ 1 ≤ n ∧ n ≤ 4096 := by
      unfold lfAcE at hE
      by_cases h1 : lfF f = true ∧ 1 ≤ n ∧ n ≤ 4096
      · exact h1
      · rw [if_neg h1] at hE; cases hE
    refine ⟨fun x hx => ?_, fun k hk => ?_⟩
    · rw [List.mem_append, List.mem_singleton] at hx
      rcases hx with hx | rfl
      · exact h.e x hx
      · exact ⟨lfF_yes hf.1, hf.2, by show (1 : Int) ≤ 1 ∧ (1 : Int) ≤ 4; omega⟩
    · have := h.d k hk
      unfold lfIn at this ⊢
      simp only [List.length_append, List.length_singleton]; omega
  · exact h
theorem LfOk.rfs {s : LfS} (h : LfOk s) (f : Int) : LfOk (s.rfs f) := by
  unfold LfS.rfs
  split
  · exact ⟨h.e, h.d⟩
  · exact h
theorem LfOk.snd {s : LfS} (h : LfOk s) (id : Int) : LfOk (s.snd id) := by
  unfold LfS.snd
  split
  · exact h.up id (by omega) s.d h.d
  · exact h
theorem lfDvE_ok {s : LfS} {id : Int} (h : lfDvE s id = 0) : lfSt s id = 2 ∧ lfOver s id = false := by
  unfold lfDvE at h
  by_cases h1 : lfSt s id = 0
  · rw [if_pos h1] at h; cases h
  · rw [if_neg h1] at h
    by_cases h2 : lfSt s id ≠ 2
    · rw [if_pos h2] at h; cases h
    · rw [if_neg h2] at h
      refine ⟨Decidable.byContradiction h2, ?_⟩
      cases ho : lfOver s id
      · rfl
      · rw [if_pos ho] at h; cases h
theorem LfOk.dlv {s : LfS} (h : LfOk s) (id : Int) : LfOk (s.dlv id) := by
  unfold LfS.dlv
  split
  · rename_i hE
    have h2 := lfSt_in (s := s) (id := id) (by rw [(lfDvE_ok hE).1]; omega)
    refine h.up id (by omega) (s.d ++ [id]) fun k hk => ?_
    rw [List.mem_append, List.mem_singleton] at hk
    rcases hk with hk | rfl
    · exact h.d k hk
    · exact h2
  · exact h
theorem LfOk.drp {s : LfS} (h : LfOk s) (id y : Int) : LfOk (s.drp id y) := by
  unfold LfS.drp
  split
  · exact h.up id (by omega) s.d h.d
  · exact h
theorem LfB.acc {s : LfS} {N : Nat} (h : LfB s N) (f n : Int) : LfB (s.acc f n) (N + 1) := by
  unfold LfS.acc
  have h1 := h.l
  have h2 := h.d
  split
  · exact ⟨by simp only [List.length_append, List.length_singleton]; omega, by simp only; omega, fun k => by have := h.r k; simp only; omega⟩
  · exact ⟨by omega, by omega, fun k => by have := h.r k; omega⟩
theorem LfB.up {s : LfS} {N M : Nat} (h : LfB s N) (hM : N ≤ M) : LfB s M := ⟨Nat.le_trans h.l hM, Nat.le_trans h.d hM, fun k => by have := h.r k; omega⟩
theorem LfB.rfs {s : LfS} {N : Nat} (h : LfB s N) (f : Int) : LfB (s.rfs f) (N + 1) := by
  unfold LfS.rfs
  have h1 := h.l
  have h2 := h.d
  split
  · refine ⟨by simp only; omega, by simp only; omega, fun k => ?_⟩
    have h3 := h.r k
    have h4 := h.r f
    simp only
    split <;> omega
  · exact h.up (by omega)
theorem LfB.snd {s : LfS} {N : Nat} (h : LfB s N) (id : Int) : LfB (s.snd id) (N + 1) := by
  unfold LfS.snd
  split
  · exact LfB.up ⟨by simp only [lfUp_len]; exact h.l, h.d, h.r⟩ (by omega)
  · exact h.up (by omega)
theorem LfB.dlv {s : LfS} {N : Nat} (h : LfB s N) (id : Int) : LfB (s.dlv id) (N + 1) := by
  unfold LfS.dlv
  have h2 := h.d
  split
  · exact ⟨by simp only [lfUp_len]; have := h.l; omega, by simp only [List.length_append, List.length_singleton]; omega, fun k => by have := h.r k; simp only; omega⟩
  · exact h.up (by omega)
theorem LfB.drp {s : LfS} {N : Nat} (h : LfB s N) (id y : Int) : LfB (s.drp id y) (N + 1) := by
  unfold LfS.drp
  split
  · exact LfB.up ⟨by simp only [lfUp_len]; exact h.l, h.d, h.r⟩ (by omega)
  · exact h.up (by omega)
theorem lfilter_yes {α : Type} (p : α → Bool) (l : List α) {k : Nat} (hk : k < l.length) (h : p l[k] = true) : (l.take (k + 1)).filter p = (l.take k).filter p ++ [l[k]] := by
  rw [List.take_succ_eq_append_getElem hk, List.filter_append]; simp [h]
theorem lfilter_no {α : Type} (p : α → Bool) (l : List α) {k : Nat} (hk : k < l.length) (h : p l[k] = false) : (l.take (k + 1)).filter p = (l.take k).filter p := by
  rw [List.take_succ_eq_append_getElem hk, List.filter_append]; simp [h]
end Go.Proofs.Ytkhngfadhfomoaa

