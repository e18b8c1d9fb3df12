/-
  Layer 17, plain: what a receiver answers, and what it is afterwards. No program is named.
-/
import Derived.Test.YthmncipenjhknaaBmBits
namespace Go.Proofs.Ythmncipenjhknaa
set_option linter.unusedVariables false

/-- A held packet: its number, its id. -/
structure RcE where
  q : Int
  i : Int
/-- A receiver: its window, the expected number, the held packets. -/
structure RcS where
  w : Int
  nx : Int
  l : List RcE
def rcB (w : Int) : Bool := decide (1 ≤ w) && decide (w ≤ 64)
theorem rcB_yes {w : Int} (h : rcB w = true) : 1 ≤ w ∧ w ≤ 64 := by
  unfold rcB at h
  simp only [Bool.and_eq_true, decide_eq_true_eq] at h
  exact h
theorem rcB_of {w : Int} (h : 1 ≤ w ∧ w ≤ 64) : rcB w = true := by
  unfold rcB
  simp only [Bool.and_eq_true, decide_eq_true_eq]
  exact h
def RcS.new (w : Int) : RcS := ⟨w, 0, []⟩
/-- The place of a number; the length if it is not there. -/
def rcK (l : List RcE) (q : Int) : Nat := l.findIdx (fun x => x.q == q)
theorem rcK_at {l : List RcE} {q : Int} (h : rcK l q < l.length) : l[rcK l q].q = q := by
  have h2 := List.findIdx_getElem (p := fun (x : RcE) => x.q == q) (xs := l) (w := h)
  exact eq_of_beq h2
theorem rcK_ne {l : List RcE} {q : Int} {k : Nat} (h : k < rcK l q) (hk : k < l.length) : l[k].q ≠ q := by
  have h2 := List.not_of_lt_findIdx (p := fun (x : RcE) => x.q == q) (xs := l) h
  intro e
  simp [e] at h2
theorem rcK_le (l : List RcE) (q : Int) : rcK l q ≤ l.length := List.findIdx_le_length
theorem rcK_is {l : List RcE} {q : Int} {k : Nat} (hk : k < l.length) (h : l[k].q = q) (h2 : ∀ j (hj : j < l.length), j < k → l[j].q ≠ q) : rcK l q = k := by
  have h3 := rcK_le l q
  rcases Nat.lt_trichotomy (rcK l q) k with h1 | h1 | h1
  · exact absurd (rcK_at (by omega)) (h2 _ (by omega) h1)
  · exact h1
  · exact absurd h (rcK_ne h1 hk)
theorem rcK_none {l : List RcE} {q : Int} (h2 : ∀ j (hj : j < l.length), l[j].q ≠ q) : rcK l q = l.length := by
  have h3 := rcK_le l q
  rcases Nat.lt_or_ge (rcK l q) l.length with h1 | h1
  · exact absurd (rcK_at h1) (h2 _ h1)
  · omega
/-- The id at a number, or 0; the list without it. -/
def rcTk (l : List RcE) (q : Int) : Int := if h : rcK l q < l.length then l[rcK l q].i else 0
def rcRm (l : List RcE) (q : Int) : List RcE := if rcK l q < l.length then l.take (rcK l q) ++ l.drop (rcK l q + 1) else l
theorem rcRm_len (l : List RcE) (q : Int) : (rcRm l q).length ≤ l.length := by
  unfold rcRm
  split
  · rw [List.length_append, List.length_take, List.length_drop]; omega
  · exact Nat.le_refl _
theorem rcRm_lt {l : List RcE} {q : Int} (h : rcK l q < l.length) : (rcRm l q).length + 1 = l.length := by
  unfold rcRm
  rw [if_pos h, List.length_append, List.length_take, List.length_drop]; omega
theorem rcRm_mem {l : List RcE} {q : Int} : ∀ x ∈ rcRm l q, x ∈ l := by
  intro x hx
  unfold rcRm at hx
  split at hx
  · rw [List.mem_append] at hx
    rcases hx with hx | hx
    · exact List.mem_of_mem_take hx
    · exact List.mem_of_mem_drop hx
  · exact hx
/-- One number further. -/
def rcSt (s : RcS) : RcS := { s with nx := (s.nx + 1) % 65536, l := rcRm s.l s.nx }
def rcSo (s : RcS) : List Int := if 0 < rcTk s.l s.nx then [rcTk s.l s.nx] else []
/-- k numbers further. -/
def rcMv (s : RcS) : Nat → RcS
  | 0 => s
  | k + 1 => rcSt (rcMv s k)
def rcMo (s : RcS) : Nat → List Int
  | 0 => []
  | k + 1 => rcMo s k ++ rcSo (rcMv s k)
theorem rcMv_w (s : RcS) (k : Nat) : (rcMv s k).w = s.w := by
  induction k with
  | zero => rfl
  | succ k ih => exact ih
theorem rcMv_nx {s : RcS} (h : 0 ≤ s.nx ∧ s.nx < 65536) (k : Nat) : (rcMv s k).nx = (s.nx + k) % 65536 := by
  induction k with
  | zero => show s.nx = (s.nx + 0) % 65536; omega
  | succ k ih =>
    show ((rcMv s k).nx + 1) % 65536 = (s.nx + (k + 1 : Nat)) % 65536
    rw [ih]; omega
theorem rcMv_len (s : RcS) (k : Nat) : (rcMv s k).l.length ≤ s.l.length := by
  induction k with
  | zero => exact Nat.le_refl _
  | succ k ih => exact Nat.le_trans (rcRm_len _ _) ih
theorem rcMo_len (s : RcS) (k : Nat) : (rcMo s k).length ≤ k := by
  induction k with
  | zero => exact Nat.le_refl _
  | succ k ih =>
    show (rcMo s k ++ rcSo (rcMv s k)).length ≤ k + 1
    rw [List.length_append]
    unfold rcSo
    split <;> simp <;> omega
/-- How many numbers from the expected one on are held one after the other. -/
def rcRnF : Nat → RcS → Nat
  | 0, _ => 0
  | f + 1, s => if rcTk s.l s.nx = 0 then 0 else rcRnF f (rcSt s) + 1
def rcRn (s : RcS) : Nat := rcRnF s.l.length s
theorem rcMv_shift (s : RcS) (k : Nat) : rcMv (rcSt s) k = rcMv s (k + 1) := by
  induction k with
  | zero => rfl
  | succ k ih => show rcSt (rcMv (rcSt s) k) = rcSt (rcMv s (k + 1)); rw [ih]
theorem rcTk_zero {l : List RcE} {q : Int} (h : ¬ rcK l q < l.length) : rcTk l q = 0 := by unfold rcTk; rw [dif_neg h]
theorem rcTk_of {l : List RcE} {q : Int} (h : rcTk l q ≠ 0) : rcK l q < l.length := by
  rcases Nat.lt_or_ge (rcK l q) l.length with h1 | h1
  · exact h1
  · exact absurd (rcTk_zero (by omega)) h
theorem rcRnF_spec : ∀ (f : Nat) (s : RcS), s.l.length ≤ f → (∀ k, k < rcRnF f s → rcTk (rcMv s k).l (rcMv s k).nx ≠ 0) ∧ rcTk (rcMv s (rcRnF f s)).l (rcMv s (rcRnF f s)).nx = 0 ∧ rcRnF f s ≤ s.l.length
  | 0, s, hf => by
    refine ⟨fun k hk => absurd hk (by simp [rcRnF]), ?_, by simp [rcRnF]⟩
    show rcTk s.l s.nx = 0
    exact rcTk_zero (by omega)
  | f + 1, s, hf => by
    unfold rcRnF
    by_cases h0 : rcTk s.l s.nx = 0
    · rw [if_pos h0]
      exact ⟨fun k hk => absurd hk (by omega), h0, Nat.zero_le _⟩
    · rw [if_neg h0]
      have hl := rcRm_lt (rcTk_of h0)
      have hl2 : (rcSt s).l.length + 1 = s.l.length := hl
      obtain ⟨h1, h2, h3⟩ := rcRnF_spec f (rcSt s) (by omega)
      refine ⟨fun k hk => ?_, by rw [← rcMv_shift]; exact h2, by omega⟩
      rcases Nat.eq_zero_or_pos k with rfl | hk0
      · exact h0
      · obtain ⟨j, rfl⟩ : ∃ j, k = j + 1 := ⟨k - 1, by omega⟩
        rw [← rcMv_shift]
        exact h1 j (Nat.lt_of_succ_lt_succ hk)
theorem rcRn_yes (s : RcS) {k : Nat} (h : k < rcRn s) : rcTk (rcMv s k).l (rcMv s k).nx ≠ 0 := (rcRnF_spec _ s (Nat.le_refl _)).1 k h
theorem rcRn_end (s : RcS) : rcTk (rcMv s (rcRn s)).l (rcMv s (rcRn s)).nx = 0 := (rcRnF_spec _ s (Nat.le_refl _)).2.1
theorem rcRn_le (s : RcS) : rcRn s ≤ s.l.length := (rcRnF_spec _ s (Nat.le_refl _)).2.2
/-- The place at which a number is put in, by its distance from the expected one. -/
def rcIx (s : RcS) (q : Int) : Nat := s.l.findIdx (fun x => decide (dsV s.nx q < dsV s.nx x.q))
def rcIn (s : RcS) (x : RcE) : RcS := { s with l := s.l.take (rcIx s x.q) ++ x :: s.l.drop (rcIx s x.q) }
theorem rcIx_le (s : RcS) (q : Int) : rcIx s q ≤ s.l.length := List.findIdx_le_length
theorem rcIx_is {s : RcS} {q : Int} {k : Nat} (hk : k < s.l.length) (h : dsV s.nx q < dsV s.nx s.l[k].q) (h2 : ∀ j (hj : j < s.l.length), j < k → ¬ dsV s.nx q < dsV s.nx s.l[j].q) : rcIx s q = k := by
  have h3 := rcIx_le s q
  rcases Nat.lt_trichotomy (rcIx s q) k with h1 | h1 | h1
  · have h4 := List.findIdx_getElem (p := fun (x : RcE) => decide (dsV s.nx q < dsV s.nx x.q)) (xs := s.l) (w := show rcIx s q < s.l.length by omega)
    have h5 : dsV s.nx q < dsV s.nx (s.l[rcIx s q]'(by omega)).q := of_decide_eq_true h4
    exact absurd h5 (h2 (rcIx s q) (by omega) h1)
  · exact h1
  · have h4 := List.not_of_lt_findIdx (p := fun (x : RcE) => decide (dsV s.nx q < dsV s.nx x.q)) (xs := s.l) h1
    simp [h] at h4
theorem rcIx_none {s : RcS} {q : Int} (h2 : ∀ j (hj : j < s.l.length), ¬ dsV s.nx q < dsV s.nx s.l[j].q) : rcIx s q = s.l.length := by
  have h3 := rcIx_le s q
  rcases Nat.lt_or_ge (rcIx s q) s.l.length with h1 | h1
  · have h4 := List.findIdx_getElem (p := fun (x : RcE) => decide (dsV s.nx q < dsV s.nx x.q)) (xs := s.l) (w := h1)
    exact absurd (of_decide_eq_true h4) (h2 _ h1)
  · omega
/-! ### Receive, Skip -/
def rcBsE (s : RcS) (b : Int) : Int := if 32768 ≤ dsV s.nx b ∧ s.w < dsV b s.nx then 2 else 0
def rcRvE (s : RcS) (b q i : Int) : Int :=
  if dsE s.nx b ≠ 0 ∨ dsE b q ≠ 0 ∨ i < 1 then 1 else if (32768 ≤ dsV s.nx b ∧ s.w < dsV b s.nx) ∨ insB b s.w q = false then 2 else 0
/-- How far the base moves. -/
def rcM (s : RcS) (b : Int) : Nat := if befB s.nx b = true then (dsV s.nx b).toNat else 0
def rcThere (s : RcS) (q : Int) : Bool := befB q s.nx || decide (rcK s.l q < s.l.length)
def rcPut (s : RcS) (x : RcE) : RcS := if rcThere s x.q = true then s else rcIn s x
def RcS.rcv (s : RcS) (b q i : Int) : RcS := if rcRvE s b q i = 0 then (let s2 := rcPut (rcMv s (rcM s b)) ⟨q, i⟩; rcMv s2 (rcRn s2)) else s
def rcRvL (s : RcS) (b q i : Int) : List Int := if rcRvE s b q i = 0 then (let s2 := rcPut (rcMv s (rcM s b)) ⟨q, i⟩; rcMo s (rcM s b) ++ rcMo s2 (rcRn s2)) else []
def rcSkE (s : RcS) (b : Int) : Int := if dsE s.nx b ≠ 0 then 1 else if 32768 ≤ dsV s.nx b ∧ s.w < dsV b s.nx then 2 else 0
def RcS.skp (s : RcS) (b : Int) : RcS := if rcSkE s b = 0 then (let s2 := rcMv s (rcM s b); rcMv s2 (rcRn s2)) else s
def rcSkL (s : RcS) (b : Int) : List Int := if rcSkE s b = 0 then (let s2 := rcMv s (rcM s b); rcMo s (rcM s b) ++ rcMo s2 (rcRn s2)) else []
/-! ### Acks, Holds, Holding -/
def rcBt (s : RcS) : List RcE → Int
  | [] => 0
  | x :: l => rcBt s l + if dOf s.nx x.q < 64 then 2 ^ dOf s.nx x.q else 0
def rcHo (l : List RcE) (i : Int) : Bool := l.any (fun x => x.i == i)
def rcHl (s : RcS) : List Int := s.l.map (·.i)
/-! ### what stays -/
structure RcOk (s : RcS) : Prop where
  w : rcB s.w = true
  nx : 0 ≤ s.nx ∧ s.nx < 65536
  e : ∀ x ∈ s.l, (0 ≤ x.q ∧ x.q < 65536) ∧ 1 ≤ x.i
theorem RcOk.new {w : Int} (h : rcB w = true) : RcOk (RcS.new w) := ⟨h, by simp [RcS.new], by intro x hx; cases hx⟩
theorem RcOk.st {s : RcS} (h : RcOk s) : RcOk (rcSt s) := ⟨h.w, by simp only [rcSt]; omega, fun x hx => h.e x (rcRm_mem x hx)⟩
theorem RcOk.mv {s : RcS} (h : RcOk s) (k : Nat) : RcOk (rcMv s k) := by
  induction k with
  | zero => exact h
  | succ k ih => exact ih.st
theorem RcOk.in_ {s : RcS} (h : RcOk s) {x : RcE} (hx : (0 ≤ x.q ∧ x.q < 65536) ∧ 1 ≤ x.i) : RcOk (rcIn s x) := by
  refine ⟨h.w, h.nx, fun y hy => ?_⟩
  simp only [rcIn, List.mem_append, List.mem_cons] at hy
  rcases hy with hy | rfl | hy
  · exact h.e y (List.mem_of_mem_take hy)
  · exact hx
  · exact h.e y (List.mem_of_mem_drop hy)
theorem RcOk.put {s : RcS} (h : RcOk s) {x : RcE} (hx : (0 ≤ x.q ∧ x.q < 65536) ∧ 1 ≤ x.i) : RcOk (rcPut s x) := by
  unfold rcPut
  split
  · exact h
  · exact h.in_ hx
theorem rcRvE_ok {s : RcS} {b q i : Int} (h : rcRvE s b q i = 0) : dsE s.nx b = 0 ∧ dsE b q = 0 ∧ 1 ≤ i ∧ ¬ (32768 ≤ dsV s.nx b ∧ s.w < dsV b s.nx) ∧ insB b s.w q = true := by
  unfold rcRvE at h
  by_cases h1 : dsE s.nx b ≠ 0 ∨ dsE b q ≠ 0 ∨ i < 1
  · rw [if_pos h1] at h; cases h
  · rw [if_neg h1] at h
    by_cases h2 : (32768 ≤ dsV s.nx b ∧ s.w < dsV b s.nx) ∨ insB b s.w q = false
    · rw [if_pos h2] at h; cases h
    · refine ⟨?_, ?_, by omega, fun h3 => h2 (.inl h3), ?_⟩
      · exact Decidable.byContradiction fun h3 => h1 (.inl h3)
      · exact Decidable.byContradiction fun h3 => h1 (.inr (.inl h3))
      · cases h3 : insB b s.w q
        · exact absurd (.inr h3) h2
        · rfl
theorem RcOk.rcv {s : RcS} (h : RcOk s) (b q i : Int) : RcOk (s.rcv b q i) := by
  unfold RcS.rcv
  split
  · rename_i h0
    obtain ⟨h1, h2, h3, h4, h5⟩ := rcRvE_ok h0
    have hb : both b q = true := by
      cases hb : both b q
      · rw [(ds_no hb).2] at h2; cases h2
      · rfl
    exact ((h.mv _).put ⟨(both_bd hb).2, h3⟩).mv _
  · exact h
theorem RcOk.skp {s : RcS} (h : RcOk s) (b : Int) : RcOk (s.skp b) := by
  unfold RcS.skp
  split
  · exact (h.mv _).mv _
  · exact h
theorem rcIn_len (s : RcS) (x : RcE) : (rcIn s x).l.length = s.l.length + 1 := by
  have := rcIx_le s x.q
  simp only [rcIn, List.length_append, List.length_cons, List.length_take, List.length_drop]; omega
theorem rcPut_len (s : RcS) (x : RcE) : (rcPut s x).l.length ≤ s.l.length + 1 := by
  unfold rcPut
  split
  · omega
  · rw [rcIn_len]; exact Nat.le_refl _
theorem rcv_len (s : RcS) (b q i : Int) : (s.rcv b q i).l.length ≤ s.l.length + 1 := by
  unfold RcS.rcv
  split
  · exact Nat.le_trans (rcMv_len _ _) (Nat.le_trans (rcPut_len _ _) (by have := rcMv_len s (rcM s b); omega))
  · omega
theorem skp_len (s : RcS) (b : Int) : (s.skp b).l.length ≤ s.l.length := by
  unfold RcS.skp
  split
  · exact Nat.le_trans (rcMv_len _ _) (rcMv_len _ _)
  · exact Nat.le_refl _
end Go.Proofs.Ythmncipenjhknaa

