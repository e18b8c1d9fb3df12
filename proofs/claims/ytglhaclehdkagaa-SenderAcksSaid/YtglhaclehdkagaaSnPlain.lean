/-
  Layer 16, plain: what a sender answers, and what it is afterwards. No program is named.
-/
import Derived.Test.YtglhaclehdkagaaBmBits
namespace Go.Proofs.Ytglhaclehdkagaa
set_option linter.unusedVariables false

/-- A pending packet: its number, its id, its transmissions. -/
structure SnE where
  q : Int
  i : Int
  t : Int
/-- A sender: its window, its tries, the next number, the pending packets. -/
structure SnS where
  w : Int
  t : Int
  nx : Int
  l : List SnE
def snB (w t : Int) : Bool := (decide (1 ≤ w) && decide (w ≤ 64)) && (decide (1 ≤ t) && decide (t ≤ 16))
theorem snB_yes {w t : Int} (h : snB w t = true) : 1 ≤ w ∧ w ≤ 64 ∧ 1 ≤ t ∧ t ≤ 16 := by
  unfold snB at h
  simp only [Bool.and_eq_true, decide_eq_true_eq] at h
  omega
theorem snB_of {w t : Int} (h : 1 ≤ w ∧ w ≤ 64 ∧ 1 ≤ t ∧ t ≤ 16) : snB w t = true := by
  unfold snB
  simp only [Bool.and_eq_true, decide_eq_true_eq]
  omega
theorem snB_no {w t : Int} (h : ¬ (1 ≤ w ∧ w ≤ 64 ∧ 1 ≤ t ∧ t ≤ 16)) : snB w t = false := by
  cases hb : snB w t with
  | false => rfl
  | true => exact absurd (snB_yes hb) h
def SnS.new (w t : Int) : SnS := ⟨w, t, 0, []⟩
def snBase (s : SnS) : Int := match s.l with
  | [] => s.nx
  | x :: _ => x.q
def snD (s : SnS) : Int := dsV (snBase s) s.nx
def snOpen (s : SnS) : Bool := decide (0 < s.w - snD s)
def snAsE (s : SnS) (id : Int) : Int := if id < 1 then 1 else if snOpen s = true then 0 else 4
def snAsV (s : SnS) (id : Int) : Int := if snAsE s id = 0 then s.nx else 0
def SnS.asg (s : SnS) (id : Int) : SnS := if snAsE s id = 0 then { s with nx := (s.nx + 1) % 65536, l := s.l ++ [⟨s.nx, id, 0⟩] } else s
/-- The place of a number; the length if it is not there. -/
def snK (l : List SnE) (q : Int) : Nat := l.findIdx (fun x => x.q == q)
theorem snK_at {l : List SnE} {q : Int} (h : snK l q < l.length) : l[snK l q].q = q := by
  have h2 := List.findIdx_getElem (p := fun (x : SnE) => x.q == q) (xs := l) (w := h)
  exact eq_of_beq h2
theorem snK_ne {l : List SnE} {q : Int} {k : Nat} (h : k < snK l q) (hk : k < l.length) : l[k].q ≠ q := by
  have h2 := List.not_of_lt_findIdx (p := fun (x : SnE) => x.q == q) (xs := l) h
  intro e
  simp [e] at h2
theorem snK_le (l : List SnE) (q : Int) : snK l q ≤ l.length := List.findIdx_le_length
/-- By what a search from the left finds. -/
theorem snK_is {l : List SnE} {q : Int} {k : Nat} (hk : k < l.length) (h : l[k].q = q) (h2 : ∀ j (hj : j < l.length), j < k → l[j].q ≠ q) : snK l q = k := by
  have h3 := snK_le l q
  rcases Nat.lt_trichotomy (snK l q) k with h1 | h1 | h1
  · exact absurd (snK_at (by omega)) (h2 _ (by omega) h1)
  · exact h1
  · exact absurd h (snK_ne h1 hk)
theorem snK_none {l : List SnE} {q : Int} (h2 : ∀ j (hj : j < l.length), l[j].q ≠ q) : snK l q = l.length := by
  have h3 := snK_le l q
  rcases Nat.lt_or_ge (snK l q) l.length with h1 | h1
  · exact absurd (snK_at h1) (h2 _ h1)
  · omega
def snAt (l : List SnE) (q : Int) : Int := if snK l q < l.length then (snK l q : Nat) else -1
def snTr (l : List SnE) (q : Int) : Int := if h : snK l q < l.length then l[snK l q].t else 0
def snId (l : List SnE) (q : Int) : Int := if h : snK l q < l.length then l[snK l q].i else 0
def snSdE (s : SnS) (q : Int) : Int := if snK s.l q < s.l.length then (if s.t ≤ snTr s.l q then 14 else 0) else 6
def snSdV (s : SnS) (q : Int) : Int := if snSdE s q = 0 then snTr s.l q + 1 else 0
/-- The list in which the packet at place k has been sent once more. -/
def snUp (l : List SnE) (k : Nat) : List SnE := if h : k < l.length then l.set k { l[k] with t := l[k].t + 1 } else l
def SnS.snd (s : SnS) (q : Int) : SnS := if snSdE s q = 0 then { s with l := snUp s.l (snK s.l q) } else s
def snDrE (s : SnS) (q : Int) : Int := if snK s.l q < s.l.length then 0 else 6
def snDrV (s : SnS) (q : Int) : Int := snId s.l q
def snCut (l : List SnE) (k : Nat) : List SnE := l.take k ++ l.drop (k + 1)
def SnS.drp (s : SnS) (q : Int) : SnS := if snK s.l q < s.l.length then { s with l := snCut s.l (snK s.l q) } else s
/-- Is an acknowledgement of base b looked at? -/
def snAkB (s : SnS) (b : Int) : Bool := (decide (dsE (snBase s) b = 0) && decide (dsV (snBase s) b < 32768)) && decide (dsV (snBase s) b ≤ snD s)
def snGone (b m : Int) (x : SnE) : Bool := befB x.q b || hasB b m x.q
def snAkL (s : SnS) (b m : Int) : List Int := if snAkB s b = true then (s.l.filter (snGone b m)).map (·.i) else []
def SnS.ack (s : SnS) (b m : Int) : SnS := if snAkB s b = true then { s with l := s.l.filter (fun x => !snGone b m x) } else s
def snExh (s : SnS) : List SnE := s.l.filter (fun x => decide (s.t ≤ x.t))
/-! ### what stays -/
structure SnOk (s : SnS) : Prop where
  b : snB s.w s.t = true
  nx : 0 ≤ s.nx ∧ s.nx < 65536
  e : ∀ x ∈ s.l, (0 ≤ x.q ∧ x.q < 65536) ∧ 0 ≤ x.t ∧ x.t ≤ s.t
theorem SnOk.new {w t : Int} (h : snB w t = true) : SnOk (SnS.new w t) := ⟨h, by simp [SnS.new], by intro x hx; cases hx⟩
theorem SnOk.base {s : SnS} (h : SnOk s) : 0 ≤ snBase s ∧ snBase s < 65536 := by
  unfold snBase
  cases hl : s.l with
  | nil => exact h.nx
  | cons x l => exact (h.e x (by rw [hl]; simp)).1
theorem SnOk.asg {s : SnS} (h : SnOk s) (id : Int) : SnOk (s.asg id) := by
  unfold SnS.asg
  split
  · have hb := snB_yes h.b
    refine ⟨h.b, by simp only; omega, fun x hx => ?_⟩
    rw [List.mem_append, List.mem_singleton] at hx
    rcases hx with hx | rfl
    · exact h.e x hx
    · have := h.nx
      simp only; omega
  · exact h
theorem SnOk.snd {s : SnS} (h : SnOk s) (q : Int) : SnOk (s.snd q) := by
  unfold SnS.snd
  split
  · rename_i h0
    have hk : snK s.l q < s.l.length := by
      rcases Nat.lt_or_ge (snK s.l q) s.l.length with h1 | h1
      · exact h1
      · unfold snSdE at h0; rw [if_neg (by omega)] at h0; cases h0
    have ht : snTr s.l q < s.t := by
      unfold snSdE at h0; rw [if_pos hk] at h0
      by_cases h9 : s.t ≤ snTr s.l q
      · rw [if_pos h9] at h0; cases h0
      · omega
    refine ⟨h.b, h.nx, fun x hx => ?_⟩
    simp only [snUp, dif_pos hk] at hx
    rcases List.mem_or_eq_of_mem_set hx with hx | rfl
    · exact h.e x hx
    · have := h.e _ (List.getElem_mem hk)
      unfold snTr at ht; rw [dif_pos hk] at ht
      simp only; omega
  · exact h
theorem SnOk.sub {s : SnS} (h : SnOk s) {l : List SnE} (hl : ∀ x ∈ l, x ∈ s.l) : SnOk { s with l := l } := ⟨h.b, h.nx, fun x hx => h.e x (hl x hx)⟩
theorem snCut_mem {l : List SnE} {k : Nat} : ∀ x ∈ snCut l k, x ∈ l := by
  intro x hx
  unfold snCut at hx
  rw [List.mem_append] at hx
  rcases hx with hx | hx
  · exact List.mem_of_mem_take hx
  · exact List.mem_of_mem_drop hx
theorem SnOk.drp {s : SnS} (h : SnOk s) (q : Int) : SnOk (s.drp q) := by
  unfold SnS.drp
  split
  · exact h.sub snCut_mem
  · exact h
theorem SnOk.ack {s : SnS} (h : SnOk s) (b m : Int) : SnOk (s.ack b m) := by
  unfold SnS.ack
  split
  · exact h.sub fun x hx => (List.mem_filter.1 hx).1
  · exact h
/-! ### lengths -/
theorem snUp_len (l : List SnE) (k : Nat) : (snUp l k).length = l.length := by unfold snUp; split <;> simp
theorem snCut_len (l : List SnE) (k : Nat) : (snCut l k).length ≤ l.length := by unfold snCut; rw [List.length_append, List.length_take, List.length_drop]; omega
theorem asg_len (s : SnS) (id : Int) : (s.asg id).l.length ≤ s.l.length + 1 := by unfold SnS.asg; split <;> simp
theorem snd_len (s : SnS) (q : Int) : (s.snd q).l.length = s.l.length := by
  unfold SnS.snd
  split
  · exact snUp_len _ _
  · rfl
theorem drp_len (s : SnS) (q : Int) : (s.drp q).l.length ≤ s.l.length := by
  unfold SnS.drp
  split
  · exact snCut_len _ _
  · exact Nat.le_refl _
theorem ack_len (s : SnS) (b m : Int) : (s.ack b m).l.length ≤ s.l.length := by
  unfold SnS.ack
  split
  · exact List.length_filter_le _ _
  · exact Nat.le_refl _
/-! ### filters, step by step -/
theorem filter_yes {α : Type} (p : α → Bool) (l : List α) {k : Nat} (hk : k < l.length) (h : p l[k] = true) : (l.take (k + 1)).filter p = (l.take k).filter p ++ [l[k]] := by
  rw [List.take_succ_eq_append_getElem hk, List.filter_append]; simp [h]
theorem filter_no {α : Type} (p : α → Bool) (l : List α) {k : Nat} (hk : k < l.length) (h : p l[k] = false) : (l.take (k + 1)).filter p = (l.take k).filter p := by
  rw [List.take_succ_eq_append_getElem hk, List.filter_append]; simp [h]
end Go.Proofs.Ytglhaclehdkagaa

