/-
  Layer 11, plain: packets, queues, and what the calls of a queue answer. No program is named.
-/
import Derived.Test.YtijdfkdfojiffaaShPlain
namespace Go.Proofs.Ytijdfkdfojiffaa
set_option linter.unusedVariables false

structure Pk where
  i : Int
  f : Int
  l : Int
  a : Int
  d : Int
def pk0 : Pk := ⟨0, 0, 0, 0, 0⟩
/-- A packet is valid. MaxFlows, MaxLength, MaxSlots as they are given. -/
def pkOk (p : Pk) : Bool := decide (1 ≤ p.i) && (decide (0 ≤ p.f) && decide (p.f < 32)) && (decide (1 ≤ p.l) && decide (p.l ≤ 4096)) && (decide (0 ≤ p.a) && decide (p.a ≤ 16384)) && (decide (p.d = -1) || (decide (p.a ≤ p.d) && decide (p.d ≤ 81919)))
theorem pk_len {p : Pk} (h : pkOk p = true) : 1 ≤ p.l ∧ p.l ≤ 4096 := by
  unfold pkOk at h
  simp only [Bool.and_eq_true, decide_eq_true_eq] at h
  omega
theorem pk_id {p : Pk} (h : pkOk p = true) : 1 ≤ p.i := by
  unfold pkOk at h
  simp only [Bool.and_eq_true, decide_eq_true_eq] at h
  omega
/-- The sum of the lengths. -/
def sumB (L : List Pk) : Int := (L.map (·.l)).sum
theorem sumB_nil : sumB [] = 0 := rfl
theorem sumB_cons (p : Pk) (L : List Pk) : sumB (p :: L) = p.l + sumB L := by unfold sumB; rw [List.map_cons, List.sum_cons]
theorem sumB_snoc (L : List Pk) (p : Pk) : sumB (L ++ [p]) = sumB L + p.l := by
  unfold sumB; rw [List.map_append, List.sum_append]
  simp only [List.map_cons, List.map_nil, List.sum_cons, List.sum_nil, Int.add_zero]
theorem sumB_take {L : List Pk} {k : Nat} (hk : k < L.length) : sumB (L.take (k + 1)) = sumB (L.take k) + L[k].l := by
  rw [List.take_succ_eq_append_getElem hk, sumB_snoc]
theorem sumB_bd : ∀ (L : List Pk), (∀ p ∈ L, 1 ≤ p.l ∧ p.l ≤ 4096) → 0 ≤ sumB L ∧ sumB L ≤ 4096 * L.length
  | [], _ => by simp [sumB]
  | p :: L, h => by
    have h1 := sumB_bd L fun q hq => h q (by simp [hq])
    have h2 := h p (by simp)
    rw [sumB_cons, List.length_cons]; omega
/-- A filter along a list, step by step. -/
theorem flt_take {α : Type} (b : α → Bool) {L : List α} {k : Nat} (hk : k < L.length) : (L.take (k + 1)).filter b = (L.take k).filter b ++ if b L[k] then [L[k]] else [] := by
  rw [List.take_succ_eq_append_getElem hk, List.filter_append]
  cases h : b L[k] <;> simp [h]
theorem flt_all {α : Type} (b : α → Bool) (L : List α) : (L.take L.length).filter b = L.filter b := by rw [List.take_length]
theorem flt_len {α : Type} (b : α → Bool) (L : List α) : (L.filter b).length ≤ L.length := List.length_filter_le _ _
def lateB (s : Int) (p : Pk) : Bool := decide (p.d ≠ -1) && decide (p.d < s)
/-- A queue: its caps and its packets. -/
structure Qu where
  mp : Int
  mb : Int
  L : List Pk
def cpB (p b : Int) : Bool := decide (1 ≤ p) && decide (p ≤ 64) && decide (1 ≤ b) && decide (b ≤ 262144)
def qnE (p b : Int) : Int := if cpB p b then 0 else 1
def puE (q : Qu) (p : Pk) : Int := if pkOk p = false then 1 else if q.mp < q.L.length + 1 ∨ q.mb < sumB q.L + p.l then 4 else 0
def puT (q : Qu) (p : Pk) : Qu := if puE q p = 0 then { q with L := q.L ++ [p] } else q
def qpE (q : Qu) : Int := if q.L = [] then 5 else 0
def qpV (q : Qu) : Pk := q.L.headD pk0
def qpT (q : Qu) : Qu := { q with L := q.L.tail }
def exL (q : Qu) (s : Int) : List Pk := q.L.filter (lateB s)
def exT (q : Qu) (s : Int) : Qu := { q with L := q.L.filter fun p => !lateB s p }
def qcE (q : Qu) (p b : Int) : Int := qnE p b
def qcT (q : Qu) (p b : Int) : Qu := if qnE p b = 0 then { q with mp := p, mb := b } else q
def clT (q : Qu) : Qu := { q with L := [] }
/-- What holds of every queue. -/
structure QuOk (q : Qu) : Prop where
  mp : 1 ≤ q.mp ∧ q.mp ≤ 64
  mb : 1 ≤ q.mb ∧ q.mb ≤ 262144
  few : q.L.length ≤ 64
  pks : ∀ p ∈ q.L, pkOk p = true
theorem cp_yes {p b : Int} (h : cpB p b = true) : 1 ≤ p ∧ p ≤ 64 ∧ 1 ≤ b ∧ b ≤ 262144 := by
  unfold cpB at h; simp only [Bool.and_eq_true, decide_eq_true_eq] at h; omega
theorem QuOk.new {p b : Int} (h : cpB p b = true) : QuOk ⟨p, b, []⟩ := by
  obtain ⟨h1, h2, h3, h4⟩ := cp_yes h
  exact ⟨⟨h1, h2⟩, ⟨h3, h4⟩, by simp, by simp⟩
theorem QuOk.push {q : Qu} (h : QuOk q) (p : Pk) : QuOk (puT q p) := by
  unfold puT
  split
  · rename_i h0
    unfold puE at h0
    split at h0
    · cases h0
    · rename_i h1
      split at h0
      · cases h0
      · rename_i h2
        have := h.mp
        refine ⟨h.mp, h.mb, by simp; omega, fun x hx => ?_⟩
        rcases List.mem_append.1 hx with hx | hx
        · exact h.pks x hx
        · simp only [List.mem_singleton] at hx; subst hx; exact eq_true_of_ne_false h1
  · exact h
theorem QuOk.pop {q : Qu} (h : QuOk q) : QuOk (qpT q) :=
  ⟨h.mp, h.mb, by show q.L.tail.length ≤ 64; rw [List.length_tail]; have := h.few; omega, fun p hp => h.pks p (List.mem_of_mem_tail hp)⟩
theorem QuOk.expire {q : Qu} (h : QuOk q) (s : Int) : QuOk (exT q s) :=
  ⟨h.mp, h.mb, Nat.le_trans (flt_len _ _) h.few, fun p hp => h.pks p ((List.mem_filter.1 hp).1)⟩
theorem QuOk.caps {q : Qu} (h : QuOk q) (p b : Int) : QuOk (qcT q p b) := by
  unfold qcT
  split
  · rename_i h0
    unfold qnE at h0
    split at h0
    · rename_i h1
      obtain ⟨k1, k2, k3, k4⟩ := cp_yes h1
      exact ⟨⟨k1, k2⟩, ⟨k3, k4⟩, h.few, h.pks⟩
    · cases h0
  · exact h
theorem QuOk.clear {q : Qu} (h : QuOk q) : QuOk (clT q) := ⟨h.mp, h.mb, by simp [clT], by simp [clT]⟩
theorem QuOk.sums {q : Qu} (h : QuOk q) : 0 ≤ sumB q.L ∧ sumB q.L ≤ 262144 := by
  have h1 := sumB_bd q.L fun p hp => pk_len (h.pks p hp)
  have h2 := h.few
  omega
/-! ### order: the numbers rise, and pushes and removals keep it -/
def RiseP (L : List Pk) : Prop := L.Pairwise fun x y => x.i < y.i
theorem RiseP.snoc {L : List Pk} (h : RiseP L) {p : Pk} (hp : ∀ x ∈ L, x.i < p.i) : RiseP (L ++ [p]) :=
  List.pairwise_append.2 ⟨h, by simp, fun x hx y hy => by simp only [List.mem_singleton] at hy; subst hy; exact hp x hx⟩
theorem RiseP.filter {L : List Pk} (h : RiseP L) (b : Pk → Bool) : RiseP (L.filter b) := List.Pairwise.filter b h
theorem RiseP.tail {L : List Pk} (h : RiseP L) : RiseP L.tail := by
  cases L with
  | nil => exact h
  | cons a L => exact (List.pairwise_cons.1 h).2
theorem RiseP.next {L : List Pk} (h : RiseP L) {k : Nat} (hk : k + 1 < L.length) : L[k].i < L[k + 1].i := (List.pairwise_iff_getElem.1 h) k (k + 1) (by omega) hk (by omega)
theorem RiseP.head {p : Pk} {L : List Pk} (h : RiseP (p :: L)) : ∀ x ∈ L, p.i < x.i := (List.pairwise_cons.1 h).1
theorem late_no {s : Int} {L : List Pk} {p : Pk} (hp : p ∈ L.filter fun p => !lateB s p) : lateB s p = false := by
  have := (List.mem_filter.1 hp).2
  simpa using this
theorem late_yes {s : Int} {L : List Pk} {p : Pk} (hp : p ∈ L.filter (lateB s)) : p.d ≠ -1 ∧ p.d < s := by
  have := (List.mem_filter.1 hp).2
  unfold lateB at this
  simp only [Bool.and_eq_true, decide_eq_true_eq] at this
  exact this
end Go.Proofs.Ytijdfkdfojiffaa

