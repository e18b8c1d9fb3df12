/-
  Layer 15, plain: predictors; what a channel predicts, remembers and scores. No program is named.
-/
import Derived.Test.YtaohfcchejedkaaPlain
namespace Go.Proofs.Ytaohfcchejedkaa
set_option linter.unusedVariables false

structure Pd where
  k : Int
  K : Int
  N : Int
def pdB (p : Pd) : Bool := ((p.k == 0 || p.k == 2) && (p.K == 0 && p.N == 0)) || (p.k == 1 && ((decide (1 ≤ p.N) && decide (p.N ≤ 32)) && (decide (1 ≤ p.K) && decide (p.K ≤ p.N))))
theorem pd_cases {p : Pd} (h : pdB p = true) : ((p.k = 0 ∨ p.k = 2) ∧ p.K = 0 ∧ p.N = 0) ∨ (p.k = 1 ∧ (1 ≤ p.N ∧ p.N ≤ 32) ∧ (1 ≤ p.K ∧ p.K ≤ p.N)) := by
  unfold pdB at h
  simp only [Bool.or_eq_true, Bool.and_eq_true, beq_iff_eq, decide_eq_true_eq] at h
  omega
theorem pd_of {p : Pd} (h : ((p.k = 0 ∨ p.k = 2) ∧ p.K = 0 ∧ p.N = 0) ∨ (p.k = 1 ∧ (1 ≤ p.N ∧ p.N ≤ 32) ∧ (1 ≤ p.K ∧ p.K ≤ p.N))) : pdB p = true := by
  unfold pdB
  simp only [Bool.or_eq_true, Bool.and_eq_true, beq_iff_eq, decide_eq_true_eq]
  omega
theorem pd_not {p : Pd} (h : ¬ (((p.k = 0 ∨ p.k = 2) ∧ p.K = 0 ∧ p.N = 0) ∨ (p.k = 1 ∧ (1 ≤ p.N ∧ p.N ≤ 32) ∧ (1 ≤ p.K ∧ p.K ≤ p.N)))) : pdB p = false := by
  cases hb : pdB p with
  | false => rfl
  | true => exact absurd (pd_cases hb) h
/-- The number of good ones. -/
def cnt : List Bool → Int
  | [] => 0
  | b :: L => (if b = true then 1 else 0) + cnt L
theorem cnt_app (L M : List Bool) : cnt (L ++ M) = cnt L + cnt M := by
  induction L with
  | nil => simp [cnt]
  | cons b L ih => simp only [List.cons_append, cnt, ih]; omega
theorem cnt_bd (L : List Bool) : 0 ≤ cnt L ∧ cnt L ≤ L.length := by
  induction L with
  | nil => simp [cnt]
  | cons b L ih => simp only [cnt, List.length_cons]; split <;> omega
theorem cnt_all (L : List Bool) : cnt L = L.length ↔ L.all id = true := by
  induction L with
  | nil => simp [cnt]
  | cons b L ih =>
    have := cnt_bd L
    simp only [cnt, List.length_cons, List.all_cons, Bool.and_eq_true, id]
    rw [← ih]
    cases b <;> simp <;> omega
/-- A channel: its predictor, all observations, the announced state, the number of right predictions. -/
structure Ch where
  p : Pd
  l : List Bool
  an : Bool
  sa : Bool
  ri : Int
def Ch.new (p : Pd) : Ch := ⟨p, [], false, false, 0⟩
/-- The last n of a list. -/
def lastN (l : List Bool) (n : Nat) : List Bool := l.drop (l.length - n)
def laB (l : List Bool) : Bool := l.getLast?.getD true
/-- The good ones of the last N, missing ones among them. -/
def winC (l : List Bool) (N : Int) : Int := max (N - l.length) 0 + cnt (lastN l N.toNat)
def prB (s : Ch) : Bool := if s.p.k = 1 then decide (s.p.K ≤ winC s.l s.p.N) else if s.p.k = 2 ∧ s.an = true then s.sa else laB s.l
def Ch.ann (s : Ch) (g : Bool) : Ch := { s with an := true, sa := g }
def Ch.obs (s : Ch) (g : Bool) : Ch := { s with l := s.l ++ [g], an := false, ri := s.ri + if prB s = g then 1 else 0 }
def Ch.hist (s : Ch) : List Bool := lastN s.l 32
theorem la_nil : laB [] = true := rfl
theorem la_snoc (l : List Bool) (g : Bool) : laB (l ++ [g]) = g := by unfold laB; simp
theorem la_at {l : List Bool} (h : 0 < l.length) : laB l = l[l.length - 1]'(by omega) := by
  unfold laB
  rw [List.getLast?_eq_getElem?, List.getElem?_eq_getElem (by omega)]; rfl
theorem pr_window {s : Ch} (h : s.p.k = 1) : prB s = decide (s.p.K ≤ winC s.l s.p.N) := by unfold prB; rw [if_pos h]
theorem pr_said {s : Ch} (h : s.p.k = 2) (h2 : s.an = true) : prB s = s.sa := by unfold prB; rw [if_neg (by omega), if_pos ⟨h, h2⟩]
theorem pr_last {s : Ch} (h : ¬ s.p.k = 1) (h2 : ¬ (s.p.k = 2 ∧ s.an = true)) : prB s = laB s.l := by unfold prB; rw [if_neg h, if_neg h2]
/-! ### consequences -/
/-- The oracle is right where the slot has been announced truly. -/
theorem pr_oracle {s : Ch} (h : s.p.k = 2) (g : Bool) : prB (s.ann g) = g := pr_said (s := s.ann g) h rfl
theorem win_one (l : List Bool) : decide (1 ≤ winC l 1) = laB l := by
  rcases List.eq_nil_or_concat l with rfl | ⟨m, g, rfl⟩
  · rfl
  · rw [List.concat_eq_append, la_snoc]
    unfold winC lastN
    have e : (m ++ [g]).drop ((m ++ [g]).length - (1 : Int).toNat) = [g] := by simp
    rw [e]
    have : max ((1 : Int) - (m ++ [g]).length) 0 = 0 := by simp; omega
    rw [this]
    cases g <;> simp [cnt]
/-- A window that needs all of its slots is good iff all of the last ones were. -/
theorem win_all (l : List Bool) (k : Nat) (hk : 0 < k) : decide ((k : Int) ≤ winC l k) = (lastN l k).all id := by
  have h1 := cnt_bd (lastN l k)
  have h2 := cnt_all (lastN l k)
  have h3 : (lastN l k).length = min k l.length := by unfold lastN; rw [List.length_drop]; omega
  unfold winC
  rw [Int.toNat_natCast]
  rw [h3] at h1 h2
  cases hb : (lastN l k).all id with
  | true =>
    have := h2.2 hb
    rw [decide_eq_true_eq]; omega
  | false =>
    have hne : ¬ cnt (lastN l k) = (min k l.length : Nat) := fun e => by rw [h2.1 e] at hb; cases hb
    rw [decide_eq_false_iff_not]; omega
end Go.Proofs.Ytaohfcchejedkaa

