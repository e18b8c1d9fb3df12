/-
  Layer 19: times on air, what fits, the fastest rate, efficiencies: plain mathematics.
-/
import Derived.Below
namespace Go.Proofs.Ytcnpmbgeafkmlaa
set_option linter.unusedVariables false

def aiV (k o : Int) : Bool := decide (1 ≤ k ∧ k ≤ 10000000 ∧ 0 ≤ o ∧ o ≤ 100000)
/-- The time on air. -/
def aiZ (k o b : Int) : Int := o + (8000 * b + k - 1) / k
def aiOk (k o b : Int) : Bool := aiV k o && decide (0 ≤ b ∧ b ≤ 262144)
def aiTV (k o b : Int) : Int := if aiOk k o b = true then aiZ k o b else 0
def aiTE (k o b : Int) : Int := if aiOk k o b = true then 0 else 1
theorem aiV_cases {k o : Int} (h : aiV k o = true) : 1 ≤ k ∧ k ≤ 10000000 ∧ 0 ≤ o ∧ o ≤ 100000 := of_decide_eq_true h
theorem aiOk_cases {k o b : Int} (h : aiOk k o b = true) : (1 ≤ k ∧ k ≤ 10000000 ∧ 0 ≤ o ∧ o ≤ 100000) ∧ 0 ≤ b ∧ b ≤ 262144 := by
  unfold aiOk at h; rw [Bool.and_eq_true] at h
  exact ⟨aiV_cases h.1, of_decide_eq_true h.2⟩
theorem aiOk_mk {k o b : Int} (h : aiV k o = true) (h1 : 0 ≤ b) (h2 : b ≤ 262144) : aiOk k o b = true := by
  unfold aiOk; rw [h, decide_eq_true ⟨h1, h2⟩]; rfl
/-- A quotient rounded up is at most y iff the dividend is at most y times the divisor. -/
theorem up_le {a k y : Int} (hk : 1 ≤ k) : (a + k - 1) / k ≤ y ↔ a ≤ y * k := by
  have h1 : (a + k - 1) / k < y + 1 ↔ a + k - 1 < (y + 1) * k := Int.ediv_lt_iff_lt_mul (by omega)
  have h2 : (y + 1) * k = y * k + k := by rw [Int.add_mul, Int.one_mul]
  omega
theorem aiZ_le {k o b t : Int} (hk : 1 ≤ k) : aiZ k o b ≤ t ↔ b ≤ (t - o) * k / 8000 := by
  unfold aiZ
  have h1 := up_le (a := 8000 * b) (k := k) (y := t - o) hk
  have h2 : b ≤ (t - o) * k / 8000 ↔ b * 8000 ≤ (t - o) * k := Int.le_ediv_iff_mul_le (by omega)
  constructor
  · intro h; exact h2.2 (by have := h1.1 (by omega); omega)
  · intro h; have := h1.2 (by have := h2.1 h; omega); omega
theorem aiZ_mono {k o b c : Int} (hk : 1 ≤ k) (h : b ≤ c) : aiZ k o b ≤ aiZ k o c := by
  unfold aiZ
  have := Int.ediv_le_ediv (c := k) (by omega) (show 8000 * b + k - 1 ≤ 8000 * c + k - 1 by omega)
  omega
theorem aiZ_zero {k o : Int} (hk : 1 ≤ k) : aiZ k o 0 = o := by
  unfold aiZ
  rw [show (8000 * 0 + k - 1) / k = 0 from Int.ediv_eq_zero_of_lt (by omega) (by omega)]
  omega
theorem aiZ_bd {k o b : Int} (h : aiOk k o b = true) : 0 ≤ aiZ k o b ∧ aiZ k o b ≤ 2097252000 ∧ o ≤ aiZ k o b := by
  obtain ⟨⟨h1, h2, h3, h4⟩, h5, h6⟩ := aiOk_cases h
  have h7 : o ≤ aiZ k o b := by have := aiZ_mono (o := o) h1 h5; rw [aiZ_zero h1] at this; exact this
  refine ⟨by omega, ?_, h7⟩
  have : (8000 * b + k - 1) / k ≤ 2097152000 := by
    rw [up_le h1]
    omega
  unfold aiZ; omega
/-- What fits. -/
def aiFz (k o t : Int) : Int := min 262144 ((t - o) * k / 8000)
def aiFV (k o t : Int) : Int := if aiV k o = true then (if t < o then 0 else aiFz k o t) else 0
def aiFE (k o t : Int) : Int := if aiV k o = true then (if t < o then 2 else 0) else 1
theorem aiFz_bd {k o t : Int} (h : aiV k o = true) (ht : ¬ t < o) : 0 ≤ aiFz k o t ∧ aiFz k o t ≤ 262144 := by
  obtain ⟨h1, _⟩ := aiV_cases h
  have : 0 ≤ (t - o) * k / 8000 := Int.ediv_nonneg (Int.mul_nonneg (by omega) (by omega)) (by omega)
  unfold aiFz; omega
/-- Halving ends at what fits. -/
theorem aiFz_of {k o t x : Int} (hk : 1 ≤ k) (h1 : x ≤ 262144) (h2 : aiZ k o x ≤ t) (h3 : x + 1 ≤ 262144 → t < aiZ k o (x + 1)) : x = aiFz k o t := by
  have e1 := (aiZ_le (b := x) (o := o) (t := t) hk).1 h2
  unfold aiFz
  by_cases h : x = 262144
  · omega
  · have e2 : ¬ (x + 1 ≤ (t - o) * k / 8000) := fun e => by
      have := (aiZ_le (b := x + 1) (o := o) (t := t) hk).2 e
      have := h3 (by omega)
      omega
    omega
theorem aiFz_in {k o t : Int} (h : aiV k o = true) (ht : ¬ t < o) : aiZ k o (aiFz k o t) ≤ t := by
  obtain ⟨h1, _⟩ := aiV_cases h
  exact (aiZ_le h1).2 (by unfold aiFz; omega)
theorem aiFz_out {k o t : Int} (h : aiV k o = true) (hm : aiFz k o t < 262144) : t < aiZ k o (aiFz k o t + 1) := by
  obtain ⟨h1, _⟩ := aiV_cases h
  have : ¬ aiZ k o (aiFz k o t + 1) ≤ t := fun e => by
    have := (aiZ_le h1).1 e
    unfold aiFz at this hm; omega
  omega
/-- Efficiency. -/
def aiEz (k o b : Int) : Int := 1000000 * (aiZ k o b - o) / aiZ k o b
def aiEV (k o b : Int) : Int := if aiOk k o b = true then (if aiZ k o b = 0 then 0 else aiEz k o b) else 0
/-- The fastest rate: the index of the first with the least time. -/
def aiBt (l : List (Int × Int)) (b : Int) (i : Nat) : Int := if h : i < l.length then aiZ (l[i]).1 (l[i]).2 b else 0
def aiBi (l : List (Int × Int)) (b : Int) : Nat → Nat
  | 0 => 0
  | i + 1 => if aiBt l b i < aiBt l b (aiBi l b i) then i else aiBi l b i
def aiAll (l : List (Int × Int)) : Bool := l.all fun r => aiV r.1 r.2
def aiBE (l : List (Int × Int)) (b : Int) : Int := if aiAll l = true ∧ l.length ≤ 12 ∧ 0 ≤ b ∧ b ≤ 262144 then (if l.length = 0 then 5 else 0) else 1
def aiBV (l : List (Int × Int)) (b : Int) : Int := if aiBE l b = 0 then (aiBi l b l.length : Nat) else 0
theorem aiBi_lt {l : List (Int × Int)} {b : Int} (h : 0 < l.length) {n : Nat} (hn : n ≤ l.length) : aiBi l b n < l.length := by
  induction n with
  | zero => exact h
  | succ n ih =>
    unfold aiBi; split
    · omega
    · exact ih (by omega)
theorem aiBi_lt2 (l : List (Int × Int)) (b : Int) {n : Nat} (hn : 0 < n) : aiBi l b n < n := by
  induction n with
  | zero => omega
  | succ n ih =>
    unfold aiBi; split
    · omega
    · rcases Nat.eq_zero_or_pos n with h | h
      · subst h; simp [aiBi]
      · have := ih h; omega
theorem aiBi_step (l : List (Int × Int)) (b : Int) (i : Nat) : aiBi l b (i + 1) = if aiBt l b i < aiBt l b (aiBi l b i) then i else aiBi l b i := rfl
theorem aiBi_one (l : List (Int × Int)) (b : Int) : aiBi l b 1 = 0 := by rw [aiBi_step]; simp [aiBi]
theorem aiBt_at {l : List (Int × Int)} {b : Int} {i : Nat} (h : i < l.length) : aiBt l b i = aiZ (l[i]).1 (l[i]).2 b := by unfold aiBt; rw [dif_pos h]
theorem aiAll_at {l : List (Int × Int)} (h : aiAll l = true) {i : Nat} (hi : i < l.length) : aiV (l[i]).1 (l[i]).2 = true := (List.all_eq_true.1 h) _ (List.getElem_mem hi)
end Go.Proofs.Ytcnpmbgeafkmlaa

