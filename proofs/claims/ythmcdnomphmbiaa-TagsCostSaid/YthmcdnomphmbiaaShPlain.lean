/-
  Plain arithmetic for layer 3: sums, shares, the distribution under caps, the distribution of units. No program in sight.
-/
import Derived.Test.YthmcdnomphmbiaaFixPlain
namespace Go.Proofs.Ythmcdnomphmbiaa
open Go.RowKit
set_option linter.unusedVariables false

/-- The sum of the first n. -/
def sumTo (X : Nat → Int) : Nat → Int
  | 0 => 0
  | n + 1 => sumTo X n + X n
theorem sumTo_succ (X : Nat → Int) (n : Nat) : sumTo X (n + 1) = sumTo X n + X n := rfl
theorem sumTo_congr {X Y : Nat → Int} {n : Nat} (h : ∀ i, i < n → X i = Y i) : sumTo X n = sumTo Y n := by
  induction n with
  | zero => rfl
  | succ n ih => simp only [sumTo_succ]; rw [ih (fun i hi => h i (by omega)), h n (by omega)]
theorem sumTo_ge {X : Nat → Int} {n : Nat} (h : ∀ i, i < n → 0 ≤ X i) : 0 ≤ sumTo X n := by
  induction n with
  | zero => exact Int.le_refl _
  | succ n ih => simp only [sumTo_succ]; have := ih (fun i hi => h i (by omega)); have := h n (by omega); omega
theorem sumTo_mono {X : Nat → Int} {n k : Nat} (hk : k ≤ n) (h : ∀ i, i < n → 0 ≤ X i) : sumTo X k ≤ sumTo X n := by
  induction n with
  | zero => obtain rfl : k = 0 := by omega
            exact Int.le_refl _
  | succ n ih =>
    rcases (by omega : k = n + 1 ∨ k ≤ n) with rfl | h'
    · exact Int.le_refl _
    · have := ih h' (fun i hi => h i (by omega)); have := h n (by omega); simp only [sumTo_succ]; omega
theorem sumTo_le {X : Nat → Int} {n : Nat} {c : Int} (h : ∀ i, i < n → X i ≤ c) : sumTo X n ≤ n * c := by
  induction n with
  | zero => simp [sumTo]
  | succ n ih =>
    have h1 := ih (fun i hi => h i (by omega)); have h2 := h n (by omega)
    have h3 : ((n + 1 : Nat) : Int) * c = n * c + c := by rw [Int.natCast_add, Int.add_mul]; simp
    simp only [sumTo_succ]; omega
theorem sumTo_one {X : Nat → Int} {n i : Nat} (hi : i < n) (h : ∀ j, j < n → 0 ≤ X j) : X i ≤ sumTo X n := by
  have h1 := sumTo_mono (k := i + 1) (by omega) h
  have h2 := sumTo_ge (X := X) (n := i) (fun j hj => h j (by omega))
  rw [sumTo_succ] at h1; omega
theorem sumTo_neg (X : Nat → Int) (n : Nat) : sumTo (fun i => -(X i)) n = -(sumTo X n) := by
  induction n with
  | zero => rfl
  | succ n ih => simp only [sumTo_succ]; rw [ih]; omega
/-- X with v at place k. -/
def upd (X : Nat → Int) (k : Nat) (v : Int) : Nat → Int := fun i => if i = k then v else X i
theorem upd_at (X : Nat → Int) (k : Nat) (v : Int) : upd X k v k = v := by simp [upd]
theorem upd_ne {X : Nat → Int} {k i : Nat} {v : Int} (h : i ≠ k) : upd X k v i = X i := by simp [upd, h]
theorem sumTo_upd {X : Nat → Int} {n k : Nat} {v : Int} (hk : k < n) : sumTo (upd X k v) n = sumTo X n + (v - X k) := by
  induction n with
  | zero => omega
  | succ n ih =>
    simp only [sumTo_succ]
    rcases (by omega : k < n ∨ k = n) with h | h
    · rw [ih h, upd_ne (by omega)]; omega
    · subst h; rw [sumTo_congr (Y := X) (fun i hi => upd_ne (by omega)), upd_at]; omega

/-! ### Split -/
def rndOf (a : Int) : Int := if a < 0 then 1 else 0
/-- The share of part i of total T, rounded toward zero. -/
def shr (a : Int) (V : Nat → Int) (T : Int) (i : Nat) : Int := mdV a (V i) T (rndOf a)
theorem shr_pos {a T : Int} {V : Nat → Int} {i : Nat} (a0 : 0 ≤ a) (a1 : a ≤ 9223372036854775807) (v0 : 0 ≤ V i) (v1 : V i ≤ T) (hT : 0 < T) : shr a V T i = a * V i / T ∧ 0 ≤ a * V i / T ∧ a * V i / T ≤ a := by
  have hb : a * V i / T ≤ a := by
    have : a * V i ≤ a * T := Int.mul_le_mul_of_nonneg_left v1 a0
    exact Int.ediv_le_of_le_mul hT this
  have hb0 : 0 ≤ a * V i / T := Int.ediv_nonneg (Int.mul_nonneg a0 v0) (by omega)
  refine ⟨?_, hb0, hb⟩
  unfold shr rndOf
  rw [if_neg (by omega), (md_ok (by omega) (by omega)).1]
  have : mdQ a (V i) T 0 = a * V i / T := by
    unfold mdQ negs
    rw [absZ_pos (by omega), absZ_pos (by omega), absZ_pos (by omega), decide_eq_false (show ¬ a < 0 by omega), decide_eq_false (show ¬ V i < 0 by omega), decide_eq_false (show ¬ T < 0 by omega)]
    simp [sgn, away, ups]
  rw [this]
  exact (fit_yes (by omega)).1
theorem shr_neg {a T : Int} {V : Nat → Int} {i : Nat} (a0 : a < 0) (a1 : -9223372036854775808 ≤ a) (v0 : 0 ≤ V i) (v1 : V i ≤ T) (hT : 0 < T) : shr a V T i = -(-a * V i / T) ∧ 0 ≤ -a * V i / T ∧ -a * V i / T ≤ -a := by
  have hb : -a * V i / T ≤ -a := by
    have : -a * V i ≤ -a * T := Int.mul_le_mul_of_nonneg_left v1 (by omega)
    exact Int.ediv_le_of_le_mul hT this
  have hb0 : 0 ≤ -a * V i / T := Int.ediv_nonneg (Int.mul_nonneg (by omega) v0) (by omega)
  refine ⟨?_, hb0, hb⟩
  unfold shr rndOf
  rw [if_pos a0, (md_ok (by omega) (by omega)).1]
  have : mdQ a (V i) T 1 = -(-a * V i / T) := by
    unfold mdQ negs
    rw [absZ_neg a0, absZ_pos (by omega), absZ_pos (by omega), decide_eq_true a0, decide_eq_false (show ¬ V i < 0 by omega), decide_eq_false (show ¬ T < 0 by omega)]
    simp [sgn, away, ups]
  rw [this]
  exact (fit_yes (by omega)).1
theorem quo_sum {a T : Int} {V : Nat → Int} (a0 : 0 ≤ a) (hT : 0 < T) (k : Nat) (h : ∀ i, i < k → 0 ≤ V i) : sumTo (fun i => a * V i / T) k * T ≤ a * sumTo V k := by
  induction k with
  | zero => simp [sumTo]
  | succ k ih =>
    have h1 := ih (fun i hi => h i (by omega))
    have h2 : a * V k / T * T ≤ a * V k := Int.ediv_mul_le _ (by omega)
    simp only [sumTo_succ]
    rw [Int.add_mul, Int.mul_add]; omega
theorem quo_le {a T : Int} {V : Nat → Int} (a0 : 0 ≤ a) (hT : 0 < T) (k : Nat) (h : ∀ i, i < k → 0 ≤ V i) (hs : sumTo V k ≤ T) : 0 ≤ sumTo (fun i => a * V i / T) k ∧ sumTo (fun i => a * V i / T) k ≤ a := by
  refine ⟨sumTo_ge fun i hi => Int.ediv_nonneg (Int.mul_nonneg a0 (h i hi)) (by omega), ?_⟩
  have h1 := quo_sum a0 hT k h
  have h2 : a * sumTo V k ≤ a * T := Int.mul_le_mul_of_nonneg_left hs a0
  exact Int.le_of_mul_le_mul_right (Int.le_trans h1 h2) hT
/-- What is left of the amount behind k parts. -/
def leftOf (a : Int) (V : Nat → Int) (T : Int) (k : Nat) : Int := a - sumTo (shr a V T) k
theorem left_bd {a T : Int} {V : Nat → Int} {k : Nat} (a0 : -9223372036854775808 ≤ a) (a1 : a ≤ 9223372036854775807) (hT : 0 < T) (h : ∀ i, i < k → 0 ≤ V i ∧ V i ≤ T) (hs : sumTo V k ≤ T) :
    (0 ≤ a → 0 ≤ leftOf a V T k ∧ leftOf a V T k ≤ a) ∧ (a < 0 → a ≤ leftOf a V T k ∧ leftOf a V T k ≤ 0) := by
  unfold leftOf
  constructor
  · intro ha
    rw [sumTo_congr (fun i hi => (shr_pos ha a1 (h i hi).1 (h i hi).2 hT).1)]
    have := quo_le ha hT k (fun i hi => (h i hi).1) hs
    omega
  · intro ha
    rw [sumTo_congr (fun i hi => (shr_neg ha a0 (h i hi).1 (h i hi).2 hT).1), sumTo_neg]
    have := quo_le (a := -a) (by omega) hT k (fun i hi => (h i hi).1) hs
    omega
theorem shr_bd {a T : Int} {V : Nat → Int} {i : Nat} (a0 : -9223372036854775808 ≤ a) (a1 : a ≤ 9223372036854775807) (hT : 0 < T) (v0 : 0 ≤ V i) (v1 : V i ≤ T) :
    (0 ≤ a → 0 ≤ shr a V T i ∧ shr a V T i ≤ a) ∧ (a < 0 → a ≤ shr a V T i ∧ shr a V T i ≤ 0) := by
  constructor
  · intro ha; have := shr_pos ha a1 v0 v1 hT; omega
  · intro ha; have := shr_neg ha a0 v0 v1 hT; omega
/-- The shares: the part with the lowest ID gets what is left. -/
def spl (a : Int) (V : Nat → Int) (n : Nat) (i : Nat) : Int := if i = 0 then shr a V (sumTo V n) 0 + leftOf a V (sumTo V n) n else shr a V (sumTo V n) i
theorem spl_eq (a : Int) (V : Nat → Int) (n : Nat) : spl a V n = upd (shr a V (sumTo V n)) 0 (shr a V (sumTo V n) 0 + leftOf a V (sumTo V n) n) := by
  funext i; unfold spl upd; split
  · rename_i h; subst h; rfl
  · rfl
theorem spl_sum {a : Int} {V : Nat → Int} {n : Nat} (hn : 0 < n) : sumTo (spl a V n) n = a := by
  rw [spl_eq, sumTo_upd hn]; unfold leftOf; omega
theorem sum_first {X : Nat → Int} {n : Nat} (hn : 0 < n) (h : ∀ i, i < n → 0 ≤ X i) : X 0 ≤ sumTo X n := sumTo_one hn h
/-- The total of valid weights. -/
theorem total_bd {V : Nat → Int} {n : Nat} (hn : n ≤ 64) (h : ∀ i, i < n → 1 ≤ V i ∧ V i ≤ 2147483648) (k : Nat) (hk : k ≤ n) : 0 ≤ sumTo V k ∧ sumTo V k ≤ 137438953472 := by
  refine ⟨sumTo_ge fun i hi => by have := h i (by omega); omega, ?_⟩
  have h1 := sumTo_le (X := V) (n := k) (c := 2147483648) (fun i hi => (h i (by omega)).2)
  have h2 : (k : Int) * 2147483648 ≤ 64 * 2147483648 := Int.mul_le_mul_of_nonneg_right (by omega) (by omega)
  omega
theorem total_pos {V : Nat → Int} {n : Nat} (hn : 0 < n) (h : ∀ i, i < n → 1 ≤ V i ∧ V i ≤ 2147483648) : 0 < sumTo V n := by
  have := sumTo_one (X := V) hn (fun i hi => by have := h i hi; omega)
  have := h 0 hn; omega
/-- All that the walks of Split want of a round k. -/
theorem split_facts {a : Int} {V : Nat → Int} {n : Nat} (a0 : -9223372036854775808 ≤ a) (a1 : a ≤ 9223372036854775807) (hn0 : 0 < n) (hn : n ≤ 64) (h : ∀ i, i < n → 1 ≤ V i ∧ V i ≤ 2147483648) {k : Nat} (hk : k ≤ n) :
    -9223372036854775808 ≤ leftOf a V (sumTo V n) k ∧ leftOf a V (sumTo V n) k ≤ 9223372036854775807 := by
  have hT := total_pos hn0 h
  have hm : ∀ i, i < n → 0 ≤ V i ∧ V i ≤ sumTo V n := fun i hi => ⟨by have := h i hi; omega, sumTo_one hi (fun j hj => by have := h j hj; omega)⟩
  have hs : sumTo V k ≤ sumTo V n := sumTo_mono hk (fun i hi => by have := h i hi; omega)
  have := left_bd a0 a1 hT (fun i hi => hm i (by omega)) hs
  omega
theorem spl_bd {a : Int} {V : Nat → Int} {n : Nat} (a0 : -9223372036854775808 ≤ a) (a1 : a ≤ 9223372036854775807) (hn : n ≤ 64) (h : ∀ i, i < n → 1 ≤ V i ∧ V i ≤ 2147483648) {i : Nat} (hi : i < n) :
    (0 ≤ a → 0 ≤ spl a V n i ∧ spl a V n i ≤ a) ∧ (a < 0 → a ≤ spl a V n i ∧ spl a V n i ≤ 0) := by
  have hT := total_pos (V := V) (n := n) (by omega) h
  have hm : ∀ i, i < n → 0 ≤ V i ∧ V i ≤ sumTo V n := fun i hi => ⟨by have := h i hi; omega, sumTo_one hi (fun j hj => by have := h j hj; omega)⟩
  have hsb := shr_bd (i := i) a0 a1 hT (hm i hi).1 (hm i hi).2
  by_cases h0 : i = 0
  · subst h0
    have hs0 := shr_bd (i := 0) a0 a1 hT (hm 0 hi).1 (hm 0 hi).2
    have hle := left_bd a0 a1 hT (fun i hi => hm i hi) (Int.le_refl (sumTo V n))
    have hsum : spl a V n 0 = shr a V (sumTo V n) 0 + leftOf a V (sumTo V n) n := by unfold spl; rw [if_pos rfl]
    constructor
    · intro ha
      have h1 := sumTo_one (X := shr a V (sumTo V n)) hi (fun j hj => ((shr_bd a0 a1 hT (hm j hj).1 (hm j hj).2).1 ha).1)
      have := hs0.1 ha; have := hle.1 ha
      unfold leftOf at *; omega
    · intro ha
      have h1 := sumTo_one (X := fun i => -(shr a V (sumTo V n) i)) hi (fun j hj => by have := ((shr_bd a0 a1 hT (hm j hj).1 (hm j hj).2).2 ha).2; omega)
      rw [sumTo_neg] at h1
      have := hs0.2 ha; have := hle.2 ha
      unfold leftOf at *; omega
  · unfold spl; rw [if_neg h0]; exact hsb
end Go.Proofs.Ythmcdnomphmbiaa

