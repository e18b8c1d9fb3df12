/-
  Layer 2: contracts of the two Quotient, Clamp, Saturate and Ratio (package fixed). Every input; no condition.
-/
import Derived.Test.YtblagnhdojejmaaFixC5
import Derived.Lib.Hide
import Derived.IntWalk
import Derived.Outline
namespace Go.Proofs.Ytblagnhdojejmaa
open Go.ChangeShapes Go.WideShapes Go.ChangeAt Go.RowKit
set_option linter.unusedVariables false

theorem quotient_any (a b round : Int) (a0 : -9223372036854775808 ≤ a) (a1 : a ≤ 9223372036854775807) (b0 : -9223372036854775808 ≤ b) (b1 : b ≤ 9223372036854775807) (w : World) :
    Calls Try.prog 28 #[.int .i64 a, .int .i64 b, .int .i64 round] w fun e w' => e = .returned (.tuple #[.int .i64 (mdV a 1 b round), .int .i64 (mdE a 1 b round)]) ∧ Below w.heap.size w w' := by
  go_enter Try.func28, Try.ntmps28
  go_wp2_with fail
  refine (muldiv_any a 1 b round a0 a1 (by omega) (by omega) b0 b1 _).mono ?_
  rintro e w' ⟨rfl, hb⟩
  go_wp2
  go_ret2
  exact ⟨rfl, hb⟩
theorem refQuotient_any (a b round : Int) (a0 : -9223372036854775808 ≤ a) (a1 : a ≤ 9223372036854775807) (b0 : -9223372036854775808 ≤ b) (b1 : b ≤ 9223372036854775807) (w : World) :
    Calls Try.prog 29 #[.int .i64 a, .int .i64 b, .int .i64 round] w fun e w' => e = .returned (.tuple #[.int .i64 (mdV a 1 b round), .int .i64 (mdE a 1 b round)]) ∧ Below w.heap.size w w' := by
  go_enter Try.func29, Try.ntmps29
  go_wp2_with fail
  refine (refMuldiv_any a 1 b round a0 a1 (by omega) (by omega) b0 b1 _).mono ?_
  rintro e w' ⟨rfl, hb⟩
  go_wp2
  go_ret2
  exact ⟨rfl, hb⟩

/-- Clamping. -/
def clV (a low high : Int) : Int := if a < low then low else if high < a then high else a
def clB (a low high : Int) : Bool := decide (a < low ∨ high < a)
theorem clamp_any (a low high : Int) (w : World) :
    Calls Try.prog 19 #[.int .i64 a, .int .i64 low, .int .i64 high] w fun e w' => e = .returned (.tuple #[.int .i64 (clV a low high), .bool (clB a low high)]) ∧ w = w' := by
  unfold clV clB
  by_cases h : a < low
  · rw [if_pos h, decide_eq_true (Or.inl h)]
    go_enter Try.func19, Try.ntmps19
    go_wp2
    go_ret2
    exact ⟨rfl, rfl⟩
  · rw [if_neg h]
    by_cases h2 : high < a
    · rw [if_pos h2, decide_eq_true (Or.inr h2)]
      go_enter Try.func19, Try.ntmps19
      go_wp2
      go_ret2
      exact ⟨rfl, rfl⟩
    · rw [if_neg h2, decide_eq_false (by omega)]
      go_enter Try.func19, Try.ntmps19
      go_wp2
      go_ret2
      exact ⟨rfl, rfl⟩
theorem refClamp_any (a low high : Int) (w : World) :
    Calls Try.prog 20 #[.int .i64 a, .int .i64 low, .int .i64 high] w fun e w' => e = .returned (.tuple #[.int .i64 (clV a low high), .bool (clB a low high)]) ∧ w = w' := by
  unfold clV clB
  by_cases h : a < low
  · rw [if_pos h, decide_eq_true (Or.inl h)]
    go_enter Try.func20, Try.ntmps20
    go_wp2
    go_ret2
    exact ⟨rfl, rfl⟩
  · rw [if_neg h]
    by_cases h2 : high < a
    · rw [if_pos h2, decide_eq_true (Or.inr h2)]
      go_enter Try.func20, Try.ntmps20
      go_wp2
      go_ret2
      exact ⟨rfl, rfl⟩
    · rw [if_neg h2, decide_eq_false (by omega)]
      go_enter Try.func20, Try.ntmps20
      go_wp2
      go_ret2
      exact ⟨rfl, rfl⟩
/-- A saturated sum. -/
def saV (a b : Int) : Int := if a + b < -9223372036854775808 then -9223372036854775808 else if 9223372036854775807 < a + b then 9223372036854775807 else a + b
def saB (a b : Int) : Bool := decide (a + b < -9223372036854775808 ∨ 9223372036854775807 < a + b)
theorem saturate_any (a b : Int) (a0 : -9223372036854775808 ≤ a) (a1 : a ≤ 9223372036854775807) (b0 : -9223372036854775808 ≤ b) (b1 : b ≤ 9223372036854775807) (w : World) :
    Calls Try.prog 17 #[.int .i64 a, .int .i64 b] w fun e w' => e = .returned (.tuple #[.int .i64 (saV a b), .bool (saB a b)]) ∧ w = w' := by
  have HC := fun w => keepw (add64_any a b a0 a1 b0 b1 w)
  unfold saV saB
  by_cases h : a + b < -9223372036854775808
  · obtain ⟨e1, e2⟩ := fit_no (x := a + b) (by omega)
    rw [e1, e2] at HC
    rw [if_pos h, decide_eq_true (Or.inl h)]
    clear e1 e2
    have H := Lib.hid HC
    clear HC
    have ha : a < 0 := by omega
    clear h
    go_enter Try.func17, Try.ntmps17
    go_wp2_with fail
    refine (H.out _).mono ?_
    rintro e w' ⟨rfl, rfl⟩
    go_wp2
    go_ret2
    exact ⟨rfl, rfl⟩
  · rw [if_neg h]
    by_cases h2 : 9223372036854775807 < a + b
    · obtain ⟨e1, e2⟩ := fit_no (x := a + b) (by omega)
      rw [e1, e2] at HC
      rw [if_pos h2, decide_eq_true (Or.inr h2)]
      clear e1 e2
      have H := Lib.hid HC
      clear HC
      have ha : ¬ a < 0 := by omega
      clear h h2
      go_enter Try.func17, Try.ntmps17
      go_wp2_with fail
      refine (H.out _).mono ?_
      rintro e w' ⟨rfl, rfl⟩
      go_wp2
      go_ret2
      exact ⟨rfl, rfl⟩
    · obtain ⟨e1, e2⟩ := fit_yes (x := a + b) (by omega)
      rw [e1, e2] at HC
      rw [if_neg h2, decide_eq_false (by omega)]
      clear e1 e2
      have H := Lib.hid HC
      clear HC h h2
      go_enter Try.func17, Try.ntmps17
      go_wp2_with fail
      refine (H.out _).mono ?_
      rintro e w' ⟨rfl, rfl⟩
      go_wp2
      go_ret2
      exact ⟨rfl, rfl⟩
theorem refSaturate_any (a b : Int) (a0 : -9223372036854775808 ≤ a) (a1 : a ≤ 9223372036854775807) (b0 : -9223372036854775808 ≤ b) (b1 : b ≤ 9223372036854775807) (w : World) :
    Calls Try.prog 18 #[.int .i64 a, .int .i64 b] w fun e w' => e = .returned (.tuple #[.int .i64 (saV a b), .bool (saB a b)]) ∧ w = w' := by
  have HC := fun w => keepw (refAdd64_any a b a0 a1 b0 b1 w)
  unfold saV saB
  by_cases h : a + b < -9223372036854775808
  · obtain ⟨e1, e2⟩ := fit_no (x := a + b) (by omega)
    rw [e1, e2] at HC
    rw [if_pos h, decide_eq_true (Or.inl h)]
    clear e1 e2
    have H := Lib.hid HC
    clear HC
    have ha : a < 0 := by omega
    clear h
    go_enter Try.func18, Try.ntmps18
    go_wp2_with fail
    refine (H.out _).mono ?_
    rintro e w' ⟨rfl, rfl⟩
    go_wp2
    go_ret2
    exact ⟨rfl, rfl⟩
  · rw [if_neg h]
    by_cases h2 : 9223372036854775807 < a + b
    · obtain ⟨e1, e2⟩ := fit_no (x := a + b) (by omega)
      rw [e1, e2] at HC
      rw [if_pos h2, decide_eq_true (Or.inr h2)]
      clear e1 e2
      have H := Lib.hid HC
      clear HC
      have ha : ¬ a < 0 := by omega
      clear h h2
      go_enter Try.func18, Try.ntmps18
      go_wp2_with fail
      refine (H.out _).mono ?_
      rintro e w' ⟨rfl, rfl⟩
      go_wp2
      go_ret2
      exact ⟨rfl, rfl⟩
    · obtain ⟨e1, e2⟩ := fit_yes (x := a + b) (by omega)
      rw [e1, e2] at HC
      rw [if_neg h2, decide_eq_false (by omega)]
      clear e1 e2
      have H := Lib.hid HC
      clear HC h h2
      go_enter Try.func18, Try.ntmps18
      go_wp2_with fail
      refine (H.out _).mono ?_
      rintro e w' ⟨rfl, rfl⟩
      go_wp2
      go_ret2
      exact ⟨rfl, rfl⟩
/-- The comparison of two fractions, and its error. -/
def raV (a b c d : Int) : Int :=
  if b ≤ 0 ∨ d ≤ 0 then 0 else if a < 0 ∧ 0 ≤ c then -1 else if 0 ≤ a ∧ c < 0 then 1 else if a < 0 then crossZ (-c) b (-a) d else crossZ a d c b
def raE (b d : Int) : Int := if b ≤ 0 ∨ d ≤ 0 then 1 else 0
theorem crossZ_neg (a b c d : Int) : crossZ c d a b = -crossZ a b c d := by
  unfold crossZ wLess
  generalize mHi a b = p
  generalize mLo a b = q
  generalize mHi c d = r
  generalize mLo c d = s
  simp only [decide_eq_true_eq]
  split <;> split <;> first | omega | (split <;> omega) | skip
theorem ratio_any (a b c d : Int) (a0 : -9223372036854775808 ≤ a) (a1 : a ≤ 9223372036854775807) (b1 : b ≤ 9223372036854775807) (c0 : -9223372036854775808 ≤ c) (c1 : c ≤ 9223372036854775807) (d1 : d ≤ 9223372036854775807) (w : World) :
    Calls Try.prog 36 #[.int .i64 a, .int .i64 b, .int .i64 c, .int .i64 d] w fun e w' => e = .returned (.tuple #[.int .i64 (raV a b c d), .int .i64 (raE b d)]) ∧ Below w.heap.size w w' := by
  unfold raV raE
  by_cases h : b ≤ 0 ∨ d ≤ 0
  · rw [if_pos h, if_pos h]
    rcases (by omega : b ≤ 0 ∨ (0 < b ∧ d ≤ 0)) with h | ⟨h, h'⟩
    all_goals
      go_enter Try.func36, Try.ntmps36
      go_wp2
      go_ret2
      exact ⟨rfl, Below.refl _ _⟩
  · rw [if_neg h, if_neg h]
    have hb : ¬ b ≤ 0 := by omega
    have hd : ¬ d ≤ 0 := by omega
    clear h
    rcases (by omega : (a < 0 ∧ 0 ≤ c) ∨ (0 ≤ a ∧ c < 0) ∨ (a < 0 ∧ c < 0) ∨ (0 ≤ a ∧ 0 ≤ c)) with h | h | h | h
    · rw [if_pos h]
      obtain ⟨h1, h2⟩ := h
      go_enter Try.func36, Try.ntmps36
      go_wp2
      go_ret2
      exact ⟨rfl, Below.refl _ _⟩
    · rw [if_neg (by omega), if_pos h]
      obtain ⟨h1, h2⟩ := h
      have h1' : ¬ a < 0 := by omega
      go_enter Try.func36, Try.ntmps36
      go_wp2
      go_ret2
      exact ⟨rfl, Below.refl _ _⟩
    · rw [if_neg (by omega), if_neg (by omega), if_pos h.1]
      obtain ⟨h1, h2⟩ := h
      have HA := fun w => keepw (magnitude_any a a0 a1 w)
      have HB := fun w => keepw (magnitude_any c c0 c1 w)
      rw [absZ_neg h1] at HA
      rw [absZ_neg h2] at HB
      have HX := Lib.hid (fun w => cross_any (-c) b (-a) d (by omega) (by omega) (by omega) (by omega) (by omega) (by omega) (by omega) (by omega) w)
      have HA' := Lib.hid HA
      have HB' := Lib.hid HB
      clear HA HB
      have h1' : ¬ 0 ≤ a := by omega
      have h2' : ¬ 0 ≤ c := by omega
      generalize crossZ (-c) b (-a) d = X at *
      go_enter Try.func36, Try.ntmps36
      go_wp2_with fail
      refine (HB'.out _).mono ?_
      rintro e w' ⟨rfl, rfl⟩
      go_wp2_with fail
      refine (HA'.out _).mono ?_
      rintro e w' ⟨rfl, rfl⟩
      go_wp2_with fail
      refine (HX.out _).mono ?_
      rintro e w' ⟨rfl, hB⟩
      go_wp2
      go_ret2
      exact ⟨rfl, hB⟩
    · rw [if_neg (by omega), if_neg (by omega), if_neg (by omega)]
      obtain ⟨h1, h2⟩ := h
      have HX := Lib.hid (fun w => cross_any a d c b (by omega) (by omega) (by omega) (by omega) (by omega) (by omega) (by omega) (by omega) w)
      have h1' : ¬ a < 0 := by omega
      have h2' : ¬ c < 0 := by omega
      generalize crossZ a d c b = X at *
      go_enter Try.func36, Try.ntmps36
      go_wp2_with fail
      refine (HX.out _).mono ?_
      rintro e w' ⟨rfl, hB⟩
      go_wp2
      go_ret2
      exact ⟨rfl, hB⟩
theorem crossZ_bd (a b c d : Int) : -1 ≤ crossZ a b c d ∧ crossZ a b c d ≤ 1 := by
  unfold crossZ; split
  · omega
  · split <;> omega
theorem refRatio_any (a b c d : Int) (a0 : -9223372036854775808 ≤ a) (a1 : a ≤ 9223372036854775807) (b1 : b ≤ 9223372036854775807) (c0 : -9223372036854775808 ≤ c) (c1 : c ≤ 9223372036854775807) (d1 : d ≤ 9223372036854775807) (w : World) :
    Calls Try.prog 37 #[.int .i64 a, .int .i64 b, .int .i64 c, .int .i64 d] w fun e w' => e = .returned (.tuple #[.int .i64 (raV a b c d), .int .i64 (raE b d)]) ∧ Below w.heap.size w w' := by
  unfold raV raE
  by_cases h : b ≤ 0 ∨ d ≤ 0
  · rw [if_pos h, if_pos h]
    rcases (by omega : b ≤ 0 ∨ (0 < b ∧ d ≤ 0)) with h | ⟨h, h'⟩
    all_goals
      go_enter Try.func37, Try.ntmps37
      go_wp2
      go_ret2
      exact ⟨rfl, Below.refl _ _⟩
  · rw [if_neg h, if_neg h]
    have hb : ¬ b ≤ 0 := by omega
    have hd : ¬ d ≤ 0 := by omega
    clear h
    rcases (by omega : (a < 0 ∧ 0 ≤ c) ∨ (0 ≤ a ∧ c < 0) ∨ (a < 0 ∧ c < 0) ∨ (0 ≤ a ∧ 0 ≤ c)) with h | h | h | h
    · rw [if_pos h]
      obtain ⟨h1, h2⟩ := h
      go_enter Try.func37, Try.ntmps37
      go_wp2
      go_ret2
      exact ⟨rfl, Below.refl _ _⟩
    · rw [if_neg (by omega), if_pos h]
      obtain ⟨h1, h2⟩ := h
      have h1' : ¬ a < 0 := by omega
      go_enter Try.func37, Try.ntmps37
      go_wp2
      go_ret2
      exact ⟨rfl, Below.refl _ _⟩
    · rw [if_neg (by omega), if_neg (by omega), if_pos h.1, crossZ_neg (-a) d (-c) b]
      obtain ⟨h1, h2⟩ := h
      have HA := fun w => keepw (refAbs_any a a0 a1 w)
      have HB := fun w => keepw (refAbs_any c c0 c1 w)
      rw [absZ_neg h1] at HA
      rw [absZ_neg h2] at HB
      have HX := Lib.hid (fun w => refCross_any (-a) d (-c) b (by omega) (by omega) (by omega) (by omega) (by omega) (by omega) (by omega) (by omega) w)
      have HA' := Lib.hid HA
      have HB' := Lib.hid HB
      clear HA HB
      have h1' : ¬ 0 ≤ a := by omega
      have h2' : ¬ 0 ≤ c := by omega
      obtain ⟨x0, x1⟩ := crossZ_bd (-a) d (-c) b
      generalize crossZ (-a) d (-c) b = X at *
      go_enter Try.func37, Try.ntmps37
      go_wp2_with fail
      refine (HA'.out _).mono ?_
      rintro e w' ⟨rfl, rfl⟩
      go_wp2_with fail
      refine (HB'.out _).mono ?_
      rintro e w' ⟨rfl, rfl⟩
      go_wp2_with fail
      refine (HX.out _).mono ?_
      rintro e w' ⟨rfl, hB⟩
      go_wp2
      go_ret2
      exact ⟨rfl, hB⟩
    · rw [if_neg (by omega), if_neg (by omega), if_neg (by omega)]
      obtain ⟨h1, h2⟩ := h
      have HA := fun w => keepw (refAbs_any a a0 a1 w)
      have HB := fun w => keepw (refAbs_any c c0 c1 w)
      rw [absZ_pos (by omega)] at HA
      rw [absZ_pos (by omega)] at HB
      have HX := Lib.hid (fun w => refCross_any a d c b (by omega) (by omega) (by omega) (by omega) (by omega) (by omega) (by omega) (by omega) w)
      have HA' := Lib.hid HA
      have HB' := Lib.hid HB
      clear HA HB
      have h1' : ¬ a < 0 := by omega
      have h2' : ¬ c < 0 := by omega
      generalize crossZ a d c b = X at *
      go_enter Try.func37, Try.ntmps37
      go_wp2_with fail
      refine (HA'.out _).mono ?_
      rintro e w' ⟨rfl, rfl⟩
      go_wp2_with fail
      refine (HB'.out _).mono ?_
      rintro e w' ⟨rfl, rfl⟩
      go_wp2_with fail
      refine (HX.out _).mono ?_
      rintro e w' ⟨rfl, hB⟩
      go_wp2
      go_ret2
      exact ⟨rfl, hB⟩
end Go.Proofs.Ytblagnhdojejmaa
