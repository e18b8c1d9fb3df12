/-
  Layer 2: contracts of the program's and the reference's products and quotients (package fixed). Every input; no condition.
-/
import Derived.Test.YtblagnhdojejmaaFixC2
import Derived.Lib.Hide
import Derived.IntWalk
import Derived.Outline
namespace Go.Proofs.Ytblagnhdojejmaa
open Go.ChangeShapes Go.WideShapes Go.ChangeAt Go.RowKit
set_option linter.unusedVariables false

theorem prod_bd {A B : Int} (a0 : 0 ≤ A) (a1 : A ≤ 9223372036854775808) (b0 : 0 ≤ B) (b1 : B ≤ 9223372036854775808) : 0 ≤ A * B ∧ A * B ≤ 85070591730234615865843651857942052864 :=
  ⟨Int.mul_nonneg a0 b0, Int.le_trans (Int.mul_le_mul a1 b1 b0 (by omega)) (by omega)⟩
/-- What the walks over Mul need: the product of the magnitudes is below 2^64 and is the lower word, or the product does not fit. -/
theorem mul_words {a b : Int} (a0 : -9223372036854775808 ≤ a) (a1 : a ≤ 9223372036854775807) (b0 : -9223372036854775808 ≤ b) (b1 : b ≤ 9223372036854775807) :
    (mHi (absZ a) (absZ b) = 0 ∧ sgn (mLo (absZ a) (absZ b)) (negs a b) = a * b) ∨ (0 < mHi (absZ a) (absZ b) ∧ fitV (a * b) = 0 ∧ fitE (a * b) = 2) := by
  have ha := absZ_bd a0 a1
  have hb := absZ_bd b0 b1
  have hp := prod_bd ha.1 ha.2 hb.1 hb.2
  have hw := wide_prod (absZ a) (absZ b)
  have hs := sgn_mul a b
  have hl := mLo_bd (absZ a) (absZ b)
  rcases (by omega : mHi (absZ a) (absZ b) = 0 ∨ mHi (absZ a) (absZ b) < 0 ∨ 0 < mHi (absZ a) (absZ b)) with h | h | h
  · left
    refine ⟨h, ?_⟩
    rw [← hs]; congr 1; omega
  · have := (mHi_bd (absZ a) (absZ b) ha.1 (by omega) hb.1 (by omega)).1
    omega
  · right
    refine ⟨h, fit_no ?_⟩
    rw [← hs]
    exact sgn_big (by omega)
theorem mul64_any (a b : Int) (a0 : -9223372036854775808 ≤ a) (a1 : a ≤ 9223372036854775807) (b0 : -9223372036854775808 ≤ b) (b1 : b ≤ 9223372036854775807) (w : World) :
    Calls Try.prog 26 #[.int .i64 a, .int .i64 b] w fun e w' => e = .returned (.tuple #[.int .i64 (fitV (a * b)), .int .i64 (fitE (a * b))]) ∧ Below w.heap.size w w' := by
  have ha := absZ_bd a0 a1
  have hb := absZ_bd b0 b1
  have HA := Lib.hid (fun w => magnitude_any a a0 a1 w)
  have HB := Lib.hid (fun w => magnitude_any b b0 b1 w)
  have HM := Lib.hid (fun w => mul_any (absZ a) (absZ b) ha.1 (by omega) hb.1 (by omega) w)
  have hv := mLo_bd (absZ a) (absZ b)
  rcases mul_words a0 a1 b0 b1 with ⟨h1, h2⟩ | ⟨h1, h2, h3⟩
  · have HS := Lib.hid (fun w => signed_any (mLo (absZ a) (absZ b)) (negs a b) hv.1 hv.2 w)
    rw [h1] at HM
    rw [h2] at HS
    clear h1 h2
    unfold negs at HS
    generalize mLo (absZ a) (absZ b) = V at *
    generalize absZ a = A at *
    generalize absZ b = B at *
    generalize fitV (a * b) = FV at *
    generalize fitE (a * b) = FE at *
    rcases signs a with s1 | s1 <;> rcases signs b with s2 | s2
    all_goals
      rw [s1, s2] at HS
      go_enter Try.func26, Try.ntmps26
      go_wp2_with fail
      refine (HA.out _).mono ?_
      rintro e w' ⟨rfl, hw⟩
      subst hw
      go_wp2_with fail
      refine (HB.out _).mono ?_
      rintro e w' ⟨rfl, hw⟩
      subst hw
      go_wp2_with fail
      refine (HM.out _).mono ?_
      rintro e w' ⟨rfl, hw⟩
      subst hw
      go_wp2_with fail
      refine (HS.out _).mono ?_
      rintro e w' ⟨rfl, hw⟩
      subst hw
      go_wp2
      go_ret2
      exact ⟨rfl, below_alloc (below_alloc (Below.refl _ _) _) _⟩
  · rw [h2, h3]
    clear h2 h3
    have hne : ¬ mHi (absZ a) (absZ b) = 0 := by omega
    clear h1
    generalize mLo (absZ a) (absZ b) = V at *
    generalize mHi (absZ a) (absZ b) = U at *
    generalize absZ a = A at *
    generalize absZ b = B at *
    go_enter Try.func26, Try.ntmps26
    go_wp2_with fail
    refine (HA.out _).mono ?_
    rintro e w' ⟨rfl, hw⟩
    subst hw
    go_wp2_with fail
    refine (HB.out _).mono ?_
    rintro e w' ⟨rfl, hw⟩
    subst hw
    go_wp2_with fail
    refine (HM.out _).mono ?_
    rintro e w' ⟨rfl, hw⟩
    subst hw
    go_wp2
    go_ret2
    exact ⟨rfl, below_alloc (below_alloc (Below.refl _ _) _) _⟩
theorem refMul64_any (a b : Int) (a0 : -9223372036854775808 ≤ a) (a1 : a ≤ 9223372036854775807) (b0 : -9223372036854775808 ≤ b) (b1 : b ≤ 9223372036854775807) (w : World) :
    Calls Try.prog 27 #[.int .i64 a, .int .i64 b] w fun e w' => e = .returned (.tuple #[.int .i64 (fitV (a * b)), .int .i64 (fitE (a * b))]) ∧ Below w.heap.size w w' := by
  have ha := absZ_bd a0 a1
  have hb := absZ_bd b0 b1
  have HA := Lib.hid (fun w => refAbs_any a a0 a1 w)
  have HB := Lib.hid (fun w => refAbs_any b b0 b1 w)
  have HM := Lib.hid (fun w => refMul_any (absZ a) (absZ b) ha.1 (by omega) hb.1 (by omega) w)
  have hv := mLo_bd (absZ a) (absZ b)
  rcases mul_words a0 a1 b0 b1 with ⟨h1, h2⟩ | ⟨h1, h2, h3⟩
  · rw [h1] at HM
    rcases (by omega : mLo (absZ a) (absZ b) = 0 ∨ 0 < mLo (absZ a) (absZ b)) with hz | hz
    · rw [hz] at h2 HM
      have h4 : a * b = 0 := by rw [← h2]; unfold sgn; split <;> rfl
      rw [h4]
      have HS := Lib.hid (fun w => refSigned_any 0 false (by omega) (by omega) w)
      have h5 : sgn 0 false = 0 := rfl
      rw [h5] at HS
      clear h1 h2 h4 h5 hz hv
      generalize absZ a = A at *
      generalize absZ b = B at *
      generalize fitV 0 = FV at *
      generalize fitE 0 = FE at *
      rcases signs a with s1 | s1 <;> rcases signs b with s2 | s2
      all_goals
        go_enter Try.func27, Try.ntmps27
        go_wp2_with fail
        refine (HA.out _).mono ?_
        rintro e w' ⟨rfl, hw⟩
        subst hw
        go_wp2_with fail
        refine (HB.out _).mono ?_
        rintro e w' ⟨rfl, hw⟩
        subst hw
        go_wp2_with fail
        refine (HM.out _).mono ?_
        rintro e w' ⟨rfl, hw⟩
        subst hw
        go_wp2_with fail
        refine (HS.out _).mono ?_
        rintro e w' ⟨rfl, hw⟩
        subst hw
        go_wp2
        go_ret2
        exact ⟨rfl, by repeat (first | with_reducible exact Below.refl _ _ | with_reducible apply below_alloc)⟩
    · have HS := Lib.hid (fun w => refSigned_any (mLo (absZ a) (absZ b)) (negs a b) hv.1 hv.2 w)
      rw [h2] at HS
      clear h1 h2
      unfold negs at HS
      generalize mLo (absZ a) (absZ b) = V at *
      generalize absZ a = A at *
      generalize absZ b = B at *
      generalize fitV (a * b) = FV at *
      generalize fitE (a * b) = FE at *
      rcases signs a with s1 | s1 <;> rcases signs b with s2 | s2
      all_goals
        rw [s1, s2] at HS
        go_enter Try.func27, Try.ntmps27
        go_wp2_with fail
        refine (HA.out _).mono ?_
        rintro e w' ⟨rfl, hw⟩
        subst hw
        go_wp2_with fail
        refine (HB.out _).mono ?_
        rintro e w' ⟨rfl, hw⟩
        subst hw
        go_wp2_with fail
        refine (HM.out _).mono ?_
        rintro e w' ⟨rfl, hw⟩
        subst hw
        go_wp2_with fail
        refine (HS.out _).mono ?_
        rintro e w' ⟨rfl, hw⟩
        subst hw
        go_wp2
        go_ret2
        exact ⟨rfl, by repeat (first | with_reducible exact Below.refl _ _ | with_reducible apply below_alloc)⟩
  · rw [h2, h3]
    clear h2 h3
    have hne : ¬ mHi (absZ a) (absZ b) = 0 := by omega
    generalize mLo (absZ a) (absZ b) = V at *
    generalize mHi (absZ a) (absZ b) = U at *
    generalize absZ a = A at *
    generalize absZ b = B at *
    go_enter Try.func27, Try.ntmps27
    go_wp2_with fail
    refine (HA.out _).mono ?_
    rintro e w' ⟨rfl, hw⟩
    subst hw
    go_wp2_with fail
    refine (HB.out _).mono ?_
    rintro e w' ⟨rfl, hw⟩
    subst hw
    go_wp2_with fail
    refine (HM.out _).mono ?_
    rintro e w' ⟨rfl, hw⟩
    subst hw
    go_wp2
    go_ret2
    exact ⟨rfl, by repeat (first | with_reducible exact Below.refl _ _ | with_reducible apply below_alloc)⟩
end Go.Proofs.Ytblagnhdojejmaa
