/-
  Layer 2: contracts of the program's and the reference's checked arithmetic (package fixed). Every input; no condition.
-/
import Derived.Test.YtcnpmbgeafkmlaaPlain
import Derived.Test.YtcnpmbgeafkmlaaDivC
import Derived.Test.YtcnpmbgeafkmlaaMulC
import Derived.Lib.Hide
import Derived.IntWalk
import Derived.Outline
namespace Go.Proofs.Ytcnpmbgeafkmlaa
open Go.ChangeShapes Go.WideShapes Go.ChangeAt Go.RowKit
set_option linter.unusedVariables false

theorem magnitude_any (a : Int) (a0 : -9223372036854775808 ≤ a) (a1 : a ≤ 9223372036854775807) (w : World) :
    Calls Try.prog 39 #[.int .i64 a] w fun e w' => e = .returned (.int .u64 (absZ a)) ∧ w' = w := by
  by_cases h : a < 0
  · rw [absZ_neg h]
    have e1 : IntKind.u64.wrap (-IntKind.u64.wrap a) = -a := by rw [IntKind.wrap_u64, IntKind.wrap_u64]; omega
    go_enter Try.func39, Try.ntmps39
    go_wp2
    go_ret
    exact ⟨rfl, rfl⟩
  · rw [absZ_pos h]
    go_enter Try.func39, Try.ntmps39
    go_wp2
    go_ret
    exact ⟨rfl, rfl⟩
theorem w64_min : wrap64 (-wrap64 9223372036854775808) = -9223372036854775808 := by unfold wrap64; decide
theorem signed_any (m : Int) (neg : Bool) (m0 : 0 ≤ m) (m1 : m ≤ 18446744073709551615) (w : World) :
    Calls Try.prog 43 #[.int .u64 m, .bool neg] w fun e w' => e = .returned (.tuple #[.int .i64 (fitV (sgn m neg)), .int .i64 (fitE (sgn m neg))]) ∧ w' = w := by
  cases neg with
  | true =>
    by_cases h : m ≤ 9223372036854775808
    · obtain ⟨e1, e2⟩ := fit_yes (x := sgn m true) (by unfold sgn; simp; omega)
      rw [e1, e2]
      have e3 : sgn m true = -m := rfl
      rw [e3]
      clear e1 e2 e3
      rcases (by omega : m = 9223372036854775808 ∨ m < 9223372036854775808) with hm | hm
      · subst hm
        go_enter Try.func43, Try.ntmps43
        go_wp2
        go_ret2
        exact ⟨congrArg (fun x => Ending.returned (.tuple #[.int .i64 x, .int .i64 0])) w64_min, rfl⟩
      · go_enter Try.func43, Try.ntmps43
        go_wp2
        go_ret2
        exact ⟨rfl, rfl⟩
    · obtain ⟨e1, e2⟩ := fit_no (x := sgn m true) (by unfold sgn; simp; omega)
      rw [e1, e2]
      clear e1 e2
      go_enter Try.func43, Try.ntmps43
      go_wp2
      go_ret2
      exact ⟨rfl, rfl⟩
  | false =>
    by_cases h : m < 9223372036854775808
    · obtain ⟨e1, e2⟩ := fit_yes (x := sgn m false) (by unfold sgn; simp; omega)
      rw [e1, e2]
      have e3 : sgn m false = m := rfl
      rw [e3]
      clear e1 e2 e3
      go_enter Try.func43, Try.ntmps43
      go_wp2
      go_ret2
      exact ⟨rfl, rfl⟩
    · obtain ⟨e1, e2⟩ := fit_no (x := sgn m false) (by unfold sgn; simp; omega)
      rw [e1, e2]
      clear e1 e2
      go_enter Try.func43, Try.ntmps43
      go_wp2
      go_ret2
      exact ⟨rfl, rfl⟩
theorem away_any (rest d round : Int) (neg : Bool) (r0 : 0 ≤ rest) (r1 : rest < d) (d1 : d ≤ 18446744073709551615) (w : World) :
    Calls Try.prog 42 #[.int .u64 rest, .int .u64 d, .bool neg, .int .i64 round] w fun e w' => e = .returned (.bool (away rest d neg round)) ∧ w' = w := by
  unfold away
  by_cases h0 : round = 0
  · subst h0
    rw [if_pos rfl]
    cases neg
    all_goals
      go_enter Try.func42, Try.ntmps42
      go_wp2
      go_ret
      exact ⟨rfl, rfl⟩
  · rw [if_neg h0]
    by_cases h1 : round = 1
    · subst h1
      rw [if_pos rfl]
      cases neg
      all_goals
        go_enter Try.func42, Try.ntmps42
        go_wp2
        go_ret
        exact ⟨rfl, rfl⟩
    · rw [if_neg h1]
      go_enter Try.func42, Try.ntmps42
      go_wp2
      go_ret
      exact ⟨rfl, rfl⟩
/-! ### (FixC2) Layer 2: contracts of the program's and the reference's checked arithmetic (package fixed). Every input; no condition. -/
/-- A sum of two numbers, wrapped: it fits, or it is too great, or too small. -/
theorem wrap_cases (x : Int) (h0 : -18446744073709551616 ≤ x) (h1 : x ≤ 18446744073709551615) :
    ((-9223372036854775808 ≤ x ∧ x ≤ 9223372036854775807) ∧ wrap64 x = x) ∨ (9223372036854775807 < x ∧ wrap64 x = x - 18446744073709551616) ∨ (x < -9223372036854775808 ∧ wrap64 x = x + 18446744073709551616) := by
  unfold wrap64; omega
theorem dyes {p : Prop} [Decidable p] (h : p) : decide p = true := decide_eq_true h
theorem dno {p : Prop} [Decidable p] (h : ¬ p) : decide p = false := decide_eq_false h
theorem prod_bd {A B : Int} (a0 : 0 ≤ A) (a1 : A ≤ 9223372036854775808) (b0 : 0 ≤ B) (b1 : B ≤ 9223372036854775808) : 0 ≤ A * B ∧ A * B ≤ 85070591730234615865843651857942052864 :=
  ⟨Int.mul_nonneg a0 b0, Int.le_trans (Int.mul_le_mul a1 b1 b0 (by omega)) (by omega)⟩
/-- What the walks over Mul need: the product of the magnitudes is below 2^64 and is the lower word, or the product does not fit. -/
theorem mul_words {a b : Int} (a0 : -9223372036854775808 ≤ a) (a1 : a ≤ 9223372036854775807) (b0 : -9223372036854775808 ≤ b) (b1 : b ≤ 9223372036854775807) :
    (mHi (absZ a) (absZ b) = 0 ∧ sgn (mLo (absZ a) (absZ b)) (negs a b) = a * b) ∨ (0 < mHi (absZ a) (absZ b) ∧ fitV (a * b) = 0 ∧ fitE (a * b) = 2) := by
  have ha := absZ_bd a0 a1
  have hb := absZ_bd b0 b1
  have hp := prod_bd ha.1 ha.2 hb.1 hb.2
  have hw := wide_prod (absZ a) (absZ b)
  have hs := sgn_mul a b
  have hl := mLo_bd (absZ a) (absZ b)
  rcases (by omega : mHi (absZ a) (absZ b) = 0 ∨ mHi (absZ a) (absZ b) < 0 ∨ 0 < mHi (absZ a) (absZ b)) with h | h | h
  · left
    refine ⟨h, ?_⟩
    rw [← hs]; congr 1; omega
  · have := (mHi_bd (absZ a) (absZ b) ha.1 (by omega) hb.1 (by omega)).1
    omega
  · right
    refine ⟨h, fit_no ?_⟩
    rw [← hs]
    exact sgn_big (by omega)
/-- The parts of a division, for the walks: everything that they name, as plain numbers. -/
structure MdParts (a b c round : Int) (n : Bool) (A B D U V q r : Int) : Prop where
  hA : A = absZ a
  hB : B = absZ b
  hD : D = absZ c
  hU : U = mHi A B
  hV : V = mLo A B
  hq : q = A * B / D
  hr : r = A * B % D
  hn : n = (negs a b != decide (c < 0))
theorem md_value {a b c round : Int} {n : Bool} {A B D U V q r : Int} (h : MdParts a b c round n A B D U V q r) : mdQ a b c round = sgn (q + ups (away r D n round)) n := by
  obtain ⟨rfl, rfl, rfl, rfl, rfl, rfl, rfl, rfl⟩ := h
  rfl
theorem keepw {P : Program} {f : Nat} {args : Array Value} {w : World} {v : Ending} (h : Calls P f args w fun e w' => e = v ∧ w' = w) : Calls P f args w fun e w' => e = v ∧ w = w' := h.mono fun _ _ ⟨a, b⟩ => ⟨a, b.symm⟩
theorem abs_ne {c : Int} (h : c ≠ 0) : 0 < absZ c := by unfold absZ; split <;> omega
/-- The quotient does not fit into a word. -/
theorem md_range {a b c round : Int} (a0 : -9223372036854775808 ≤ a) (a1 : a ≤ 9223372036854775807) (b0 : -9223372036854775808 ≤ b) (b1 : b ≤ 9223372036854775807) (hr : ¬ (round < 0 ∨ 2 < round)) (hc : c ≠ 0) (h : absZ c ≤ mHi (absZ a) (absZ b)) : mdV a b c round = 0 ∧ mdE a b c round = 2 := by
  obtain ⟨e1, e2⟩ := md_ok (a := a) (b := b) hr hc
  have ha := absZ_bd a0 a1
  have hb := absZ_bd b0 b1
  have hp := prod_bd ha.1 ha.2 hb.1 hb.2
  have hd := abs_ne hc
  have hu : mHi (absZ a) (absZ b) = absZ a * absZ b / 18446744073709551616 := rfl
  have hq := big_quo hd hp.1 (by omega)
  have hu := ups_bd (away (absZ a * absZ b % absZ c) (absZ c) (negs a b != decide (c < 0)) round)
  rw [e1, e2]
  refine fit_no ?_
  unfold mdQ
  exact sgn_big (by omega)
/-- The quotient is the greatest word: it does not fit, rounded or not. -/
theorem md_top {a b c round : Int} (hr : ¬ (round < 0 ∨ 2 < round)) (hc : c ≠ 0) (n : Bool) (h : absZ a * absZ b / absZ c = 18446744073709551615) : mdV a b c round = fitV (sgn 18446744073709551615 n) ∧ mdE a b c round = fitE (sgn 18446744073709551615 n) := by
  obtain ⟨e1, e2⟩ := md_ok (a := a) (b := b) hr hc
  have hu := ups_bd (away (absZ a * absZ b % absZ c) (absZ c) (negs a b != decide (c < 0)) round)
  obtain ⟨f1, f2⟩ := fit_no (x := mdQ a b c round) (by unfold mdQ; exact sgn_big (by omega))
  obtain ⟨g1, g2⟩ := fit_no (x := sgn 18446744073709551615 n) (sgn_big (by omega))
  rw [e1, e2, f1, f2, g1, g2]; exact ⟨rfl, rfl⟩
set_option maxHeartbeats 8000000 in
theorem muldiv_any (a b c round : Int) (a0 : -9223372036854775808 ≤ a) (a1 : a ≤ 9223372036854775807) (b0 : -9223372036854775808 ≤ b) (b1 : b ≤ 9223372036854775807) (c0 : -9223372036854775808 ≤ c) (c1 : c ≤ 9223372036854775807) (w : World) :
    Calls Try.prog 37 #[.int .i64 a, .int .i64 b, .int .i64 c, .int .i64 round] w fun e w' => e = .returned (.tuple #[.int .i64 (mdV a b c round), .int .i64 (mdE a b c round)]) ∧ Below w.heap.size w w' := by
  by_cases hbad : round < 0 ∨ 2 < round
  · obtain ⟨e1, e2⟩ := md_bad (a := a) (b := b) (c := c) hbad
    rw [e1, e2]
    clear e1 e2
    have h0 : (round != 0) = true := by rw [bne_iff_ne]; omega
    have h1 : (round != 1) = true := by rw [bne_iff_ne]; omega
    have h2 : (round != 2) = true := by rw [bne_iff_ne]; omega
    clear hbad
    go_enter Try.func37, Try.ntmps37
    go_wp2
    go_ret2
    exact ⟨rfl, Below.refl _ _⟩
  · have ha := absZ_bd a0 a1
    have hb := absZ_bd b0 b1
    have hc := absZ_bd c0 c1
    have HA := Lib.hid (fun w => keepw (magnitude_any a a0 a1 w))
    have HB := Lib.hid (fun w => keepw (magnitude_any b b0 b1 w))
    have HC := Lib.hid (fun w => keepw (magnitude_any c c0 c1 w))
    have hu := mHi_bd (absZ a) (absZ b) ha.1 (by omega) hb.1 (by omega)
    have hv := mLo_bd (absZ a) (absZ b)
    have HM := Lib.hid (fun w => mul_any (absZ a) (absZ b) ha.1 (by omega) hb.1 (by omega) w)
    have HD := fun w => div_any (mHi (absZ a) (absZ b)) (mLo (absZ a) (absZ b)) (absZ c) hu.1 hu.2 hv.1 hv.2 hc.1 (by omega) w
    by_cases hz : c = 0
    · subst hz
      obtain ⟨e1, e2⟩ := md_zero (a := a) (b := b) hbad
      obtain ⟨f1, f2, f3⟩ := dv_zero (mHi (absZ a) (absZ b)) (mLo (absZ a) (absZ b))
      have hz : absZ 0 = 0 := rfl
      rw [hz, f1, f2, f3] at HD
      rw [hz] at HC
      rw [e1, e2]
      have HD' := Lib.hid HD
      clear e1 e2 f1 f2 f3 HD hz hc
      generalize mLo (absZ a) (absZ b) = V at *
      generalize mHi (absZ a) (absZ b) = U at *
      generalize absZ a = A at *
      generalize absZ b = B at *
      rcases (by omega : round = 0 ∨ round = 1 ∨ round = 2) with rfl | rfl | rfl
      all_goals
        clear hbad
        go_enter Try.func37, Try.ntmps37
        go_wp2_with fail
        refine (HC.out _).mono ?_
        rintro e w' ⟨rfl, rfl⟩
        go_wp2_with fail
        refine (HA.out _).mono ?_
        rintro e w' ⟨rfl, rfl⟩
        go_wp2_with fail
        refine (HB.out _).mono ?_
        rintro e w' ⟨rfl, rfl⟩
        go_wp2_with fail
        refine (HM.out _).mono ?_
        rintro e w' ⟨rfl, rfl⟩
        go_wp2_with fail
        refine (HD'.out _).mono ?_
        rintro e w2 ⟨rfl, hb⟩
        have hB := (below_alloc (Below.refl _ w) _).trans (hb.mono (by simp))
        clear hb
        go_wp2
        go_ret2
        exact ⟨rfl, hB⟩
    · have hd := abs_ne hz
      by_cases hx : absZ c ≤ mHi (absZ a) (absZ b)
      · obtain ⟨e1, e2⟩ := md_range a0 a1 b0 b1 hbad hz hx
        obtain ⟨f1, f2, f3⟩ := dv_range (lo := mLo (absZ a) (absZ b)) (show absZ c ≠ 0 by omega) hx
        rw [f1, f2, f3] at HD
        rw [e1, e2]
        have HD' := Lib.hid HD
        clear e1 e2 f1 f2 f3 HD hx
        generalize mLo (absZ a) (absZ b) = V at *
        generalize mHi (absZ a) (absZ b) = U at *
        generalize absZ a = A at *
        generalize absZ b = B at *
        generalize absZ c = D at *
        rcases (by omega : round = 0 ∨ round = 1 ∨ round = 2) with rfl | rfl | rfl
        all_goals
          clear hbad
          go_enter Try.func37, Try.ntmps37
          go_wp2_with fail
          refine (HC.out _).mono ?_
          rintro e w' ⟨rfl, rfl⟩
          go_wp2_with fail
          refine (HA.out _).mono ?_
          rintro e w' ⟨rfl, rfl⟩
          go_wp2_with fail
          refine (HB.out _).mono ?_
          rintro e w' ⟨rfl, rfl⟩
          go_wp2_with fail
          refine (HM.out _).mono ?_
          rintro e w' ⟨rfl, rfl⟩
          go_wp2_with fail
          refine (HD'.out _).mono ?_
          rintro e w2 ⟨rfl, hb⟩
          have hB := (below_alloc (Below.refl _ w) _).trans (hb.mono (by simp))
          clear hb
          go_wp2
          go_ret2
          exact ⟨rfl, hB⟩
      · obtain ⟨f1, f2, f3⟩ := dv_ok (hi := mHi (absZ a) (absZ b)) (lo := mLo (absZ a) (absZ b)) (show absZ c ≠ 0 by omega) (by omega)
        rw [f1, f2, f3] at HD
        have hq := qOf_bd (lo := mLo (absZ a) (absZ b)) (d := absZ c) hu.1 hv.1 hv.2 (by omega)
        have hr := rOf_bd (hi := mHi (absZ a) (absZ b)) (lo := mLo (absZ a) (absZ b)) hd
        obtain ⟨n, hn⟩ : ∃ n, n = (negs a b != decide (c < 0)) := ⟨_, rfl⟩
        have hval := md_value (round := round) (n := n) ⟨rfl, rfl, rfl, rfl, rfl, rfl, rfl, hn⟩
        have htop := md_top (a := a) (b := b) hbad hz n
        rw [← qOf_prod, ← rOf_prod] at hval
        rw [← qOf_prod] at htop
        obtain ⟨m1, m2⟩ := md_ok (a := a) (b := b) hbad hz
        rw [hval] at m1 m2
        have HW := fun w => keepw (away_any (rOf (mHi (absZ a) (absZ b)) (mLo (absZ a) (absZ b)) (absZ c)) (absZ c) round n hr.1 hr.2 (by omega) w)
        have HD' := Lib.hid HD
        clear f1 f2 f3 HD hval
        unfold negs at hn
        generalize qOf (mHi (absZ a) (absZ b)) (mLo (absZ a) (absZ b)) (absZ c) = q at *
        generalize rOf (mHi (absZ a) (absZ b)) (mLo (absZ a) (absZ b)) (absZ c) = r at *
        generalize mLo (absZ a) (absZ b) = V at *
        generalize mHi (absZ a) (absZ b) = U at *
        generalize absZ a = A at *
        generalize absZ b = B at *
        generalize absZ c = D at *
        rcases (by omega : q = 18446744073709551615 ∨ q < 18446744073709551615) with hqt | hqt
        · subst hqt
          obtain ⟨g1, g2⟩ := htop rfl
          rw [g1, g2]
          have HS := fun w => keepw (signed_any 18446744073709551615 n (by omega) (by omega) w)
          clear m1 m2 g1 g2 HW htop
          generalize fitV (sgn 18446744073709551615 n) = FV at *
          generalize fitE (sgn 18446744073709551615 n) = FE at *
          have HS' := Lib.hid HS
          clear HS
          obtain ⟨p1, s1⟩ : ∃ p, decide (a < 0) = p := ⟨_, rfl⟩
          obtain ⟨p2, s2⟩ : ∃ p, decide (b < 0) = p := ⟨_, rfl⟩
          obtain ⟨p3, s3⟩ : ∃ p, decide (c < 0) = p := ⟨_, rfl⟩
          obtain ⟨m, e12⟩ : ∃ m, (!(p1 == p2)) = m := ⟨_, rfl⟩
          have e3 : (!(m == p3)) = n := by rw [hn, s1, s2, s3, ← e12]; rfl
          clear hn
          cases n
          all_goals
            rcases (by omega : round = 0 ∨ round = 1 ∨ round = 2) with rfl | rfl | rfl
          all_goals
            clear hbad
            go_enter Try.func37, Try.ntmps37
            go_wp2_with fail
            refine (HC.out _).mono ?_
            rintro e w' ⟨rfl, rfl⟩
            go_wp2_with fail
            refine (HA.out _).mono ?_
            rintro e w' ⟨rfl, rfl⟩
            go_wp2_with fail
            refine (HB.out _).mono ?_
            rintro e w' ⟨rfl, rfl⟩
            go_wp2_with fail
            refine (HM.out _).mono ?_
            rintro e w' ⟨rfl, rfl⟩
            go_wp2_with fail
            refine (HD'.out _).mono ?_
            rintro e w2 ⟨rfl, hb⟩
            have hB := (below_alloc (Below.refl _ w) _).trans (hb.mono (by simp))
            clear hb
            go_wp2_with fail
            refine (HS'.out _).mono ?_
            rintro e w' ⟨rfl, rfl⟩
            go_wp2
            go_ret2
            exact ⟨rfl, hB⟩
        · clear htop
          obtain ⟨x, hx⟩ : ∃ x, x = away r D n round := ⟨_, rfl⟩
          rw [← hx] at HW m1 m2
          rw [m1, m2]
          have HW' := Lib.hid HW
          clear m1 m2 HW hx
          have HS := Lib.hid (fun w => keepw (signed_any (q + ups x) n (by have := ups_bd x; omega) (by have := ups_bd x; omega) w))
          generalize fitV (sgn (q + ups x) n) = FV at *
          generalize fitE (sgn (q + ups x) n) = FE at *
          have u1 : ups true = 1 := rfl
          have u0 : q + ups false = q := by show q + 0 = q; omega
          obtain ⟨p1, s1⟩ : ∃ p, decide (a < 0) = p := ⟨_, rfl⟩
          obtain ⟨p2, s2⟩ : ∃ p, decide (b < 0) = p := ⟨_, rfl⟩
          obtain ⟨p3, s3⟩ : ∃ p, decide (c < 0) = p := ⟨_, rfl⟩
          obtain ⟨m, e12⟩ : ∃ m, (!(p1 == p2)) = m := ⟨_, rfl⟩
          have e3 : (!(m == p3)) = n := by rw [hn, s1, s2, s3, ← e12]; rfl
          clear hn
          cases n
          all_goals
            rcases (by omega : round = 0 ∨ round = 1 ∨ round = 2) with rfl | rfl | rfl
          all_goals
            clear hbad
            cases x <;> first | rw [u0] at HS | rw [u1] at HS
          all_goals
            go_enter Try.func37, Try.ntmps37
            go_wp2_with fail
            refine (HC.out _).mono ?_
            rintro e w' ⟨rfl, rfl⟩
            go_wp2_with fail
            refine (HA.out _).mono ?_
            rintro e w' ⟨rfl, rfl⟩
            go_wp2_with fail
            refine (HB.out _).mono ?_
            rintro e w' ⟨rfl, rfl⟩
            go_wp2_with fail
            refine (HM.out _).mono ?_
            rintro e w' ⟨rfl, rfl⟩
            go_wp2_with fail
            refine (HD'.out _).mono ?_
            rintro e w2 ⟨rfl, hb⟩
            have hB := (below_alloc (Below.refl _ w) _).trans (hb.mono (by simp))
            clear hb
            go_wp2_with fail
            refine (HW'.out _).mono ?_
            rintro e w' ⟨rfl, rfl⟩
            go_wp2_with fail
            refine (HS.out _).mono ?_
            rintro e w' ⟨rfl, rfl⟩
            go_wp2
            go_ret2
            exact ⟨rfl, hB⟩
end Go.Proofs.Ytcnpmbgeafkmlaa

