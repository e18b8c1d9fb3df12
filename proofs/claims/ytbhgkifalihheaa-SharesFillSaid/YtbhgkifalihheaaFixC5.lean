/-
  Layer 2: contracts of the reference's MulDiv and of the two Quotient (package fixed). Every input; no condition.
-/
import Derived.Test.YtbhgkifalihheaaFixC4
import Derived.Lib.Hide
import Derived.IntWalk
import Derived.Outline
namespace Go.Proofs.Ytbhgkifalihheaa
open Go.ChangeShapes Go.WideShapes Go.ChangeAt Go.RowKit
set_option linter.unusedVariables false

/-- The ways in which the reference finds whether a magnitude is rounded up. -/
theorem way_of {r D round : Int} {n x : Bool} (r0 : 0 ≤ r) (r1 : r < D) (hD : 0 < D) (hr : ¬ (round < 0 ∨ 2 < round)) (hx : x = away r D n round) :
    (r = 0 ∧ x = false) ∨ (0 < r ∧ round = 0 ∧ x = n) ∨ (0 < r ∧ round = 1 ∧ x = !n) ∨ (0 < r ∧ round = 2 ∧ x = true ∧ D - r ≤ r) ∨ (0 < r ∧ round = 2 ∧ x = false ∧ r < D - r) := by
  rcases (by omega : r = 0 ∨ 0 < r) with h | h
  · left
    refine ⟨h, ?_⟩
    subst h
    rw [hx]; unfold away
    split
    · simp
    · split
      · simp
      · simp; omega
  · right
    rcases (by omega : round = 0 ∨ round = 1 ∨ round = 2) with rfl | rfl | rfl
    · left; refine ⟨h, rfl, ?_⟩; rw [hx]; unfold away; simp [h]
    · right; left; refine ⟨h, rfl, ?_⟩; rw [hx]; unfold away; simp [h]
    · right; right
      rcases (by omega : D - r ≤ r ∨ r < D - r) with hh | hh
      · left; refine ⟨h, rfl, ?_, hh⟩; rw [hx]; unfold away; simp [hh]
      · right; refine ⟨h, rfl, ?_, hh⟩; rw [hx]; unfold away; simp; omega
set_option maxHeartbeats 8000000 in
theorem refMuldiv_any (a b c round : Int) (a0 : -9223372036854775808 ≤ a) (a1 : a ≤ 9223372036854775807) (b0 : -9223372036854775808 ≤ b) (b1 : b ≤ 9223372036854775807) (c0 : -9223372036854775808 ≤ c) (c1 : c ≤ 9223372036854775807) (w : World) :
    Calls Try.prog 34 #[.int .i64 a, .int .i64 b, .int .i64 c, .int .i64 round] w fun e w' => e = .returned (.tuple #[.int .i64 (mdV a b c round), .int .i64 (mdE a b c round)]) ∧ Below w.heap.size w w' := by
  by_cases hbad : round < 0 ∨ 2 < round
  · obtain ⟨e1, e2⟩ := md_bad (a := a) (b := b) (c := c) hbad
    rw [e1, e2]
    clear e1 e2
    rcases hbad with hbad | hbad
    · go_enter Try.func34, Try.ntmps34
      go_wp2
      go_ret2
      exact ⟨rfl, Below.refl _ _⟩
    · have hn : ¬ round < 0 := by omega
      go_enter Try.func34, Try.ntmps34
      go_wp2
      go_ret2
      exact ⟨rfl, Below.refl _ _⟩
  · have ha := absZ_bd a0 a1
    have hb := absZ_bd b0 b1
    have hc := absZ_bd c0 c1
    have HA := Lib.hid (fun w => keepw (refAbs_any a a0 a1 w))
    have HB := Lib.hid (fun w => keepw (refAbs_any b b0 b1 w))
    have HC := Lib.hid (fun w => keepw (refAbs_any c c0 c1 w))
    have hu := mHi_bd (absZ a) (absZ b) ha.1 (by omega) hb.1 (by omega)
    have hv := mLo_bd (absZ a) (absZ b)
    have HM := Lib.hid (fun w => refMul_any (absZ a) (absZ b) ha.1 (by omega) hb.1 (by omega) w)
    have HD := fun w => refDiv_any (mHi (absZ a) (absZ b)) (mLo (absZ a) (absZ b)) (absZ c) hu.1 hu.2 hv.1 hv.2 hc.1 (by omega) w
    by_cases hz : c = 0
    · subst hz
      obtain ⟨e1, e2⟩ := md_zero (a := a) (b := b) hbad
      rw [e1, e2]
      clear e1 e2 HA HB HC HM HD hu hv ha hb hc
      have h0 : ¬ round < 0 := by omega
      have h2 : ¬ 2 < round := by omega
      clear hbad
      go_enter Try.func34, Try.ntmps34
      go_wp2
      go_ret2
      exact ⟨rfl, Below.refl _ _⟩
    · have hd := abs_ne hz
      by_cases hx : absZ c ≤ mHi (absZ a) (absZ b)
      · obtain ⟨e1, e2⟩ := md_range a0 a1 b0 b1 hbad hz hx
        obtain ⟨f1, f2, f3⟩ := dv_range (lo := mLo (absZ a) (absZ b)) (show absZ c ≠ 0 by omega) hx
        rw [f1, f2, f3] at HD
        rw [e1, e2]
        have HD' := Lib.hid HD
        clear e1 e2 f1 f2 f3 HD hx
        generalize mLo (absZ a) (absZ b) = V at *
        generalize mHi (absZ a) (absZ b) = U at *
        generalize absZ a = A at *
        generalize absZ b = B at *
        generalize absZ c = D at *
        have h0 : ¬ round < 0 := by omega
        have h2 : ¬ 2 < round := by omega
        clear hbad
        have hz' : (c == 0) = false := beq_eq_false_iff_ne.2 hz
        go_enter Try.func34, Try.ntmps34
        go_wp2_with fail
        refine (HC.out _).mono ?_
        rintro e w' ⟨rfl, rfl⟩
        go_wp2_with fail
        refine (HA.out _).mono ?_
        rintro e w' ⟨rfl, rfl⟩
        go_wp2_with fail
        refine (HB.out _).mono ?_
        rintro e w' ⟨rfl, rfl⟩
        go_wp2_with fail
        refine (HM.out _).mono ?_
        rintro e w' ⟨rfl, rfl⟩
        go_wp2_with fail
        refine (HD'.out _).mono ?_
        rintro e w2 ⟨rfl, hb⟩
        have hB := (below_alloc (Below.refl _ w) _).trans (hb.mono (by simp))
        clear hb
        go_wp2
        go_ret2
        exact ⟨rfl, hB⟩
      · obtain ⟨f1, f2, f3⟩ := dv_ok (hi := mHi (absZ a) (absZ b)) (lo := mLo (absZ a) (absZ b)) (show absZ c ≠ 0 by omega) (by omega)
        rw [f1, f2, f3] at HD
        have hq := qOf_bd (lo := mLo (absZ a) (absZ b)) (d := absZ c) hu.1 hv.1 hv.2 (by omega)
        have hr := rOf_bd (hi := mHi (absZ a) (absZ b)) (lo := mLo (absZ a) (absZ b)) hd
        obtain ⟨n, hn⟩ : ∃ n, n = (negs a b != decide (c < 0)) := ⟨_, rfl⟩
        have hval := md_value (round := round) (n := n) ⟨rfl, rfl, rfl, rfl, rfl, rfl, rfl, hn⟩
        rw [← qOf_prod, ← rOf_prod] at hval
        obtain ⟨m1, m2⟩ := md_ok (a := a) (b := b) hbad hz
        rw [hval] at m1 m2
        have HD' := Lib.hid HD
        clear f1 f2 f3 HD hval
        unfold negs at hn
        generalize qOf (mHi (absZ a) (absZ b)) (mLo (absZ a) (absZ b)) (absZ c) = q at *
        generalize rOf (mHi (absZ a) (absZ b)) (mLo (absZ a) (absZ b)) (absZ c) = r at *
        generalize mLo (absZ a) (absZ b) = V at *
        generalize mHi (absZ a) (absZ b) = U at *
        generalize absZ a = A at *
        generalize absZ b = B at *
        generalize absZ c = D at *
        obtain ⟨x, hx⟩ : ∃ x, x = away r D n round := ⟨_, rfl⟩
        rw [← hx] at m1 m2
        rw [m1, m2]
        clear m1 m2
        have h0 : ¬ round < 0 := by omega
        have h2 : ¬ 2 < round := by omega
        have hz' : (c == 0) = false := beq_eq_false_iff_ne.2 hz
        obtain ⟨r0, r1⟩ := hr
        -- which way the magnitude is rounded
        have hway := way_of r0 r1 (by omega) hbad hx
        clear hx hz hbad
        -- the quotient: the greatest word; or less
        rcases (by omega : (q = 18446744073709551615) ∨ q < 18446744073709551615) with hqt | hqt
        · subst hqt
          have hf := fun k => fit_no (x := sgn (18446744073709551615 + ups x) k) (sgn_big (by have := ups_bd x; omega))
          obtain ⟨g1, g2⟩ := hf n
          rw [g1, g2]
          clear hf g1 g2
          have HS := Lib.hid (fun w => keepw (refSigned_any 18446744073709551615 n (by omega) (by omega) w))
          obtain ⟨g1, g2⟩ := fit_no (x := sgn 18446744073709551615 n) (sgn_big (by omega))
          rw [g1, g2] at HS
          clear g1 g2
          obtain ⟨p1, s1⟩ : ∃ p, decide (a < 0) = p := ⟨_, rfl⟩
          obtain ⟨p2, s2⟩ : ∃ p, decide (b < 0) = p := ⟨_, rfl⟩
          obtain ⟨p3, s3⟩ : ∃ p, decide (c < 0) = p := ⟨_, rfl⟩
          obtain ⟨m, e12⟩ : ∃ m, (!(p1 == p2)) = m := ⟨_, rfl⟩
          have e3 : (!(m == p3)) = n := by rw [hn, s1, s2, s3, ← e12]; rfl
          clear hn
          cases n
          all_goals
            rcases hway with ⟨rfl, rfl⟩ | ⟨hr, rfl, rfl⟩ | ⟨hr, rfl, rfl⟩ | ⟨hr, rfl, rfl, hh⟩ | ⟨hr, rfl, rfl, hh⟩
          all_goals
            go_enter Try.func34, Try.ntmps34
            go_wp2_with fail
            refine (HC.out _).mono ?_
            rintro e w' ⟨rfl, rfl⟩
            go_wp2_with fail
            refine (HA.out _).mono ?_
            rintro e w' ⟨rfl, rfl⟩
            go_wp2_with fail
            refine (HB.out _).mono ?_
            rintro e w' ⟨rfl, rfl⟩
            go_wp2_with fail
            refine (HM.out _).mono ?_
            rintro e w' ⟨rfl, rfl⟩
            go_wp2_with fail
            refine (HD'.out _).mono ?_
            rintro e w2 ⟨rfl, hb⟩
            have hB := (below_alloc (Below.refl _ w) _).trans (hb.mono (by simp))
            clear hb
            first
            | (go_wp2; go_ret2; exact ⟨rfl, hB⟩)
            | (go_wp2_with fail; refine (HS.out _).mono ?_; rintro e w' ⟨rfl, rfl⟩; go_wp2; go_ret2; exact ⟨rfl, hB⟩)
        · have HS : Hid (∀ w, Calls Try.prog 44 #[.int .u64 (q + ups x), .bool (n && decide (0 < q + ups x))] w fun e w' => e = .returned (.tuple #[.int .i64 (fitV (sgn (q + ups x) n)), .int .i64 (fitE (sgn (q + ups x) n))]) ∧ w = w') := fun w => by
            have hub := ups_bd x
            have h := keepw (refSigned_any (q + ups x) (n && decide (0 < q + ups x)) (by omega) (by omega) w)
            have hs : sgn (q + ups x) (n && decide (0 < q + ups x)) = sgn (q + ups x) n := by
              have hq0 : 0 ≤ q + ups x := by omega
              generalize q + ups x = q' at *
              rcases (by omega : q' = 0 ∨ 0 < q') with h | h
              · subst h; cases n <;> rfl
              · simp [h]
            rw [hs] at h
            exact h
          have hq2 : q = 0 ∨ 0 < q := by omega
          generalize fitV (sgn (q + ups x) n) = FV at *
          generalize fitE (sgn (q + ups x) n) = FE at *
          have u1 : ups true = 1 := rfl
          have u0 : q + ups false = q := by show q + 0 = q; omega
          have z1 : decide (0 < q + 1) = true := decide_eq_true (by omega)
          obtain ⟨p1, s1⟩ : ∃ p, decide (a < 0) = p := ⟨_, rfl⟩
          obtain ⟨p2, s2⟩ : ∃ p, decide (b < 0) = p := ⟨_, rfl⟩
          obtain ⟨p3, s3⟩ : ∃ p, decide (c < 0) = p := ⟨_, rfl⟩
          obtain ⟨m, e12⟩ : ∃ m, (!(p1 == p2)) = m := ⟨_, rfl⟩
          have e3 : (!(m == p3)) = n := by rw [hn, s1, s2, s3, ← e12]; rfl
          clear hn
          cases n
          all_goals
            rcases hway with ⟨rfl, rfl⟩ | ⟨hr, rfl, rfl⟩ | ⟨hr, rfl, rfl⟩ | ⟨hr, rfl, rfl, hh⟩ | ⟨hr, rfl, rfl, hh⟩
          all_goals
            simp only [Bool.not_true, Bool.not_false, u1, u0, z1, Bool.true_and, Bool.false_and] at HS
            rcases hq2 with rfl | hq2
          all_goals
            first | simp only [show decide ((0:Int) < 0) = false from rfl] at HS | simp only [hq2, decide_true] at HS | skip
            first | simp only [Int.zero_add] at HS | skip
            clear u0 u1
            go_enter Try.func34, Try.ntmps34
            go_wp2_with fail
            refine (HC.out _).mono ?_
            rintro e w' ⟨rfl, rfl⟩
            go_wp2_with fail
            refine (HA.out _).mono ?_
            rintro e w' ⟨rfl, rfl⟩
            go_wp2_with fail
            refine (HB.out _).mono ?_
            rintro e w' ⟨rfl, rfl⟩
            go_wp2_with fail
            refine (HM.out _).mono ?_
            rintro e w' ⟨rfl, rfl⟩
            go_wp2_with fail
            refine (HD'.out _).mono ?_
            rintro e w2 ⟨rfl, hb⟩
            have hB := (below_alloc (Below.refl _ w) _).trans (hb.mono (by simp))
            clear hb
            go_wp2_with fail
            (with_reducible refine (HS.out _).mono ?_)
            rintro e w' ⟨rfl, rfl⟩
            go_wp2
            go_ret2
            exact ⟨rfl, hB⟩
end Go.Proofs.Ytbhgkifalihheaa

