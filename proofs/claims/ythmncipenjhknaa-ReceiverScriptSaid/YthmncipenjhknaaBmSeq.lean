/-
  Layer 6: contracts of sequence numbers: isNumber, wrapped, Next, Distance, Before, Inside, and the reference's. Every input; no condition.
-/
import Derived.Test.YthmncipenjhknaaBmPlain
import Derived.Test.YthmncipenjhknaaMem
namespace Go.Proofs.Ythmncipenjhknaa
open Go.ChangeShapes Go.WideShapes Go.ChangeAt Go.RowKit
set_option linter.unusedVariables false

theorem isNumber_any (x : Int) (w : World) : Calls Try.prog 45 #[.int .i64 x] w fun e w' => e = .returned (.bool (isNum x)) ∧ w = w' := by
  rcases (by omega : x < 0 ∨ (0 ≤ x ∧ 65536 ≤ x) ∨ (0 ≤ x ∧ x < 65536)) with h | ⟨h, h1⟩ | ⟨h, h1⟩
  · rw [isNum_no (.inl h)]
    go_enter Try.func45, Try.ntmps45
    go_wp2
    go_ret
    first | exact ⟨rfl, rfl⟩ | exact ⟨ret_bool (by simp <;> omega), rfl⟩
  · rw [isNum_no (.inr h1)]
    go_enter Try.func45, Try.ntmps45
    go_wp2
    go_ret
    first | exact ⟨rfl, rfl⟩ | exact ⟨ret_bool (by simp <;> omega), rfl⟩
  · rw [isNum_yes h h1]
    go_enter Try.func45, Try.ntmps45
    go_wp2
    go_ret
    first | exact ⟨rfl, rfl⟩ | exact ⟨ret_bool (by simp <;> omega), rfl⟩
theorem isSeq_any (x : Int) (w : World) : Calls Try.prog 44 #[.int .i64 x] w fun e w' => e = .returned (.bool (isNum x)) ∧ w = w' := by
  rcases (by omega : x < 0 ∨ (0 ≤ x ∧ 65536 ≤ x) ∨ (0 ≤ x ∧ x < 65536)) with h | ⟨h, h1⟩ | ⟨h, h1⟩
  · rw [isNum_no (.inl h)]
    go_enter Try.func44, Try.ntmps44
    go_wp2
    go_ret
    first | exact ⟨rfl, rfl⟩ | exact ⟨ret_bool (by simp <;> omega), rfl⟩
  · rw [isNum_no (.inr h1)]
    go_enter Try.func44, Try.ntmps44
    go_wp2
    go_ret
    first | exact ⟨rfl, rfl⟩ | exact ⟨ret_bool (by simp <;> omega), rfl⟩
  · rw [isNum_yes h h1]
    go_enter Try.func44, Try.ntmps44
    go_wp2
    go_ret
    first | exact ⟨rfl, rfl⟩ | exact ⟨ret_bool (by simp <;> omega), rfl⟩
theorem wrapped_any (x : Int) (w : World) : Calls Try.prog 46 #[.int .i64 x] w fun e w' => e = .returned (.int .i64 (x % 65536)) ∧ w = w' := by
  have hm := and_seq x
  go_enter Try.func46, Try.ntmps46
  go_wp2
  go_ret
  first | exact ⟨rfl, rfl⟩ | exact ⟨ret_bool (by simp <;> omega), rfl⟩
theorem next6_any (s n : Int) (w : World) : Calls Try.prog 43 #[.int .i64 s, .int .i64 n] w fun e w' => e = .returned (.tuple #[.int .i64 (nxV s n), .int .i64 (nxE s n)]) ∧ w = w' := by
  have HA := fun w => isNumber_any s w
  rcases hs : isNum s with _ | _
  · obtain ⟨e1, e2⟩ := nx_no (n := n) (.inl hs)
    rw [e1, e2]
    rw [hs] at HA
    have HA := Lib.hid HA
    clear e1 e2 hs
    go_enter Try.func43, Try.ntmps43
    go_wp2_with fail
    (with_reducible refine (HA.out _).mono ?_); rintro e w' ⟨rfl, rfl⟩
    go_wp2
    go_ret2
    exact ⟨rfl, rfl⟩
  · obtain ⟨s0, s1⟩ := isNum_bd hs
    rcases (by omega : n < -65536 ∨ (¬ n < -65536 ∧ 65536 < n) ∨ (-65536 ≤ n ∧ n ≤ 65536)) with h | ⟨h, h1⟩ | ⟨h, h1⟩
    · obtain ⟨e1, e2⟩ := nx_no (s := s) (.inr (.inl h))
      rw [e1, e2]
      rw [hs] at HA
      have HA := Lib.hid HA
      clear e1 e2 hs
      go_enter Try.func43, Try.ntmps43
      go_wp2_with fail
      (with_reducible refine (HA.out _).mono ?_); rintro e w' ⟨rfl, rfl⟩
      go_wp2
      go_ret2
      exact ⟨rfl, rfl⟩
    · obtain ⟨e1, e2⟩ := nx_no (s := s) (.inr (.inr h1))
      rw [e1, e2]
      rw [hs] at HA
      have HA := Lib.hid HA
      clear e1 e2 hs
      go_enter Try.func43, Try.ntmps43
      go_wp2_with fail
      (with_reducible refine (HA.out _).mono ?_); rintro e w' ⟨rfl, rfl⟩
      go_wp2
      go_ret2
      exact ⟨rfl, rfl⟩
    · obtain ⟨e1, e2⟩ := nx_yes hs h h1
      rw [e1, e2]
      rw [hs] at HA
      have HA := Lib.hid HA
      clear e1 e2 hs
      go_enter Try.func43, Try.ntmps43
      go_wp2_with fail
      (with_reducible refine (HA.out _).mono ?_); rintro e w' ⟨rfl, rfl⟩
      go_wp2_with (go_at_call 46; (with_reducible refine (wrapped_any _ _).mono ?_); rintro e w' ⟨rfl, rfl⟩)
      go_ret2
      exact ⟨rfl, rfl⟩
theorem dist_any (a b : Int) (w : World) : Calls Try.prog 29 #[.int .i64 a, .int .i64 b] w fun e w' => e = .returned (.tuple #[.int .i64 (dsV a b), .int .i64 (dsE a b)]) ∧ w = w' := by
  have HA := fun w => isNumber_any a w
  have HB := fun w => isNumber_any b w
  rcases both_cases a b with h | h | ⟨h, h1⟩
  · obtain ⟨e1, e2⟩ := ds_yes h
    obtain ⟨⟨a0, a1⟩, b0, b1⟩ := both_bd h
    obtain ⟨p, q⟩ := both_parts h
    rw [e1, e2]
    rw [p] at HA
    rw [q] at HB
    have HA := Lib.hid HA
    have HB := Lib.hid HB
    clear e1 e2 h p q
    go_enter Try.func29, Try.ntmps29
    go_wp2_with fail
    (with_reducible refine (HA.out _).mono ?_); rintro e w' ⟨rfl, rfl⟩
    go_wp2_with fail
    (with_reducible refine (HB.out _).mono ?_); rintro e w' ⟨rfl, rfl⟩
    go_wp2_with (go_at_call 46; (with_reducible refine (wrapped_any _ _).mono ?_); rintro e w' ⟨rfl, rfl⟩)
    go_ret2
    exact ⟨rfl, rfl⟩
  · obtain ⟨e1, e2⟩ := ds_no (both_no (b := b) (.inl h))
    rw [e1, e2]
    rw [h] at HA
    have HA := Lib.hid HA
    clear e1 e2 h HB
    go_enter Try.func29, Try.ntmps29
    go_wp2_with fail
    (with_reducible refine (HA.out _).mono ?_); rintro e w' ⟨rfl, rfl⟩
    go_wp2
    go_ret2
    exact ⟨rfl, rfl⟩
  · obtain ⟨e1, e2⟩ := ds_no (both_no (a := a) (.inr h1))
    rw [e1, e2]
    rw [h] at HA
    rw [h1] at HB
    have HA := Lib.hid HA
    have HB := Lib.hid HB
    clear e1 e2 h h1
    go_enter Try.func29, Try.ntmps29
    go_wp2_with fail
    (with_reducible refine (HA.out _).mono ?_); rintro e w' ⟨rfl, rfl⟩
    go_wp2_with fail
    (with_reducible refine (HB.out _).mono ?_); rintro e w' ⟨rfl, rfl⟩
    go_wp2
    go_ret2
    exact ⟨rfl, rfl⟩
theorem refDist_any (a b : Int) (w : World) : Calls Try.prog 27 #[.int .i64 a, .int .i64 b] w fun e w' => e = .returned (.tuple #[.int .i64 (dsV a b), .int .i64 (dsE a b)]) ∧ w = w' := by
  have HA := fun w => isSeq_any a w
  have HB := fun w => isSeq_any b w
  rcases both_cases a b with h | h | ⟨h, h1⟩
  · obtain ⟨e1, e2⟩ := ds_yes h
    obtain ⟨⟨a0, a1⟩, b0, b1⟩ := both_bd h
    obtain ⟨p, q⟩ := both_parts h
    rw [e1, e2, show (b - a) % 65536 = (b - a + 65536) % 65536 from by omega]
    rw [p] at HA
    rw [q] at HB
    have HA := Lib.hid HA
    have HB := Lib.hid HB
    clear e1 e2 h p q
    go_enter Try.func27, Try.ntmps27
    go_wp2_with fail
    (with_reducible refine (HA.out _).mono ?_); rintro e w' ⟨rfl, rfl⟩
    go_wp2_with fail
    (with_reducible refine (HB.out _).mono ?_); rintro e w' ⟨rfl, rfl⟩
    go_wp2
    go_ret2
    exact ⟨rfl, rfl⟩
  · obtain ⟨e1, e2⟩ := ds_no (both_no (b := b) (.inl h))
    rw [e1, e2]
    rw [h] at HA
    have HA := Lib.hid HA
    clear e1 e2 h HB
    go_enter Try.func27, Try.ntmps27
    go_wp2_with fail
    (with_reducible refine (HA.out _).mono ?_); rintro e w' ⟨rfl, rfl⟩
    go_wp2
    go_ret2
    exact ⟨rfl, rfl⟩
  · obtain ⟨e1, e2⟩ := ds_no (both_no (a := a) (.inr h1))
    rw [e1, e2]
    rw [h] at HA
    rw [h1] at HB
    have HA := Lib.hid HA
    have HB := Lib.hid HB
    clear e1 e2 h h1
    go_enter Try.func27, Try.ntmps27
    go_wp2_with fail
    (with_reducible refine (HA.out _).mono ?_); rintro e w' ⟨rfl, rfl⟩
    go_wp2_with fail
    (with_reducible refine (HB.out _).mono ?_); rintro e w' ⟨rfl, rfl⟩
    go_wp2
    go_ret2
    exact ⟨rfl, rfl⟩
theorem before_any (a b : Int) (w : World) : Calls Try.prog 41 #[.int .i64 a, .int .i64 b] w fun e w' => e = .returned (.bool (befB a b)) ∧ w = w' := by
  have HD := fun w => dist_any a b w
  rcases h : both a b with _ | _
  · obtain ⟨e1, e2⟩ := ds_no h
    rw [e1, e2] at HD
    rw [bef_no h]
    have HD := Lib.hid HD
    clear e1 e2 h
    go_enter Try.func41, Try.ntmps41
    go_wp2_with fail
    (with_reducible refine (HD.out _).mono ?_); rintro e w' ⟨rfl, rfl⟩
    go_wp2
    go_ret
    first | exact ⟨rfl, rfl⟩ | exact ⟨ret_bool (by simp <;> omega), rfl⟩
  · obtain ⟨e1, e2⟩ := ds_yes h
    rw [e1, e2] at HD
    have hI := fun r hr => bef_is h (r := r) hr
    clear e1 e2 h
    generalize (b - a) % 65536 = d at *
    have HD := Lib.hid HD
    rcases (by omega : d < 1 ∨ (1 ≤ d ∧ 32767 < d) ∨ (1 ≤ d ∧ d < 32768)) with h | ⟨h, h1⟩ | ⟨h, h1⟩
    · rw [hI false (by simp; omega)]
      clear hI
      go_enter Try.func41, Try.ntmps41
      go_wp2_with fail
      (with_reducible refine (HD.out _).mono ?_); rintro e w' ⟨rfl, rfl⟩
      go_wp2
      go_ret
      first | exact ⟨rfl, rfl⟩ | exact ⟨ret_bool (by simp <;> omega), rfl⟩
    · rw [hI false (by simp; omega)]
      clear hI
      go_enter Try.func41, Try.ntmps41
      go_wp2_with fail
      (with_reducible refine (HD.out _).mono ?_); rintro e w' ⟨rfl, rfl⟩
      go_wp2
      go_ret
      first | exact ⟨rfl, rfl⟩ | exact ⟨ret_bool (by simp <;> omega), rfl⟩
    · rw [hI true (by simp; omega)]
      clear hI
      go_enter Try.func41, Try.ntmps41
      go_wp2_with fail
      (with_reducible refine (HD.out _).mono ?_); rintro e w' ⟨rfl, rfl⟩
      go_wp2
      go_ret
      first | exact ⟨rfl, rfl⟩ | exact ⟨ret_bool (by simp <;> omega), rfl⟩
theorem refBefore_any (a b : Int) (w : World) : Calls Try.prog 22 #[.int .i64 a, .int .i64 b] w fun e w' => e = .returned (.bool (befB a b)) ∧ w = w' := by
  have HD := fun w => refDist_any a b w
  rcases h : both a b with _ | _
  · obtain ⟨e1, e2⟩ := ds_no h
    rw [e1, e2] at HD
    rw [bef_no h]
    have HD := Lib.hid HD
    clear e1 e2 h
    go_enter Try.func22, Try.ntmps22
    go_wp2_with fail
    (with_reducible refine (HD.out _).mono ?_); rintro e w' ⟨rfl, rfl⟩
    go_wp2
    go_ret
    first | exact ⟨rfl, rfl⟩ | exact ⟨ret_bool (by simp <;> omega), rfl⟩
  · obtain ⟨e1, e2⟩ := ds_yes h
    rw [e1, e2] at HD
    have hI := fun r hr => bef_is h (r := r) hr
    clear e1 e2 h
    generalize (b - a) % 65536 = d at *
    have HD := Lib.hid HD
    rcases (by omega : d < 1 ∨ (1 ≤ d ∧ 32767 < d) ∨ (1 ≤ d ∧ d < 32768)) with h | ⟨h, h1⟩ | ⟨h, h1⟩
    · rw [hI false (by simp; omega)]
      clear hI
      go_enter Try.func22, Try.ntmps22
      go_wp2_with fail
      (with_reducible refine (HD.out _).mono ?_); rintro e w' ⟨rfl, rfl⟩
      go_wp2
      go_ret
      first | exact ⟨rfl, rfl⟩ | exact ⟨ret_bool (by simp <;> omega), rfl⟩
    · rw [hI false (by simp; omega)]
      clear hI
      go_enter Try.func22, Try.ntmps22
      go_wp2_with fail
      (with_reducible refine (HD.out _).mono ?_); rintro e w' ⟨rfl, rfl⟩
      go_wp2
      go_ret
      first | exact ⟨rfl, rfl⟩ | exact ⟨ret_bool (by simp <;> omega), rfl⟩
    · rw [hI true (by simp; omega)]
      clear hI
      go_enter Try.func22, Try.ntmps22
      go_wp2_with fail
      (with_reducible refine (HD.out _).mono ?_); rintro e w' ⟨rfl, rfl⟩
      go_wp2
      go_ret
      first | exact ⟨rfl, rfl⟩ | exact ⟨ret_bool (by simp <;> omega), rfl⟩
theorem inside_any (a n b : Int) (w : World) : Calls Try.prog 30 #[.int .i64 a, .int .i64 n, .int .i64 b] w fun e w' => e = .returned (.bool (insB a n b)) ∧ w = w' := by
  have HD := fun w => dist_any a b w
  rcases h : both a b with _ | _
  · obtain ⟨e1, e2⟩ := ds_no h
    rw [e1, e2] at HD
    rw [ins_no h]
    have HD := Lib.hid HD
    clear e1 e2 h
    go_enter Try.func30, Try.ntmps30
    go_wp2_with fail
    (with_reducible refine (HD.out _).mono ?_); rintro e w' ⟨rfl, rfl⟩
    go_wp2
    go_ret
    first | exact ⟨rfl, rfl⟩ | exact ⟨ret_bool (by simp <;> omega), rfl⟩
  · obtain ⟨e1, e2⟩ := ds_yes h
    rw [e1, e2] at HD
    have hI := fun r hr => ins_is h (n := n) (r := r) hr
    clear e1 e2 h
    generalize (b - a) % 65536 = d at *
    have HD := Lib.hid HD
    rcases (by omega : n < 1 ∨ (1 ≤ n ∧ 64 < n) ∨ (1 ≤ n ∧ n ≤ 64 ∧ n ≤ d) ∨ (1 ≤ n ∧ n ≤ 64 ∧ d < n)) with h | ⟨h, h1⟩ | ⟨h, h1, h2⟩ | ⟨h, h1, h2⟩
    · rw [hI false (by simp; omega)]
      clear hI
      go_enter Try.func30, Try.ntmps30
      go_wp2_with fail
      (with_reducible refine (HD.out _).mono ?_); rintro e w' ⟨rfl, rfl⟩
      go_wp2
      go_ret
      first | exact ⟨rfl, rfl⟩ | exact ⟨ret_bool (by simp <;> omega), rfl⟩
    · rw [hI false (by simp; omega)]
      clear hI
      go_enter Try.func30, Try.ntmps30
      go_wp2_with fail
      (with_reducible refine (HD.out _).mono ?_); rintro e w' ⟨rfl, rfl⟩
      go_wp2
      go_ret
      first | exact ⟨rfl, rfl⟩ | exact ⟨ret_bool (by simp <;> omega), rfl⟩
    · rw [hI false (by simp; omega)]
      clear hI
      go_enter Try.func30, Try.ntmps30
      go_wp2_with fail
      (with_reducible refine (HD.out _).mono ?_); rintro e w' ⟨rfl, rfl⟩
      go_wp2
      go_ret
      first | exact ⟨rfl, rfl⟩ | exact ⟨ret_bool (by simp <;> omega), rfl⟩
    · rw [hI true (by simp; omega)]
      clear hI
      go_enter Try.func30, Try.ntmps30
      go_wp2_with fail
      (with_reducible refine (HD.out _).mono ?_); rintro e w' ⟨rfl, rfl⟩
      go_wp2
      go_ret
      first | exact ⟨rfl, rfl⟩ | exact ⟨ret_bool (by simp <;> omega), rfl⟩
theorem refInside_any (a n b : Int) (w : World) : Calls Try.prog 32 #[.int .i64 a, .int .i64 n, .int .i64 b] w fun e w' => e = .returned (.bool (insB a n b)) ∧ w = w' := by
  have HD := fun w => refDist_any a b w
  rcases h : both a b with _ | _
  · obtain ⟨e1, e2⟩ := ds_no h
    rw [e1, e2] at HD
    rw [ins_no h]
    have HD := Lib.hid HD
    clear e1 e2 h
    go_enter Try.func32, Try.ntmps32
    go_wp2_with fail
    (with_reducible refine (HD.out _).mono ?_); rintro e w' ⟨rfl, rfl⟩
    go_wp2
    go_ret
    first | exact ⟨rfl, rfl⟩ | exact ⟨ret_bool (by simp <;> omega), rfl⟩
  · obtain ⟨e1, e2⟩ := ds_yes h
    rw [e1, e2] at HD
    have hI := fun r hr => ins_is h (n := n) (r := r) hr
    clear e1 e2 h
    generalize (b - a) % 65536 = d at *
    have HD := Lib.hid HD
    rcases (by omega : n < 1 ∨ (1 ≤ n ∧ 64 < n) ∨ (1 ≤ n ∧ n ≤ 64 ∧ n ≤ d) ∨ (1 ≤ n ∧ n ≤ 64 ∧ d < n)) with h | ⟨h, h1⟩ | ⟨h, h1, h2⟩ | ⟨h, h1, h2⟩
    · rw [hI false (by simp; omega)]
      clear hI
      go_enter Try.func32, Try.ntmps32
      go_wp2_with fail
      (with_reducible refine (HD.out _).mono ?_); rintro e w' ⟨rfl, rfl⟩
      go_wp2
      go_ret
      first | exact ⟨rfl, rfl⟩ | exact ⟨ret_bool (by simp <;> omega), rfl⟩
    · rw [hI false (by simp; omega)]
      clear hI
      go_enter Try.func32, Try.ntmps32
      go_wp2_with fail
      (with_reducible refine (HD.out _).mono ?_); rintro e w' ⟨rfl, rfl⟩
      go_wp2
      go_ret
      first | exact ⟨rfl, rfl⟩ | exact ⟨ret_bool (by simp <;> omega), rfl⟩
    · rw [hI false (by simp; omega)]
      clear hI
      go_enter Try.func32, Try.ntmps32
      go_wp2_with fail
      (with_reducible refine (HD.out _).mono ?_); rintro e w' ⟨rfl, rfl⟩
      go_wp2
      go_ret
      first | exact ⟨rfl, rfl⟩ | exact ⟨ret_bool (by simp <;> omega), rfl⟩
    · rw [hI true (by simp; omega)]
      clear hI
      go_enter Try.func32, Try.ntmps32
      go_wp2_with fail
      (with_reducible refine (HD.out _).mono ?_); rintro e w' ⟨rfl, rfl⟩
      go_wp2
      go_ret
      first | exact ⟨rfl, rfl⟩ | exact ⟨ret_bool (by simp <;> omega), rfl⟩
end Go.Proofs.Ythmncipenjhknaa

