/-
  Layer 2: the walks of the statements about package fixed. Every input; no condition.
-/
import Derived.Test.YtblagnhdojejmaaGenI
import Derived.Test.YtblagnhdojejmaaFixC6
import Derived.StillTactics
import Derived.Laws.Pointers
namespace Go.Proofs.Ytblagnhdojejmaa
open Go.ChangeShapes Go.WideShapes Go.ChangeAt Go.RowKit
set_option linter.unusedVariables false

theorem aw1 : mdV (-7) 1 2 2 = -4 ∧ mdE (-7) 1 2 2 = 0 := by decide
theorem aw2 : mdV (-9223372036854775808) 1 (-1) 0 = 0 ∧ mdE (-9223372036854775808) 1 (-1) 0 = 2 := by decide
theorem awake2_any (w : World) : Calls Try.prog 12 #[] w fun e w' => e = .returned (.bool true) ∧ Below w.heap.size w w' := by
  have H1 := fun w => quotient_any (-7) 2 2 (by omega) (by omega) (by omega) (by omega) w
  have H2 := fun w => quotient_any (-9223372036854775808) (-1) 0 (by omega) (by omega) (by omega) (by omega) w
  rw [aw1.1, aw1.2] at H1
  rw [aw2.1, aw2.2] at H2
  have h1 := Lib.hid H1
  have h2 := Lib.hid H2
  clear H1 H2
  go_enter Try.func12, Try.ntmps12
  go_wp2_with fail
  (with_reducible refine (h1.out _).mono ?_)
  rintro e w1 ⟨rfl, hb1⟩
  go_wp2_with fail
  (with_reducible refine (h2.out _).mono ?_)
  rintro e w2 ⟨rfl, hb2⟩
  go_wp2
  go_ret
  exact ⟨rfl, hb1.trans (hb2.mono hb1.size)⟩
theorem sums_any (a b : Int) (a0 : -9223372036854775808 ≤ a) (a1 : a ≤ 9223372036854775807) (b0 : -9223372036854775808 ≤ b) (b1 : b ≤ 9223372036854775807) (w : World) :
    Calls Try.prog 10 #[.int .i64 a, .int .i64 b] w fun e w' => e = .returned (.bool true) ∧ Below w.heap.size w w' := by
  have h1 := Lib.hid (fun w => keepw (add64_any a b a0 a1 b0 b1 w))
  have h2 := Lib.hid (fun w => keepw (refAdd64_any a b a0 a1 b0 b1 w))
  have h3 := Lib.hid (fun w => keepw (sub64_any a b a0 a1 b0 b1 w))
  have h4 := Lib.hid (fun w => keepw (refSub64_any a b a0 a1 b0 b1 w))
  have h5 := Lib.hid (fun w => mul64_any a b a0 a1 b0 b1 w)
  have h6 := Lib.hid (fun w => refMul64_any a b a0 a1 b0 b1 w)
  generalize fitV (a + b) = v1 at *
  generalize fitE (a + b) = v2 at *
  generalize fitV (a - b) = v3 at *
  generalize fitE (a - b) = v4 at *
  generalize fitV (a * b) = v5 at *
  generalize fitE (a * b) = v6 at *
  go_enter Try.func10, Try.ntmps10
  go_wp2_with fail
  (with_reducible refine (h1.out _).mono ?_)
  rintro e w' ⟨rfl, rfl⟩
  go_wp2_with fail
  (with_reducible refine (h2.out _).mono ?_)
  rintro e w' ⟨rfl, rfl⟩
  go_wp2_with fail
  (with_reducible refine (h3.out _).mono ?_)
  rintro e w' ⟨rfl, rfl⟩
  go_wp2_with fail
  (with_reducible refine (h4.out _).mono ?_)
  rintro e w' ⟨rfl, rfl⟩
  go_wp2_with fail
  (with_reducible refine (h5.out _).mono ?_)
  rintro e w1 ⟨rfl, hb1⟩
  go_wp2_with fail
  (with_reducible refine (h6.out _).mono ?_)
  rintro e w2 ⟨rfl, hb2⟩
  go_wp2
  go_ret
  exact ⟨rfl, hb1.trans (hb2.mono hb1.size)⟩
theorem quot_any (a b r : Int) (a0 : -9223372036854775808 ≤ a) (a1 : a ≤ 9223372036854775807) (b0 : -9223372036854775808 ≤ b) (b1 : b ≤ 9223372036854775807) (w : World) :
    Calls Try.prog 13 #[.int .i64 a, .int .i64 b, .int .i64 r] w fun e w' => e = .returned (.bool true) ∧ Below w.heap.size w w' := by
  have h1 := Lib.hid (fun w => quotient_any a b r a0 a1 b0 b1 w)
  have h2 := Lib.hid (fun w => refQuotient_any a b r a0 a1 b0 b1 w)
  generalize mdV a 1 b r = v1 at *
  generalize mdE a 1 b r = v2 at *
  go_enter Try.func13, Try.ntmps13
  go_wp2_with fail
  (with_reducible refine (h1.out _).mono ?_)
  rintro e w1 ⟨rfl, hb1⟩
  go_wp2_with fail
  (with_reducible refine (h2.out _).mono ?_)
  rintro e w2 ⟨rfl, hb2⟩
  go_wp2
  go_ret
  exact ⟨rfl, hb1.trans (hb2.mono hb1.size)⟩
theorem mdiv_any (a b c r : Int) (a0 : -9223372036854775808 ≤ a) (a1 : a ≤ 9223372036854775807) (b0 : -9223372036854775808 ≤ b) (b1 : b ≤ 9223372036854775807) (c0 : -9223372036854775808 ≤ c) (c1 : c ≤ 9223372036854775807) (w : World) :
    Calls Try.prog 15 #[.int .i64 a, .int .i64 b, .int .i64 c, .int .i64 r] w fun e w' => e = .returned (.bool true) ∧ Below w.heap.size w w' := by
  have h1 := Lib.hid (fun w => muldiv_any a b c r a0 a1 b0 b1 c0 c1 w)
  have h2 := Lib.hid (fun w => refMuldiv_any a b c r a0 a1 b0 b1 c0 c1 w)
  generalize mdV a b c r = v1 at *
  generalize mdE a b c r = v2 at *
  go_enter Try.func15, Try.ntmps15
  go_wp2_with fail
  (with_reducible refine (h1.out _).mono ?_)
  rintro e w1 ⟨rfl, hb1⟩
  go_wp2_with fail
  (with_reducible refine (h2.out _).mono ?_)
  rintro e w2 ⟨rfl, hb2⟩
  go_wp2
  go_ret
  exact ⟨rfl, hb1.trans (hb2.mono hb1.size)⟩
theorem rat_any (a b c d : Int) (a0 : -9223372036854775808 ≤ a) (a1 : a ≤ 9223372036854775807) (b1 : b ≤ 9223372036854775807) (c0 : -9223372036854775808 ≤ c) (c1 : c ≤ 9223372036854775807) (d1 : d ≤ 9223372036854775807) (w : World) :
    Calls Try.prog 21 #[.int .i64 a, .int .i64 b, .int .i64 c, .int .i64 d] w fun e w' => e = .returned (.bool true) ∧ Below w.heap.size w w' := by
  have h1 := Lib.hid (fun w => ratio_any a b c d a0 a1 b1 c0 c1 d1 w)
  have h2 := Lib.hid (fun w => refRatio_any a b c d a0 a1 b1 c0 c1 d1 w)
  generalize raV a b c d = v1 at *
  generalize raE b d = v2 at *
  go_enter Try.func21, Try.ntmps21
  go_wp2_with fail
  (with_reducible refine (h1.out _).mono ?_)
  rintro e w1 ⟨rfl, hb1⟩
  go_wp2_with fail
  (with_reducible refine (h2.out _).mono ?_)
  rintro e w2 ⟨rfl, hb2⟩
  go_wp2
  go_ret
  exact ⟨rfl, hb1.trans (hb2.mono hb1.size)⟩
theorem walkSums (a : Option Addr) (len cap : Nat) (x y : Int) (x0 : -9223372036854775808 ≤ x) (x1 : x ≤ 9223372036854775807) (y0 : -9223372036854775808 ≤ y) (y1 : y ≤ 9223372036854775807) (w : World) (he : Elems w.heap.size a len w) :
    Calls Try.prog 3 #[.slice a len cap, .int .i64 x, .int .i64 y] w fun e w' => e = .returned (.bool true) ∧ Below w.heap.size w w' := by
  have hg := Has.new (cap := cap) he
  clear he
  go_enter Try.func3, Try.ntmps3
  go_wp2_with (go_at_call 9; (with_reducible refine (new_any a len cap _).mono ?_); rintro e w' ⟨rfl, rfl⟩)
  go_loopw [8] (fun i wr => ∃ j : Nat, j ≤ 5 ∧ i = .int .i64 j ∧ Has w.heap.size a len cap (9 * j) w wr) (fun i _ => 5 - (intOf i).toNat)
  case atStart => exact ⟨0, by omega, rfl, hg⟩
  case round =>
    obtain ⟨j, hj, rfl, hgj⟩ := hrel
    clear hg
    by_cases hlt : j < 5
    · go_wp2_with (first
        | (go_at_call 11; refine (has_int64 w.heap.size a len cap _ w _ (by assumption) (by omega)).mono ?_; rintro e w' ⟨z, z0, z1, rfl, hgn, ho⟩; clear ho)
        | (go_at_call 10; (with_reducible refine (sums_any _ _ (by assumption) (by assumption) (by assumption) (by assumption) _).mono ?_); rintro e w' ⟨rfl, hb⟩; have hgn := Has.below (by assumption) hb; clear hb))
      go_roundw
      case rel => exact ⟨j + 1, by omega, by go_num, Has.at hgn (by omega)⟩
      case measure => simp [intOf]; omega
    · obtain rfl : j = 5 := by omega
      go_wp2_with (first
        | (go_at_call 10; (with_reducible refine (sums_any _ _ (by assumption) (by assumption) (by assumption) (by assumption) _).mono ?_); rintro e w' ⟨rfl, hb⟩; have hgn := Has.below (by assumption) hb; clear hb)
        | (go_at_call 12; (with_reducible refine (awake2_any _).mono ?_); rintro e w' ⟨rfl, hb⟩; have hgm := Has.below hgn hb; clear hb))
      go_ret
      exact ⟨rfl, hgm.2⟩
end Go.Proofs.Ytblagnhdojejmaa
