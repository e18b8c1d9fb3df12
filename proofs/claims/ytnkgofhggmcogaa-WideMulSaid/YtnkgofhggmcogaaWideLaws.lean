/-
  Layer 1: the walks of the statements WideAdd, WideMul, WideCross. Every input; no condition.
-/
import Derived.Test.YtnkgofhggmcogaaGen
import Derived.Test.YtnkgofhggmcogaaWideCalls
namespace Go.Proofs.Ytnkgofhggmcogaa
open Go.ChangeShapes Go.WideShapes Go.ChangeAt Go.RowKit
set_option linter.unusedVariables false

theorem max0 : (0 : Int) ≤ 18446744073709551615 := by decide
theorem max1 : (18446744073709551615 : Int) ≤ 18446744073709551615 := Int.le_refl _
theorem walkAdd (hi lo y : Int) (h0 : 0 ≤ hi) (h1 : hi ≤ 18446744073709551615) (l0 : 0 ≤ lo) (l1 : lo ≤ 18446744073709551615) (y0 : 0 ≤ y) (y1 : y ≤ 18446744073709551615) (w : World) :
    Calls Try.prog 4 #[.int .u64 hi, .int .u64 lo, .int .u64 y] w fun e w' => e = .returned (.bool true) ∧ Grown w w' := by
  rcases (by omega : 18446744073709551615 < lo + y ∨ lo + y ≤ 18446744073709551615) with h | h
  · go_enter Try.func4, Try.ntmps4
    go_wp2_with (first
      | (go_at_call 13; (with_reducible refine (add_hi hi lo y h0 h1 l0 l1 y0 y1 h _).mono ?_); rintro e w' ⟨rfl, rfl⟩)
      | (go_at_call 14; (with_reducible refine (refAdd_hi hi lo y h0 h1 l0 l1 y0 y1 h _).mono ?_); rintro e w' ⟨rfl, rfl⟩)
      | (go_at_call 13; (with_reducible refine (add_hi 18446744073709551615 lo y max0 max1 l0 l1 y0 y1 h _).mono ?_); rintro e w' ⟨rfl, rfl⟩)
      | (go_at_call 14; (with_reducible refine (refAdd_hi 18446744073709551615 lo y max0 max1 l0 l1 y0 y1 h _).mono ?_); rintro e w' ⟨rfl, rfl⟩)
      | (go_at_call 12; (with_reducible refine (awake_any _).mono ?_); rintro e w' ⟨rfl, rfl⟩))
    go_ret
    exact ⟨rfl, by repeat (first | with_reducible exact Grown.refl _ | with_reducible apply Grown.alloc | with_reducible apply Grown.drew)⟩
  · go_enter Try.func4, Try.ntmps4
    go_wp2_with (first
      | (go_at_call 13; (with_reducible refine (add_lo hi lo y h0 h1 l0 l1 y0 y1 h _).mono ?_); rintro e w' ⟨rfl, rfl⟩)
      | (go_at_call 14; (with_reducible refine (refAdd_lo hi lo y h0 h1 l0 l1 y0 y1 h _).mono ?_); rintro e w' ⟨rfl, rfl⟩)
      | (go_at_call 13; (with_reducible refine (add_lo 18446744073709551615 lo y max0 max1 l0 l1 y0 y1 h _).mono ?_); rintro e w' ⟨rfl, rfl⟩)
      | (go_at_call 14; (with_reducible refine (refAdd_lo 18446744073709551615 lo y max0 max1 l0 l1 y0 y1 h _).mono ?_); rintro e w' ⟨rfl, rfl⟩)
      | (go_at_call 12; (with_reducible refine (awake_any _).mono ?_); rintro e w' ⟨rfl, rfl⟩))
    go_ret
    exact ⟨rfl, by repeat (first | with_reducible exact Grown.refl _ | with_reducible apply Grown.alloc | with_reducible apply Grown.drew)⟩

theorem walkMul (a : Option Addr) (len cap : Nat) (x y : Int) (x0 : 0 ≤ x) (x1 : x ≤ 18446744073709551615) (y0 : 0 ≤ y) (y1 : y ≤ 18446744073709551615) (w : World) (he : Elems w.heap.size a len w) :
    Calls Try.prog 3 #[.slice a len cap, .int .u64 x, .int .u64 y] w fun e w' => e = .returned (.bool true) ∧ Below w.heap.size w w' := by
  have hg := Has.new (cap := cap) he
  clear he
  go_enter Try.func3, Try.ntmps3
  go_wp2_with (go_at_call 8; (with_reducible refine (new_any a len cap _).mono ?_); rintro e w' ⟨rfl, rfl⟩)
  go_loopw [8] (fun i wr => ∃ j : Nat, j ≤ 4 ∧ i = .int .i64 j ∧ Has w.heap.size a len cap (2 * j) w wr) (fun i _ => 4 - (intOf i).toNat)
  case atStart => exact ⟨0, by omega, rfl, hg⟩
  case round =>
    obtain ⟨j, hj, rfl, hgj⟩ := hrel
    clear hg
    by_cases hlt : j < 4
    · go_wp2_with (first
        | (go_at_call 9; refine (has_uint64 w.heap.size a len cap _ w _ (by assumption) (by omega)).mono ?_; rintro e w' ⟨z, z0, z1, rfl, hgn, ho⟩; clear ho)
        | (go_at_call 10; (with_reducible refine (mul_any _ _ (by assumption) (by assumption) (by assumption) (by assumption) _).mono ?_); rintro e w' ⟨rfl, rfl⟩)
        | (go_at_call 11; (with_reducible refine (refMul_any _ _ (by assumption) (by assumption) (by assumption) (by assumption) _).mono ?_); rintro e w' ⟨rfl, rfl⟩))
      go_roundw
      case rel => exact ⟨j + 1, by omega, by go_num, ((((hgn.alloc _).alloc _).alloc _).alloc _).at (by omega)⟩
      case measure => simp [intOf]; omega
    · obtain rfl : j = 4 := by omega
      go_wp2_with (first
        | (go_at_call 10; (with_reducible refine (mul_any _ _ (by assumption) (by assumption) (by assumption) (by assumption) _).mono ?_); rintro e w' ⟨rfl, rfl⟩)
        | (go_at_call 11; (with_reducible refine (refMul_any _ _ (by assumption) (by assumption) (by assumption) (by assumption) _).mono ?_); rintro e w' ⟨rfl, rfl⟩)
        | (go_at_call 12; (with_reducible refine (awake_any _).mono ?_); rintro e w' ⟨rfl, rfl⟩))
      go_ret
      exact ⟨rfl, (((hgj.alloc _).alloc _).alloc _).2⟩
end Go.Proofs.Ytnkgofhggmcogaa
