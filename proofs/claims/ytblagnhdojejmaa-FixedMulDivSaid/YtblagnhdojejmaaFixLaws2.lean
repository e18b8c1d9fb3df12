/-
  Layer 2: the walks of the statements about package fixed. Every input; no condition.
-/
import Derived.Test.YtblagnhdojejmaaFixLaws
import Derived.StillTactics
import Derived.Laws.Pointers
namespace Go.Proofs.Ytblagnhdojejmaa
open Go.ChangeShapes Go.WideShapes Go.ChangeAt Go.RowKit
set_option linter.unusedVariables false

theorem walkQuot (a : Option Addr) (len cap : Nat) (x y r : Int) (x0 : -9223372036854775808 ≤ x) (x1 : x ≤ 9223372036854775807) (y0 : -9223372036854775808 ≤ y) (y1 : y ≤ 9223372036854775807) (w : World) (he : Elems w.heap.size a len w) :
    Calls Try.prog 4 #[.slice a len cap, .int .i64 x, .int .i64 y, .int .i64 r] w fun e w' => e = .returned (.bool true) ∧ Below w.heap.size w w' := by
  have hg := Has.new (cap := cap) he
  clear he
  go_enter Try.func4, Try.ntmps4
  go_wp2_with (go_at_call 9; (with_reducible refine (new_any a len cap _).mono ?_); rintro e w' ⟨rfl, rfl⟩)
  go_loopw [10] (fun i wr => ∃ j : Nat, j ≤ 5 ∧ i = .int .i64 j ∧ Has w.heap.size a len cap (8 * j) w wr) (fun i _ => 5 - (intOf i).toNat)
  case atStart => exact ⟨0, by omega, rfl, hg⟩
  case round =>
    obtain ⟨j, hj, rfl, hgj⟩ := hrel
    clear hg
    by_cases hlt : j < 5
    · go_wp2_with (first
        | (go_at_call 11; refine (has_int64 w.heap.size a len cap _ w _ (by assumption) (by omega)).mono ?_; rintro e w' ⟨z, z0, z1, rfl, hgn, ho⟩; clear ho)
        | (go_at_call 14; refine (has_next w.heap.size a len cap _ _ w _ (by assumption) (by decide) (by decide) (by omega)).mono ?_; rintro e w' ⟨z, z0, z1, rfl, hgn, ho⟩; clear ho)
        | (go_at_call 13; (with_reducible refine (quot_any _ _ _ (by assumption) (by assumption) (by assumption) (by assumption) _).mono ?_); rintro e w' ⟨rfl, hb⟩; have hgn := Has.below (by assumption) hb; clear hb))
      go_roundw
      case rel => exact ⟨j + 1, by omega, by go_num, Has.at hgn (by omega)⟩
      case measure => simp [intOf]; omega
    · obtain rfl : j = 5 := by omega
      go_wp2_with (first
        | (go_at_call 13; (with_reducible refine (quot_any _ _ _ (by assumption) (by assumption) (by assumption) (by assumption) _).mono ?_); rintro e w' ⟨rfl, hb⟩; have hgn := Has.below (by assumption) hb; clear hb)
        | (go_at_call 12; (with_reducible refine (awake2_any _).mono ?_); rintro e w' ⟨rfl, hb⟩; have hgm := Has.below hgn hb; clear hb))
      go_ret
      exact ⟨rfl, hgm.2⟩
theorem walkMdiv (a : Option Addr) (len cap : Nat) (x y v r : Int) (x0 : -9223372036854775808 ≤ x) (x1 : x ≤ 9223372036854775807) (y0 : -9223372036854775808 ≤ y) (y1 : y ≤ 9223372036854775807) (v0 : -9223372036854775808 ≤ v) (v1 : v ≤ 9223372036854775807) (w : World) (he : Elems w.heap.size a len w) :
    Calls Try.prog 5 #[.slice a len cap, .int .i64 x, .int .i64 y, .int .i64 v, .int .i64 r] w fun e w' => e = .returned (.bool true) ∧ Below w.heap.size w w' := by
  have hg := Has.new (cap := cap) he
  clear he
  go_enter Try.func5, Try.ntmps5
  go_wp2_with (go_at_call 9; (with_reducible refine (new_any a len cap _).mono ?_); rintro e w' ⟨rfl, rfl⟩)
  go_loopw [12] (fun i wr => ∃ j : Nat, j ≤ 5 ∧ i = .int .i64 j ∧ Has w.heap.size a len cap (11 * j) w wr) (fun i _ => 5 - (intOf i).toNat)
  case atStart => exact ⟨0, by omega, rfl, hg⟩
  case round =>
    obtain ⟨j, hj, rfl, hgj⟩ := hrel
    clear hg
    by_cases hlt : j < 5
    · go_wp2_with (first
        | (go_at_call 11; refine (has_int64 w.heap.size a len cap _ w _ (by assumption) (by omega)).mono ?_; rintro e w' ⟨z, z0, z1, rfl, hgn, ho⟩; clear ho)
        | (go_at_call 14; refine (has_next w.heap.size a len cap _ _ w _ (by assumption) (by decide) (by decide) (by omega)).mono ?_; rintro e w' ⟨z, z0, z1, rfl, hgn, ho⟩; clear ho)
        | (go_at_call 15; (with_reducible refine (mdiv_any _ _ _ _ (by assumption) (by assumption) (by assumption) (by assumption) (by assumption) (by assumption) _).mono ?_); rintro e w' ⟨rfl, hb⟩; have hgn := Has.below (by assumption) hb; clear hb))
      go_roundw
      case rel => exact ⟨j + 1, by omega, by go_num, Has.at hgn (by omega)⟩
      case measure => simp [intOf]; omega
    · obtain rfl : j = 5 := by omega
      go_wp2_with (first
        | (go_at_call 15; (with_reducible refine (mdiv_any _ _ _ _ (by assumption) (by assumption) (by assumption) (by assumption) (by assumption) (by assumption) _).mono ?_); rintro e w' ⟨rfl, hb⟩; have hgn := Has.below (by assumption) hb; clear hb)
        | (go_at_call 12; (with_reducible refine (awake2_any _).mono ?_); rintro e w' ⟨rfl, hb⟩; have hgm := Has.below hgn hb; clear hb))
      go_ret
      exact ⟨rfl, hgm.2⟩
theorem walkRat (a : Option Addr) (len cap : Nat) (x y v u : Int) (x0 : -9223372036854775808 ≤ x) (x1 : x ≤ 9223372036854775807) (y1 : y ≤ 9223372036854775807) (v0 : -9223372036854775808 ≤ v) (v1 : v ≤ 9223372036854775807) (u1 : u ≤ 9223372036854775807) (w : World) (he : Elems w.heap.size a len w) :
    Calls Try.prog 8 #[.slice a len cap, .int .i64 x, .int .i64 y, .int .i64 v, .int .i64 u] w fun e w' => e = .returned (.bool true) ∧ Below w.heap.size w w' := by
  have hg := Has.new (cap := cap) he
  clear he
  go_enter Try.func8, Try.ntmps8
  go_wp2_with (go_at_call 9; (with_reducible refine (new_any a len cap _).mono ?_); rintro e w' ⟨rfl, rfl⟩)
  go_loopw [12] (fun i wr => ∃ j : Nat, j ≤ 5 ∧ i = .int .i64 j ∧ Has w.heap.size a len cap (18 * j) w wr) (fun i _ => 5 - (intOf i).toNat)
  case atStart => exact ⟨0, by omega, rfl, hg⟩
  case round =>
    obtain ⟨j, hj, rfl, hgj⟩ := hrel
    clear hg
    by_cases hlt : j < 5
    · go_wp2_with (first
        | (go_at_call 11; refine (has_int64 w.heap.size a len cap _ w _ (by assumption) (by omega)).mono ?_; rintro e w' ⟨z, z0, z1, rfl, hgn, ho⟩; clear ho)
        | (go_at_call 21; (with_reducible refine (rat_any _ _ _ _ (by assumption) (by assumption) (by assumption) (by assumption) (by assumption) (by assumption) _).mono ?_); rintro e w' ⟨rfl, hb⟩; have hgn := Has.below (by assumption) hb; clear hb))
      go_roundw
      case rel => exact ⟨j + 1, by omega, by go_num, Has.at hgn (by omega)⟩
      case measure => simp [intOf]; omega
    · obtain rfl : j = 5 := by omega
      go_wp2_with (first
        | (go_at_call 21; (with_reducible refine (rat_any _ _ _ _ (by assumption) (by assumption) (by assumption) (by assumption) (by assumption) (by assumption) _).mono ?_); rintro e w' ⟨rfl, hb⟩; have hgn := Has.below (by assumption) hb; clear hb)
        | (go_at_call 12; (with_reducible refine (awake2_any _).mono ?_); rintro e w' ⟨rfl, hb⟩; have hgm := Has.below hgn hb; clear hb))
      go_ret
      exact ⟨rfl, hgm.2⟩
theorem walkClamp (a : Option Addr) (len cap : Nat) (x low high : Int) (x0 : -9223372036854775808 ≤ x) (x1 : x ≤ 9223372036854775807) (l0 : -9223372036854775808 ≤ low) (l1 : low ≤ 9223372036854775807) (w : World) (he : Elems w.heap.size a len w) :
    Calls Try.prog 7 #[.slice a len cap, .int .i64 x, .int .i64 low, .int .i64 high] w fun e w' => e = .returned (.bool true) ∧ Below w.heap.size w w' := by
  have hg := Has.new (cap := cap) he
  clear he
  have h1 := Lib.hid (fun w => clamp_any x low high w)
  have h2 := Lib.hid (fun w => refClamp_any x low high w)
  have h3 := Lib.hid (fun w => saturate_any x low x0 x1 l0 l1 w)
  have h4 := Lib.hid (fun w => refSaturate_any x low x0 x1 l0 l1 w)
  generalize clV x low high = v1 at *
  generalize clB x low high = v2 at *
  generalize saV x low = v3 at *
  generalize saB x low = v4 at *
  go_enter Try.func7, Try.ntmps7
  go_wp2_with (go_at_call 9; (with_reducible refine (new_any a len cap _).mono ?_); rintro e w' ⟨rfl, rfl⟩)
  go_loopw [10] (fun i wr => ∃ j : Nat, j ≤ 4 ∧ i = .int .i64 j ∧ Has w.heap.size a len cap (6 * j) w wr) (fun i _ => 4 - (intOf i).toNat)
  case atStart => exact ⟨0, by omega, rfl, hg⟩
  case round =>
    obtain ⟨j, hj, rfl, hgj⟩ := hrel
    clear hg
    by_cases hlt : j < 4
    · clear h1 h2 h3 h4
      go_wp2_with fail
      refine (has_int64 w.heap.size a len cap _ w _ hgj (by omega)).mono ?_
      rintro e w1 ⟨p, p0, p1, rfl, hg1, ho⟩
      clear ho
      go_wp2_with fail
      refine (has_int64 w.heap.size a len cap _ w _ hg1 (by omega)).mono ?_
      rintro e w2 ⟨q, q0, q1, rfl, hg2, ho⟩
      clear ho hg1
      have h3 := Lib.hid (fun w => saturate_any p q p0 p1 q0 q1 w)
      have h4 := Lib.hid (fun w => refSaturate_any p q p0 p1 q0 q1 w)
      generalize saV p q = u1 at *
      generalize saB p q = u2 at *
      go_wp2_with fail
      (with_reducible refine (h3.out _).mono ?_)
      rintro e w' ⟨rfl, rfl⟩
      go_wp2_with fail
      (with_reducible refine (h4.out _).mono ?_)
      rintro e w' ⟨rfl, rfl⟩
      go_wp2
      go_roundw
      case rel => exact ⟨j + 1, by omega, by go_num, Has.at hg2 (by omega)⟩
      case measure => simp [intOf]; omega
    · obtain rfl : j = 4 := by omega
      go_wp2_with fail
      (with_reducible refine (h1.out _).mono ?_)
      rintro e w' ⟨rfl, rfl⟩
      go_wp2_with fail
      (with_reducible refine (h2.out _).mono ?_)
      rintro e w' ⟨rfl, rfl⟩
      go_wp2_with fail
      (with_reducible refine (h3.out _).mono ?_)
      rintro e w' ⟨rfl, rfl⟩
      go_wp2_with fail
      (with_reducible refine (h4.out _).mono ?_)
      rintro e w' ⟨rfl, rfl⟩
      go_wp2_with fail
      refine (awake2_any _).mono ?_
      rintro e w' ⟨rfl, hb⟩
      have hgm := Has.below hgj hb
      clear hb
      go_wp2
      go_ret
      exact ⟨rfl, hgm.2⟩
end Go.Proofs.Ytblagnhdojejmaa
