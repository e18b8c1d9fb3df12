/-
  Layer 1: the walks of the statements WideAdd, WideMul, WideCross. Every input; no condition.
-/
import Derived.Test.YtnkgofhggmcogaaGen
import Derived.Test.YtnkgofhggmcogaaWideCalls
import Derived.StillTactics
import Derived.Laws.Pointers
import Derived.Deep.RegionHeld3
namespace Go.Proofs.Ytnkgofhggmcogaa
open Go.ChangeShapes Go.WideShapes Go.ChangeAt Go.RowKit
set_option linter.unusedVariables false

theorem max0 : (0 : Int) ≤ 18446744073709551615 := by decide
theorem max1 : (18446744073709551615 : Int) ≤ 18446744073709551615 := Int.le_refl _
theorem walkAdd (hi lo y : Int) (h0 : 0 ≤ hi) (h1 : hi ≤ 18446744073709551615) (l0 : 0 ≤ lo) (l1 : lo ≤ 18446744073709551615) (y0 : 0 ≤ y) (y1 : y ≤ 18446744073709551615) (w : World) :
    Calls Try.prog 4 #[.int .u64 hi, .int .u64 lo, .int .u64 y] w fun e w' => e = .returned (.bool true) ∧ Grown w w' := by
  rcases (by omega : 18446744073709551615 < lo + y ∨ lo + y ≤ 18446744073709551615) with h | h
  · go_enter Try.func4, Try.ntmps4
    go_wp2_with (first
      | (go_at_call 13; (with_reducible refine (add_hi hi lo y h0 h1 l0 l1 y0 y1 h _).mono ?_); rintro e w' ⟨rfl, rfl⟩)
      | (go_at_call 14; (with_reducible refine (refAdd_hi hi lo y h0 h1 l0 l1 y0 y1 h _).mono ?_); rintro e w' ⟨rfl, rfl⟩)
      | (go_at_call 13; (with_reducible refine (add_hi 18446744073709551615 lo y max0 max1 l0 l1 y0 y1 h _).mono ?_); rintro e w' ⟨rfl, rfl⟩)
      | (go_at_call 14; (with_reducible refine (refAdd_hi 18446744073709551615 lo y max0 max1 l0 l1 y0 y1 h _).mono ?_); rintro e w' ⟨rfl, rfl⟩)
      | (go_at_call 12; (with_reducible refine (awake_any _).mono ?_); rintro e w' ⟨rfl, rfl⟩))
    go_ret
    exact ⟨rfl, by repeat (first | with_reducible exact Grown.refl _ | with_reducible apply Grown.alloc | with_reducible apply Grown.drew)⟩
  · go_enter Try.func4, Try.ntmps4
    go_wp2_with (first
      | (go_at_call 13; (with_reducible refine (add_lo hi lo y h0 h1 l0 l1 y0 y1 h _).mono ?_); rintro e w' ⟨rfl, rfl⟩)
      | (go_at_call 14; (with_reducible refine (refAdd_lo hi lo y h0 h1 l0 l1 y0 y1 h _).mono ?_); rintro e w' ⟨rfl, rfl⟩)
      | (go_at_call 13; (with_reducible refine (add_lo 18446744073709551615 lo y max0 max1 l0 l1 y0 y1 h _).mono ?_); rintro e w' ⟨rfl, rfl⟩)
      | (go_at_call 14; (with_reducible refine (refAdd_lo 18446744073709551615 lo y max0 max1 l0 l1 y0 y1 h _).mono ?_); rintro e w' ⟨rfl, rfl⟩)
      | (go_at_call 12; (with_reducible refine (awake_any _).mono ?_); rintro e w' ⟨rfl, rfl⟩))
    go_ret
    exact ⟨rfl, by repeat (first | with_reducible exact Grown.refl _ | with_reducible apply Grown.alloc | with_reducible apply Grown.drew)⟩

theorem walkMul (a : Option Addr) (len cap : Nat) (x y : Int) (x0 : 0 ≤ x) (x1 : x ≤ 18446744073709551615) (y0 : 0 ≤ y) (y1 : y ≤ 18446744073709551615) (w : World) (he : Elems w.heap.size a len w) :
    Calls Try.prog 3 #[.slice a len cap, .int .u64 x, .int .u64 y] w fun e w' => e = .returned (.bool true) ∧ Below w.heap.size w w' := by
  have hg := Has.new (cap := cap) he
  clear he
  go_enter Try.func3, Try.ntmps3
  go_wp2_with (go_at_call 8; (with_reducible refine (new_any a len cap _).mono ?_); rintro e w' ⟨rfl, rfl⟩)
  go_loopw [8] (fun i wr => ∃ j : Nat, j ≤ 4 ∧ i = .int .i64 j ∧ Has w.heap.size a len cap (2 * j) w wr) (fun i _ => 4 - (intOf i).toNat)
  case atStart => exact ⟨0, by omega, rfl, hg⟩
  case round =>
    obtain ⟨j, hj, rfl, hgj⟩ := hrel
    clear hg
    by_cases hlt : j < 4
    · go_wp2_with (first
        | (go_at_call 9; refine (has_uint64 w.heap.size a len cap _ w _ (by assumption) (by omega)).mono ?_; rintro e w' ⟨z, z0, z1, rfl, hgn, ho⟩; clear ho)
        | (go_at_call 10; (with_reducible refine (mul_any _ _ (by assumption) (by assumption) (by assumption) (by assumption) _).mono ?_); rintro e w' ⟨rfl, rfl⟩)
        | (go_at_call 11; (with_reducible refine (refMul_any _ _ (by assumption) (by assumption) (by assumption) (by assumption) _).mono ?_); rintro e w' ⟨rfl, rfl⟩))
      go_roundw
      case rel => exact ⟨j + 1, by omega, by go_num, ((((hgn.alloc _).alloc _).alloc _).alloc _).at (by omega)⟩
      case measure => simp [intOf]; omega
    · obtain rfl : j = 4 := by omega
      go_wp2_with (first
        | (go_at_call 10; (with_reducible refine (mul_any _ _ (by assumption) (by assumption) (by assumption) (by assumption) _).mono ?_); rintro e w' ⟨rfl, rfl⟩)
        | (go_at_call 11; (with_reducible refine (refMul_any _ _ (by assumption) (by assumption) (by assumption) (by assumption) _).mono ?_); rintro e w' ⟨rfl, rfl⟩)
        | (go_at_call 12; (with_reducible refine (awake_any _).mono ?_); rintro e w' ⟨rfl, rfl⟩))
      go_ret
      exact ⟨rfl, (((hgj.alloc _).alloc _).alloc _).2⟩

theorem held_on {w0 w w' : World} {p q : Nat} {a b c d : Value} (hb : Below w.heap.size w w')
    (h : w.cell? ⟨p, 0, none⟩ = some a ∧ w.cell? ⟨p, 1, none⟩ = some b ∧ w.cell? ⟨q, 0, none⟩ = some c ∧ w.cell? ⟨q, 1, none⟩ = some d ∧ Below w0.heap.size w0 w) :
    w'.cell? ⟨p, 0, none⟩ = some a ∧ w'.cell? ⟨p, 1, none⟩ = some b ∧ w'.cell? ⟨q, 0, none⟩ = some c ∧ w'.cell? ⟨q, 1, none⟩ = some d ∧ Below w0.heap.size w0 w' :=
  ⟨cell_later h.1 hb, cell_later h.2.1 hb, cell_later h.2.2.1 hb, cell_later h.2.2.2.1 hb, h.2.2.2.2.trans (hb.mono h.2.2.2.2.size)⟩
theorem cross_back (a b : Int) (a0 : 0 ≤ a) (a1 : a ≤ 18446744073709551615) (b0 : 0 ≤ b) (b1 : b ≤ 18446744073709551615) (w : World) :
    Calls Try.prog 17 #[.int .u64 a, .int .u64 b, .int .u64 b, .int .u64 a] w fun e w' => e = .returned (.int .i64 0) ∧ Below w.heap.size w w' := by
  have h := cross_any a b b a a0 a1 b0 b1 b0 b1 a0 a1 w
  rw [crossZ_back] at h
  exact h
theorem less_below (ah al bh bl : Int) (w : World) :
    Calls Try.prog 19 #[.agg #[.int .u64 ah, .int .u64 al], .agg #[.int .u64 bh, .int .u64 bl]] w fun e w' => e = .returned (.bool (wLess ah al bh bl)) ∧ Below w.heap.size w w' :=
  (less_any ah al bh bl w).mono fun _ _ ⟨h1, h2⟩ => ⟨h1, by rw [h2]; exact below_alloc (below_alloc (Below.refl _ _) _) _⟩
theorem refLess_below (ah al bh bl : Int) (w : World) :
    Calls Try.prog 20 #[.agg #[.int .u64 ah, .int .u64 al], .agg #[.int .u64 bh, .int .u64 bl]] w fun e w' => e = .returned (.bool (wLess ah al bh bl)) ∧ Below w.heap.size w w' :=
  (refLess_any ah al bh bl w).mono fun _ _ ⟨h1, h2⟩ => ⟨h1, by rw [h2]; exact below_alloc (below_alloc (Below.refl _ _) _) _⟩
theorem awake_below (w : World) : Calls Try.prog 12 #[] w fun e w' => e = .returned (.bool true) ∧ Below w.heap.size w w' :=
  (awake_any w).mono fun _ _ ⟨h1, h2⟩ => ⟨h1, by rw [h2]; exact below_alloc (Below.refl _ _) _⟩
theorem walkCross (s : Option Addr) (len cap : Nat) (a b c d : Int) (a0 : 0 ≤ a) (a1 : a ≤ 18446744073709551615) (b0 : 0 ≤ b) (b1 : b ≤ 18446744073709551615) (c0 : 0 ≤ c) (c1 : c ≤ 18446744073709551615) (d0 : 0 ≤ d) (d1 : d ≤ 18446744073709551615) (w : World) (he : Elems w.heap.size s len w) :
    Calls Try.prog 7 #[.slice s len cap, .int .u64 a, .int .u64 b, .int .u64 c, .int .u64 d] w fun e w' => e = .returned (.bool true) ∧ Below w.heap.size w w' := by
  have hg := Has.new (cap := cap) he
  clear he
  go_enter Try.func7, Try.ntmps7
  go_wp2_with (go_at_call 8; (with_reducible refine (new_any s len cap _).mono ?_); rintro e w' ⟨rfl, rfl⟩)
  go_loopw [12] (fun i wr => ∃ j : Nat, j ≤ 4 ∧ i = .int .i64 j ∧ Has w.heap.size s len cap (4 * j) w wr) (fun i _ => 4 - (intOf i).toNat)
  case atStart => exact ⟨0, by omega, rfl, hg⟩
  case round =>
    obtain ⟨j, hj, rfl, hgj⟩ := hrel
    clear hg
    by_cases hlt : j < 4
    · go_wp2_with (first
        | (go_at_call 9; refine (has_uint64 w.heap.size s len cap _ w _ (by assumption) (by omega)).mono ?_; rintro e w' ⟨z, z0, z1, rfl, hgn, ho⟩; clear ho)
        | (go_at_call 17; (with_reducible refine (cross_back _ _ (by assumption) (by assumption) (by assumption) (by assumption) _).mono ?_); rintro e w' ⟨rfl, hb⟩; have hq := Has.below (by assumption) hb; clear hb)
        | (go_at_call 17; (with_reducible refine (cross_any _ _ _ _ (by assumption) (by assumption) (by assumption) (by assumption) (by assumption) (by assumption) (by assumption) (by assumption) _).mono ?_); rintro e w' ⟨rfl, hb⟩; have hq := Has.below (by assumption) hb; clear hb)
        | (go_at_call 18; (with_reducible refine (refCross_any _ _ _ _ (by assumption) (by assumption) (by assumption) (by assumption) (by assumption) (by assumption) (by assumption) (by assumption) _).mono ?_); rintro e w' ⟨rfl, hb⟩; have hq := Has.below (by assumption) hb; clear hb))
      go_roundw
      case rel => exact ⟨j + 1, by omega, by go_num, Has.at (by assumption) (by omega)⟩
      case measure => simp [intOf]; omega
    · obtain rfl : j = 4 := by omega
      have e1 : wLess a b a b = false := wLess_self a b
      go_wp2
      go_region_held3 (fun w' => w'.cell? ⟨wr.heap.size, 0, none⟩ = some (.int .u64 a) ∧ w'.cell? ⟨wr.heap.size, 1, none⟩ = some (.int .u64 b) ∧ w'.cell? ⟨wr.heap.size + 1, 0, none⟩ = some (.int .u64 c) ∧ w'.cell? ⟨wr.heap.size + 1, 1, none⟩ = some (.int .u64 d) ∧ Below wr.heap.size wr w')
        ((first | exact held_on (by assumption) (by assumption) | (refine ⟨?_, ?_, ?_, ?_, ?_⟩ <;> first | (simp [go_sem, World.cell?_alloc_past]; done) | exact Below.drew (below_alloc (below_alloc (Below.refl _ _) _) _))))
        (first
          | (go_at_call 19; refine (less_below _ _ _ _ _).mono ?_; rintro e w' ⟨rfl, hb⟩)
          | (go_at_call 20; refine (refLess_below _ _ _ _ _).mono ?_; rintro e w' ⟨rfl, hb⟩)
          | (go_at_call 17; refine (cross_any a b c d a0 a1 b0 b1 c0 c1 d0 d1 _).mono ?_; rintro e w' ⟨rfl, hb⟩)
          | (go_at_call 18; refine (refCross_any a b c d a0 a1 b0 b1 c0 c1 d0 d1 _).mono ?_; rintro e w' ⟨rfl, hb⟩)
          | (go_at_call 12; refine (awake_below _).mono ?_; rintro e w' ⟨rfl, hb⟩))
      rename_i hH
      have hB := (hgj.below hH.2.2.2.2).2
      clear hH
      go_wp2
      go_ret
      exact ⟨rfl, hB⟩
end Go.Proofs.Ytnkgofhggmcogaa
