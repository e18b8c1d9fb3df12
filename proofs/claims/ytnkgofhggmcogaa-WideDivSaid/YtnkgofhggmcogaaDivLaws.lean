/-
  Layer 1: the walks of the statements WideDiv and WideInverse. Every input; no condition.
-/
import Derived.Test.YtnkgofhggmcogaaGen
import Derived.Test.YtnkgofhggmcogaaWideLaws
import Derived.Test.YtnkgofhggmcogaaDivCalls
namespace Go.Proofs.Ytnkgofhggmcogaa
open Go.ChangeShapes Go.WideShapes Go.ChangeAt Go.RowKit
set_option linter.unusedVariables false

theorem walkDiv (s : Option Addr) (len cap : Nat) (hi lo d : Int) (h0 : 0 ≤ hi) (h1 : hi ≤ 18446744073709551615) (l0 : 0 ≤ lo) (l1 : lo ≤ 18446744073709551615) (d0 : 0 ≤ d) (d1 : d ≤ 18446744073709551615) (w : World) (he : Elems w.heap.size s len w) :
    Calls Try.prog 5 #[.slice s len cap, .int .u64 hi, .int .u64 lo, .int .u64 d] w fun e w' => e = .returned (.bool true) ∧ Below w.heap.size w w' := by
  have hg := Has.new (cap := cap) he
  clear he
  go_enter Try.func5, Try.ntmps5
  go_wp2_with (go_at_call 8; (with_reducible refine (new_any s len cap _).mono ?_); rintro e w' ⟨rfl, rfl⟩)
  go_loopw [10] (fun i wr => ∃ j : Nat, j ≤ 4 ∧ i = .int .i64 j ∧ Has w.heap.size s len cap (4 * j) w wr) (fun i _ => 4 - (intOf i).toNat)
  case atStart => exact ⟨0, by omega, rfl, hg⟩
  case round =>
    obtain ⟨j, hj, rfl, hgj⟩ := hrel
    clear hg
    by_cases hlt : j < 4
    · go_wp2_with (first
        | (go_at_call 9; refine (has_uint64 w.heap.size s len cap _ w _ (by assumption) (by omega)).mono ?_; rintro e w' ⟨z, z0, z1, rfl, hgn, ho⟩; clear ho)
        | (go_at_call 15; (with_reducible refine (divides_any _ _ _ (by assumption) (by assumption) (by assumption) (by assumption) (by assumption) (by assumption) _).mono ?_); rintro e w' ⟨rfl, hb⟩; have hq := Has.below (by assumption) hb; clear hb))
      go_roundw
      case rel => exact ⟨j + 1, by omega, by go_num, Has.at (by assumption) (by omega)⟩
      case measure => simp [intOf]; omega
    · obtain rfl : j = 4 := by omega
      go_wp2_with (first
        | (go_at_call 15; (with_reducible refine (divides_any _ _ _ (by assumption) (by assumption) (by assumption) (by assumption) (by assumption) (by assumption) _).mono ?_); rintro e w' ⟨rfl, hb⟩; have hq := Has.below (by assumption) hb; clear hb)
        | (go_at_call 12; (with_reducible refine (awake_any _).mono ?_); rintro e w' ⟨rfl, rfl⟩))
      go_ret
      rename_i hq
      exact ⟨rfl, (hq.alloc _).2⟩

theorem add_below (hi lo y : Int) (h0 : 0 ≤ hi) (h1 : hi ≤ 18446744073709551615) (l0 : 0 ≤ lo) (l1 : lo ≤ 18446744073709551615) (y0 : 0 ≤ y) (y1 : y ≤ 18446744073709551615) (w : World) :
    Calls Try.prog 13 #[.agg #[.int .u64 hi, .int .u64 lo], .int .u64 y] w fun e w' => e = .returned (.tuple #[.agg #[.int .u64 (aHi hi lo y), .int .u64 (aLo lo y)], .bool (aOver hi lo y)]) ∧ Below w.heap.size w w' := by
  rcases (by omega : 18446744073709551615 < lo + y ∨ lo + y ≤ 18446744073709551615) with h | h
  · exact (add_hi hi lo y h0 h1 l0 l1 y0 y1 h w).mono fun _ _ ⟨e1, e2⟩ => ⟨e1, by rw [e2]; exact (below_alloc (below_alloc (below_alloc (Below.refl _ _) _) _) _).drew⟩
  · obtain ⟨k1, k2, k3⟩ := add_none hi lo y h0 h1 l0 l1 y0 y1 h
    rw [k1, k2, k3]
    exact (add_lo hi lo y h0 h1 l0 l1 y0 y1 h w).mono fun _ _ ⟨e1, e2⟩ => ⟨e1, by rw [e2]; exact below_alloc (below_alloc (below_alloc (Below.refl _ _) _) _) _⟩

/-- A wide number that the law keeps: its two cells, behind a call that only makes memory. -/
theorem walkInverse (a b hi lo : Int) (a0 : 0 ≤ a) (a1 : a ≤ 18446744073709551615) (b0 : 0 ≤ b) (b1 : b ≤ 18446744073709551615) (h0 : 0 ≤ hi) (h1 : hi ≤ 18446744073709551615) (l0 : 0 ≤ lo) (l1 : lo ≤ 18446744073709551615) (w : World) :
    Calls Try.prog 6 #[.int .u64 a, .int .u64 b, .int .u64 hi, .int .u64 lo] w fun e w' => e = .returned (.bool true) ∧ Below w.heap.size w w' := by
  have u := mHi_bd a b a0 a1 b0 b1
  have v := mLo_bd a b
  have hA := fun w => div_any (mHi a b) (mLo a b) b u.1 u.2 v.1 v.2 b0 b1 w
  have hB := fun w => div_any hi lo b h0 h1 l0 l1 b0 b1 w
  rcases (by omega : b = 0 ∨ 0 < b) with hz | hz
  · subst hz
    obtain ⟨e1, e2, e3⟩ := dv_zero (mHi a 0) (mLo a 0)
    rw [e1, e2, e3] at hA
    obtain ⟨f1, f2, f3⟩ := dv_zero hi lo
    rw [f1, f2, f3] at hB
    have HA := Lib.hid hA
    have HB := Lib.hid hB
    clear hA hB e1 e2 e3 f1 f2 f3
    go_enter Try.func6, Try.ntmps6
    go_wp2_with (go_at_call 10; (with_reducible refine (mul_any _ _ a0 a1 b0 b1 _).mono ?_); rintro e w' ⟨rfl, rfl⟩)
    refine (HA.out _).mono ?_
    rintro e w1 ⟨rfl, hb⟩
    have B1 : Hid (Below w.heap.size w w1) := ((Below.refl _ _).alloc (Nat.le_refl _) _).trans (hb.mono (by simp))
    clear hb
    go_wp2_with fail
    refine (HB.out _).mono ?_
    rintro e w2 ⟨rfl, hb⟩
    have c1 : w2.cell? ⟨w1.heap.size, 0, none⟩ = some (.int .u64 hi) := by rw [hb.cell (p := ⟨w1.heap.size, 0, none⟩) (by simp)]; simp [go_sem]
    have c2 : w2.cell? ⟨w1.heap.size, 1, none⟩ = some (.int .u64 lo) := by rw [hb.cell (p := ⟨w1.heap.size, 1, none⟩) (by simp)]; simp [go_sem]
    have B2 : Hid (Below w.heap.size w w2) := (B1.out.alloc B1.out.size _).trans (hb.mono (by have := B1.out.size; simp; omega))
    clear hb c1 c2
    go_wp2_with (go_at_call 12; (with_reducible refine (awake_any _).mono ?_); rintro e w' ⟨rfl, rfl⟩)
    go_ret
    exact ⟨rfl, B2.out.alloc B2.out.size _⟩
  · have hne : b ≠ 0 := by omega
    obtain ⟨e1, e2, e3⟩ := back_mul a0 a1 hz
    obtain ⟨f1, f2, f3⟩ := dv_ok (lo := mLo a b) hne e1
    rw [f1, f2, f3, e2, e3] at hA
    have HA := Lib.hid hA
    clear hA e1 e2 e3 f1 f2 f3
    rcases (by omega : b ≤ hi ∨ hi < b) with hr | hr
    · obtain ⟨f1, f2, f3⟩ := dv_range (lo := lo) hne hr
      rw [f1, f2, f3] at hB
      have HB := Lib.hid hB
      clear hB f1 f2 f3
      go_enter Try.func6, Try.ntmps6
      go_wp2_with (go_at_call 10; (with_reducible refine (mul_any _ _ a0 a1 b0 b1 _).mono ?_); rintro e w' ⟨rfl, rfl⟩)
      refine (HA.out _).mono ?_
      rintro e w1 ⟨rfl, hb⟩
      have B1 : Hid (Below w.heap.size w w1) := ((Below.refl _ _).alloc (Nat.le_refl _) _).trans (hb.mono (by simp))
      clear hb
      go_wp2_with fail
      refine (HB.out _).mono ?_
      rintro e w2 ⟨rfl, hb⟩
      have c1 : w2.cell? ⟨w1.heap.size, 0, none⟩ = some (.int .u64 hi) := by rw [hb.cell (p := ⟨w1.heap.size, 0, none⟩) (by simp)]; simp [go_sem]
      have c2 : w2.cell? ⟨w1.heap.size, 1, none⟩ = some (.int .u64 lo) := by rw [hb.cell (p := ⟨w1.heap.size, 1, none⟩) (by simp)]; simp [go_sem]
      have B2 : Hid (Below w.heap.size w w2) := (B1.out.alloc B1.out.size _).trans (hb.mono (by have := B1.out.size; simp; omega))
      clear hb c1 c2
      go_wp2_with (go_at_call 12; (with_reducible refine (awake_any _).mono ?_); rintro e w' ⟨rfl, rfl⟩)
      go_ret
      exact ⟨rfl, B2.out.alloc B2.out.size _⟩
    · obtain ⟨f1, f2, f3⟩ := dv_ok (lo := lo) hne hr
      rw [f1, f2, f3] at hB
      have HB := Lib.hid hB
      clear hB f1 f2 f3
      obtain ⟨q0, q1⟩ := qOf_bd h0 l0 l1 hr
      obtain ⟨r0, r1⟩ := rOf_bd (hi := hi) (lo := lo) hz
      obtain ⟨g1, g2, g3⟩ := back_div (d := b) h0 h1 l0 l1
      have HC := fun w => add_below (mHi (qOf hi lo b) b) (mLo (qOf hi lo b) b) (rOf hi lo b) (mHi_bd _ _ q0 q1 b0 b1).1 (mHi_bd _ _ q0 q1 b0 b1).2 (mLo_bd _ _).1 (mLo_bd _ _).2 r0 (by omega) w
      rw [g1, g2, g3] at HC
      have HM := fun w => mul_any (qOf hi lo b) b q0 q1 b0 b1 w
      have HC' := Lib.hid HC
      have HM' := Lib.hid HM
      clear HC HM g1 g2 g3 u v
      generalize mHi (qOf hi lo b) b = U at *
      generalize mLo (qOf hi lo b) b = V at *
      generalize qOf hi lo b = q at *
      generalize rOf hi lo b = r at *
      go_enter Try.func6, Try.ntmps6
      go_wp2_with (go_at_call 10; (with_reducible refine (mul_any _ _ a0 a1 b0 b1 _).mono ?_); rintro e w' ⟨rfl, rfl⟩)
      refine (HA.out _).mono ?_
      rintro e w1 ⟨rfl, hb⟩
      have B1 : Hid (Below w.heap.size w w1) := ((Below.refl _ _).alloc (Nat.le_refl _) _).trans (hb.mono (by simp))
      clear hb
      go_wp2_with fail
      refine (HB.out _).mono ?_
      rintro e w2 ⟨rfl, hb⟩
      have c1 : w2.cell? ⟨w1.heap.size, 0, none⟩ = some (.int .u64 hi) := by rw [hb.cell (p := ⟨w1.heap.size, 0, none⟩) (by simp)]; simp [go_sem]
      have c2 : w2.cell? ⟨w1.heap.size, 1, none⟩ = some (.int .u64 lo) := by rw [hb.cell (p := ⟨w1.heap.size, 1, none⟩) (by simp)]; simp [go_sem]
      have B2 : Hid (Below w.heap.size w w2) := (B1.out.alloc B1.out.size _).trans (hb.mono (by have := B1.out.size; simp; omega))
      clear hb
      go_wp2_with (go_at_call 10; (with_reducible refine (HM'.out _).mono ?_); rintro e w' ⟨rfl, rfl⟩)
      refine (HC'.out _).mono ?_
      rintro e w3 ⟨rfl, hb⟩
      have d1 : w3.cell? ⟨w1.heap.size, 0, none⟩ = some (.int .u64 hi) := cell_later c1 ((below_alloc (Below.refl _ _) _).trans (hb.mono (by simp)))
      have d2 : w3.cell? ⟨w1.heap.size, 1, none⟩ = some (.int .u64 lo) := cell_later c2 ((below_alloc (Below.refl _ _) _).trans (hb.mono (by simp)))
      have g1 : (w3.alloc (.cells #[.int .u64 hi, .int .u64 lo] 28)).cell? ⟨w1.heap.size, 0, none⟩ = some (.int .u64 hi) := cell_later d1 (below_alloc (Below.refl _ _) _)
      have g2 : (w3.alloc (.cells #[.int .u64 hi, .int .u64 lo] 28)).cell? ⟨w1.heap.size, 1, none⟩ = some (.int .u64 lo) := cell_later d2 (below_alloc (Below.refl _ _) _)
      have B3 : Hid (Below w.heap.size w w3) := (B2.out.alloc B2.out.size _).trans (hb.mono (by have := B2.out.size; simp; omega))
      clear hb c1 c2
      go_wp2_with (go_at_call 12; (with_reducible refine (awake_any _).mono ?_); rintro e w' ⟨rfl, rfl⟩)
      go_ret
      exact ⟨rfl, (B3.out.alloc B3.out.size _).alloc (by have := B3.out.size; simp; omega) _⟩
end Go.Proofs.Ytnkgofhggmcogaa
