/-
  Layer 6: the walk of the statement about sequence numbers (BitmapSequence). Every input; no condition.
-/
import Derived.Test.YtimnndjegfiniaaBmLists
import Derived.Deep.RegionWith
namespace Go.Proofs.Ytimnndjegfiniaa
open Go.ChangeShapes Go.WideShapes Go.ChangeAt Go.RowKit
set_option linter.unusedVariables false

set_option maxRecDepth 100000 in
set_option maxHeartbeats 8000000 in
theorem walkSeq (A : Option Addr) (len cap : Nat) (a b n : Int) (w : World) (he : Elems w.heap.size A len w) :
    Calls Try.prog 3 #[.slice A len cap, .int .i64 a, .int .i64 b, .int .i64 n] w fun e w' => e = .returned (.bool true) ∧ Below w.heap.size w w' := by
  have hg := Lib.hid (Has.new (cap := cap) he)
  clear he
  go_enter Try.func3, Try.ntmps3
  go_wp2_with (go_at_call 8; (with_reducible refine (new_any A len cap _).mono ?_); rintro e w' ⟨rfl, rfl⟩)
  go_loopw [10] (fun i wr => ∃ j q : Nat, j ≤ 5 ∧ i = .int .i64 j ∧ q ≤ 4 * j ∧ Hid (Has w.heap.size A len cap q w wr)) (fun i _ => 5 - (intOf i).toNat)
  case atStart => exact ⟨0, 0, by omega, rfl, by omega, hg⟩
  case round =>
    obtain ⟨j, q, hj, rfl, hq, HJ⟩ := hrel
    clear hg
    by_cases hlt : j < 5
    · have hlt' : (j : Int) < 5 := by omega
      have d1 : (1 : Int) ≤ 9 := by decide
      have d2 : (9 : Int) ≤ 1000000000 := by decide
      have k0 : q ≤ 1000000000 := by omega
      have k1 : q + 1 ≤ 1000000000 := by omega
      have hne : wr.heap.size ≠ w.heap.size := by have := HJ.out.1.lt; omega
      have HW := in9 wr
      have HA := HJ.out.alloc (.cells list9 3)
      unfold list9 at HW HA
      clear HJ
      go_wp2_with fail
      generalize wr.alloc _ = W at *
      have HW := Lib.hid HW
      have HA1 := HA.drew
      clear HA
      go_region_with (first
        | (go_at_call 9; (with_reducible refine (has_next w.heap.size A len cap q 9 w _ (by assumption) d1 d2 k0).mono ?_); rintro e w1 ⟨r, r0, r1, rfl, hg1, ho1⟩; obtain ⟨m, rfl⟩ := Int.eq_ofNat_of_zero_le r0; obtain ⟨x, x0, x1, hx0⟩ := HW.out m (by omega); have hx := ho1.keep hne (show W.drew.cell? _ = _ from hx0); clear hx0)
        | (go_at_call 9; (with_reducible refine (has_next w.heap.size A len cap (q + 1) 9 w _ (by assumption) d1 d2 k1).mono ?_); rintro e w2 ⟨s, s0, s1, rfl, hg2, ho2⟩; obtain ⟨m', rfl⟩ := Int.eq_ofNat_of_zero_le s0; obtain ⟨y, y0, y1, hy0⟩ := HW.out m' (by omega); have hy := ho2.keep hne (ho1.keep hne (show W.drew.cell? _ = _ from hy0)); have hx2 := ho2.keep hne hx; clear hy0))
      all_goals
        have HG2 := Lib.hid hg2
        clear hg2 hg1 ho1 ho2 hx hx2 hy HW HA1 r0 r1 s0 s1 hlt d1 d2 k0 k1
        go_wp2_with fail
        (with_reducible refine (has_next w.heap.size A len cap (q + 1 + 1) 140 w _ HG2.out (by decide) (by decide) (by omega)).mono ?_)
        rintro e w3 ⟨t, t0, t1, rfl, hg3, _⟩
        have HG3 := Lib.hid hg3
        clear hg3 HG2
        go_wp2_with fail
        (with_reducible refine (sequence_any _ _ _ _).mono ?_); rintro e w' ⟨rfl, rfl⟩
        go_wp2_with fail
        (with_reducible refine (sequence_any _ _ _ _).mono ?_); rintro e w' ⟨rfl, rfl⟩
        go_wp2_with fail
        (with_reducible refine (has_next w.heap.size A len cap (q + 1 + 1 + 1) 3 w _ (HG3.out.alloc _) (by decide) (by decide) (by omega)).mono ?_)
        rintro e w4 ⟨u, u0, u1, rfl, hg4, ho4⟩
        obtain ⟨l, rfl⟩ := Int.eq_ofNat_of_zero_le u0
        obtain ⟨z, _, _, hz0⟩ := in3 w3 l (by omega)
        have hz := ho4.keep (by have := HG3.out.1.lt; omega) hz0
        have HG4 := Lib.hid hg4
        clear hg4 ho4 hz0 HG3
        go_wp2_with fail
        (with_reducible refine (sequence_any _ _ _ _).mono ?_); rintro e w' ⟨rfl, rfl⟩
        go_wp2
        go_roundw
        case rel => exact ⟨j + 1, q + 1 + 1 + 1 + 1, by omega, by go_num, by omega, HG4⟩
        case measure => simp [intOf]; omega
    · obtain rfl : j = 5 := by omega
      have HB := Lib.hid (HJ.out.2)
      clear HJ
      go_wp2_with fail
      (with_reducible refine (sequence_any _ _ _ _).mono ?_); rintro e w' ⟨rfl, rfl⟩
      go_wp2_with fail
      (with_reducible refine (awake_any _).mono ?_); rintro e w5 ⟨rfl, hb⟩
      go_wp2
      go_ret
      exact ⟨rfl, HB.out.trans (hb.mono HB.out.size)⟩
end Go.Proofs.Ytimnndjegfiniaa

