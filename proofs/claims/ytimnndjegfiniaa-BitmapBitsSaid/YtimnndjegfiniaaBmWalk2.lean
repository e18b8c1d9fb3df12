/-
  Layer 6: the walk of the statement about bits (BitmapBits). Every input; no condition.
-/
import Derived.Test.YtimnndjegfiniaaBmLists
import Derived.Deep.RegionWith
import Derived.Deep.DeepCutAuto
import Derived.Deep.DrawnRows
namespace Go.Proofs.Ytimnndjegfiniaa
open Go.ChangeShapes Go.WideShapes Go.ChangeAt Go.RowKit
set_option linter.unusedVariables false
attribute [local go_sem ↓] Go.wp_at_zero Go.wp_at_succ

set_option maxRecDepth 100000 in
set_option maxHeartbeats 8000000 in
theorem walkBits (A : Option Addr) (len cap : Nat) (b x s : Int) (hx : Wd x) (w : World) (he : Elems w.heap.size A len w) :
    Calls Try.prog 4 #[.slice A len cap, .int .i64 b, .int .u64 x, .int .i64 s] w fun e w' => e = .returned (.bool true) ∧ Below w.heap.size w w' := by
  have hg := Lib.hid (Has.new (cap := cap) he)
  have HX := Lib.hid hx
  clear he hx
  go_enter Try.func4, Try.ntmps4
  go_wp2_with (go_at_call 8; (with_reducible refine (new_any A len cap _).mono ?_); rintro e w' ⟨rfl, rfl⟩)
  go_loopw [10] (fun i wr => ∃ j q : Nat, j ≤ 5 ∧ i = .int .i64 j ∧ q ≤ 4 * j ∧ Hid (Has w.heap.size A len cap q w wr)) (fun i _ => 5 - (intOf i).toNat)
  case atStart => exact ⟨0, 0, by omega, rfl, by omega, hg⟩
  case round =>
    obtain ⟨j, q, hj, rfl, hq, HJ⟩ := hrel
    clear hg
    by_cases hlt : j < 5
    · have hlt' : (j : Int) < 5 := by omega
      go_upto_region 5 with fail
      go_cut [11] (fun s wx => ∃ (g : Nat) (B X : Int), s = .pointer (some ⟨g, 0, none⟩) ∧ -65536 ≤ B ∧ B ≤ 65537 ∧ Hid (Wd X) ∧ w.heap.size < g ∧ Hid (wx.cell? ⟨g, 0, none⟩ = some (.int .i64 B)) ∧ Hid (wx.cell? ⟨g, 1, none⟩ = some (.int .u64 X)) ∧ Hid (Has w.heap.size A len cap (q + 2) w wx))
      case first =>
        have d1 : (1 : Int) ≤ 6 := by decide
        have d2 : (6 : Int) ≤ 1000000000 := by decide
        have k0 : q ≤ 1000000000 := by omega
        have k1 : q + 1 ≤ 1000000000 := by omega
        have HA := HJ.out
        have hlo : w.heap.size < wr.heap.size := HA.1.lt
        have hpa := past_alloc
        have ON := Lib.hid on6
        unfold list6 at ON
        go_region_with (first
          | (go_at_call 9; (with_reducible refine (has_next w.heap.size A len cap q 6 w _ (by repeat (first | assumption | refine Has.alloc ?_ _ | refine Has.drew ?_)) d1 d2 k0).mono ?_); rintro e w1 ⟨r, r0, r1, rfl, hg1, ho1⟩; obtain ⟨m, rfl⟩ := Int.eq_ofNat_of_zero_le r0; obtain ⟨P, P0, P1, hP⟩ := ON.out m (by omega); obtain ⟨hc1, hf1, hs1⟩ := past_call ho1; (try simp at hs1); clear ho1; have hlo1 : w.heap.size < w1.heap.size := (by omega); (try (have hs1a : wr.heap.size < w1.heap.size := (by omega))); (try (have hs1b : wr.heap.size + 1 < w1.heap.size := (by omega))))
          | (go_at_call 12; (with_reducible refine (has_uint64 w.heap.size A len cap (q + 1) w _ (by repeat (first | assumption | refine Has.alloc ?_ _ | refine Has.drew ?_)) k1).mono ?_); rintro e w2 ⟨X, X0, X1, rfl, hg2, ho2⟩; obtain ⟨hc2, hf2, hs2⟩ := past_call ho2; (try simp at hs2); clear ho2; have hlo2 : w.heap.size < w2.heap.size := (by omega); (try (have hs2a : w1.heap.size < w2.heap.size := (by omega))); (try (have hs2c : wr.heap.size < w2.heap.size := (by omega))); (try (have hs2d : wr.heap.size + 1 < w2.heap.size := (by omega))); (try (have hs2b : w1.heap.size + 1 < w2.heap.size := (by omega)))))
        all_goals
          go_wp2_with fail
          go_meet
          have HA2 := hg2
          refine ⟨_, P, X, rfl, P0, P1, Lib.hid ⟨X0, X1⟩, ?_, Lib.hid ?_, Lib.hid ?_, Lib.hid ?_⟩
          · first | assumption | omega
          · first | (go_simp; done) | (refine put0 ?_; go_simp; done)
          · first | (go_simp; done) | (refine put1 ?_; go_simp; done)
          · repeat (first | exact hg2 | refine Has.alloc ?_ _ | refine Has.drew ?_ | refine Has.store ?_ (by first | assumption | omega) _ _)
      case rest =>
        obtain ⟨g, B, X, rfl, B0, B1, HXX, hgl, HC0, HC1, HJ2⟩ := hcut
        clear HJ
        have hne : g ≠ w.heap.size := by omega
        have HA := HJ2.out.drew
        have c0 := HC0.out
        have c1 := HC1.out
        have e0 : wc.drew.cell? ⟨g, 0, none⟩ = some (.int .i64 B) := c0
        have e1 : wc.drew.cell? ⟨g, 1, none⟩ = some (.int .u64 X) := c1
        have k2 : q + 2 ≤ 1000000000 := by omega
        have k3 : q + 2 + 1 ≤ 1000000000 := by omega
        have d3 : (1 : Int) ≤ 80 := by decide
        have d4 : (80 : Int) ≤ 1000000000 := by decide
        have d5 : (1 : Int) ≤ 70 := by decide
        have d6 : (70 : Int) ≤ 1000000000 := by decide
        clear HC0 HC1 HJ2 hlt'
        go_wp2_with fail
        go_region_with (first
          | (go_at_call 9; (with_reducible refine (has_next w.heap.size A len cap (q + 2) 80 w _ (by assumption) d3 d4 k2).mono ?_); rintro e w1 ⟨r, r0, r1, rfl, hg1, ho1⟩; have f0 := ho1.keep hne e0; have f1 := ho1.keep hne e1; clear ho1)
          | (go_at_call 9; (with_reducible refine (has_next w.heap.size A len cap (q + 2 + 1) 70 w _ (by assumption) d5 d6 k3).mono ?_); rintro e w3 ⟨s, s0, s1, rfl, hg3, ho3⟩; have f0 := ho3.keep (b := g) (o := 0) (v := .int .i64 B) hne (by assumption); have f1 := ho3.keep (b := g) (o := 1) (v := .int .u64 X) hne (by assumption); clear ho3)
          | (go_at_call 13; (with_reducible refine (sets_any B X _ HXX.out _).mono ?_); rintro e w2 ⟨rfl, hb2⟩; have hg2 := Has.below (by assumption) hb2; have f0 := cell_later (b := g) (o := 0) (v := .int .i64 B) (by assumption) hb2; have f1 := cell_later (b := g) (o := 1) (v := .int .u64 X) (by assumption) hb2; clear hb2))
        all_goals
          go_wp2
          go_roundw
          case rel => exact ⟨j + 1, q + 2 + 1 + 1, by omega, by go_num, by omega, Lib.hid (by assumption)⟩
          case measure => simp [intOf]; omega
    · obtain rfl : j = 5 := by omega
      have HB := Lib.hid (HJ.out.2)
      clear HJ
      go_wp2_with fail
      (with_reducible refine (sets_any b x s HX.out _).mono ?_); rintro e w4 ⟨rfl, hb4⟩
      have HB4 := Lib.hid (HB.out.trans (hb4.mono HB.out.size))
      clear hb4 HB
      go_wp2_with fail
      (with_reducible refine (awake_any _).mono ?_); rintro e w5 ⟨rfl, hb⟩
      go_wp2
      go_ret
      exact ⟨rfl, HB4.out.trans (hb.mono HB4.out.size)⟩
end Go.Proofs.Ytimnndjegfiniaa

