/-
  Layer 12: the walk of the statement that normalizes (TagsNormalized). Every input; no condition.
-/
import Derived.Test.YthmcdnomphmbiaaTgHelp
import Derived.Test.YthmcdnomphmbiaaLenGen
import Derived.Deep.LoopGhost
import Derived.LoopTactic
namespace Go.Proofs.Ythmcdnomphmbiaa
open Go.ChangeShapes Go.WideShapes Go.ChangeAt Go.RowKit
set_option linter.unusedVariables false

def bdL : List Int := [0, 1, -1, 1099511627776, -1099511627776, 1099511627777, 1500]
set_option maxRecDepth 100000 in
set_option maxHeartbeats 8000000 in
theorem walkNormalized (A : Option Addr) (len cap : Nat) (b x : Int) (w : World) (he : Elems w.heap.size A len w) :
    Calls Try.prog 6 #[.slice A len cap, .int .i64 b, .int .i64 x] w (Calm (.bool true) w) := by
  have HG := Lib.hid (Has.new (cap := cap) he)
  have HN := Lib.hid (fun b x w => normal_any b x w)
  have HA := Lib.hid (fun w => awake12_any w)
  clear he
  unfold Calm
  go_enter Try.func6, Try.ntmps6
  go_wp2_with fail
  (with_reducible refine (new_any A len cap _).mono ?_); rintro e w' ⟨rfl, rfl⟩
  go_wp2
  go_loopw [8] (fun s8 wr => ∃ k q : Nat, k ≤ 5 ∧ s8 = .int .i64 k ∧ q ≤ 3 * k ∧ Hid (Has w.heap.size A len cap q w wr)) (fun s8 _ => 5 - (intOf s8).toNat)
  case atStart => exact ⟨0, 0, by omega, rfl, by omega, HG⟩
  case round =>
    obtain ⟨k, q, hk, rfl, hq, HG⟩ := hrel
    by_cases hlt : k < 5
    · have hlt' : (k : Int) < 5 := by omega
      have HX := Lib.hid (has_next w.heap.size A len cap q 7 w (wr.alloc (.cells #[.int .i64 0, .int .i64 1, .int .i64 (-1), .int .i64 1099511627776, .int .i64 (-1099511627776), .int .i64 1099511627777, .int .i64 1500] 2)) (HG.out.alloc _) (by omega) (by omega) (by omega))
      have hlb := HG.out.1.lt
      clear HG
      go_wp2_with fail
      (with_reducible refine HX.out.mono ?_)
      rintro e w1 ⟨z, z0, z1, rfl, hg1, ho1⟩
      obtain ⟨zz, rfl⟩ := Int.eq_ofNat_of_zero_le z0
      obtain ⟨y, _, hc⟩ := pickN (L := bdL) rfl ho1 hlb (n := zz) (by show zz < 7; omega)
      have HX := Lib.hid (has_next w.heap.size A len cap (q + 1) 18 w w1 hg1 (by omega) (by omega) (by omega))
      clear hg1 ho1 hlb
      go_wp2_with fail
      (with_reducible refine HX.out.mono ?_)
      rintro e w2 ⟨v, v0, v1, rfl, hg2, ho2⟩
      have HG2 := Lib.hid hg2
      clear hg2 ho2
      go_wp2_with fail
      (with_reducible refine (HN.out _ _ _).mono ?_); rintro e w3 ⟨rfl, hb⟩
      have HX := Lib.hid (has_next w.heap.size A len cap (q + 1 + 1) 16 w w3 (HG2.out.below hb) (by omega) (by omega) (by omega))
      clear hb HG2
      go_wp2_with fail
      (with_reducible refine HX.out.mono ?_)
      rintro e w4 ⟨u, u0, u1, rfl, hg4, ho4⟩
      have hw : IntKind.i64.wrap (1 + u) = 1 + u := IntWalk.i64_in _ (by omega)
      have HG4 := Lib.hid hg4
      clear hg4 ho4
      go_wp2_with fail
      (with_reducible refine (HN.out _ _ _).mono ?_); rintro e w5 ⟨rfl, hb⟩
      have HG5 := Lib.hid (HG4.out.below hb)
      clear hb HG4
      go_wp2
      go_roundw
      case rel => exact ⟨k + 1, q + 1 + 1 + 1, by omega, by go_num, by omega, HG5⟩
      case measure => simp [intOf]; omega
    · obtain rfl : k = 5 := by omega
      go_wp2_with fail
      (with_reducible refine (HN.out _ _ _).mono ?_); rintro e w3 ⟨rfl, hb⟩
      have HG3 := Lib.hid (HG.out.below hb)
      clear hb HG
      go_wp2_with fail
      (with_reducible refine (HA.out _).mono ?_); rintro e w4 ⟨rfl, hb⟩
      have HG4 := Lib.hid (HG3.out.below hb)
      clear hb HG3
      go_wp2
      go_ret
      exact ⟨rfl, HG4.out.2⟩
end Go.Proofs.Ythmcdnomphmbiaa

