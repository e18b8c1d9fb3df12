/-
  Layer 7: the walk of the statement LabelCompare, where each string has at most 1048576 bytes.
-/
import Derived.Test.YthabmbjjpgcceaaDoorLbLaws
import Derived.Test.YthabmbjjpgcceaaDoorLbWalk1
namespace Go.Proofs.YthabmbjjpgcceaaDoor
open Go.ChangeShapes Go.WideShapes Go.ChangeAt Go.RowKit
set_option linter.unusedVariables false

set_option maxHeartbeats 4000000 in
theorem walkCompare (a : Option Addr) (len cap : Nat) (s t : ByteArray) (hs : s.size ≤ 1048576) (ht : t.size ≤ 1048576) (w : World) (he : Elems w.heap.size a len w) (hw : ML w) :
    Calls Tryd.prog 5 #[.slice a len cap, .string s, .string t] w fun e w' => e = .returned (.bool true) ∧ Below w.heap.size w w' := by
  have H0 := Lib.hid (Has.new (cap := cap) he)
  have HW := Lib.hid hw
  clear he hw
  go_enter Tryd.func5, Tryd.ntmps5
  go_wp2_with fail
  (with_reducible refine (new_any a len cap w).mono ?_); rintro e w1 ⟨rfl, hw1⟩
  have H1 := Lib.hid (show Has w.heap.size a len cap 0 w w1 by rw [hw1]; exact H0.out)
  clear hw1 H0
  go_wp2
  go_loopw [8] (fun s8 wr => ∃ k p : Nat, k ≤ 6 ∧ p ≤ 2 * k ∧ s8 = .int .i64 k ∧ Hid (Has w.heap.size a len cap p w wr)) (fun s8 _ => 6 - (intOf s8).toNat)
  case atStart => exact ⟨0, 0, by omega, by omega, rfl, H1⟩
  case round =>
    obtain ⟨k, p, hk, hp, rfl, HR⟩ := hrel
    clear H1
    by_cases hlt : k < 6
    · have hlt' : (k : Int) < 6 := by omega
      go_wp2_with fail
      (with_reducible refine (has_name w.heap.size a len cap p w wr HR.out (by omega)).mono ?_); rintro e w2 ⟨x, hx, rfl, h2, _⟩
      have H2 := Lib.hid h2
      have hxs := name_size hx
      clear h2 HR hx
      go_wp2_with fail
      (with_reducible refine (has_name w.heap.size a len cap _ w w2 H2.out (by omega)).mono ?_); rintro e w4 ⟨y, hy, rfl, h4, _⟩
      have H4 := Lib.hid h4
      have hys := name_size hy
      clear h4 H2 hy
      have C1 := Lib.hid (fun w => compare_any x y w)
      have C2 := Lib.hid (fun w => refCmp_any x y (by omega) (by omega) w)
      have C3 := Lib.hid (fun w => compare_any s x w)
      have C4 := Lib.hid (fun w => refCmp_any s x (by omega) (by omega) w)
      unfold CmpAns at C1 C2 C3 C4
      generalize cmpO (nam x) (nam y) = c1 at *
      generalize cmpO (nam s) (nam x) = c2 at *
      have t1 : (c1 != c1) = false := by simp
      have t2 : (c2 != c2) = false := by simp
      go_wp2_with fail
      (with_reducible refine (C1.out _).mono ?_); rintro e w5 ⟨rfl, hb⟩
      have H5 := Lib.hid (H4.out.below hb)
      clear hb H4
      go_wp2_with fail
      (with_reducible refine (C2.out _).mono ?_); rintro e w6 ⟨rfl, hb⟩
      have H6 := Lib.hid (H5.out.below hb)
      clear hb H5
      go_wp2_with fail
      (with_reducible refine (C3.out _).mono ?_); rintro e w7 ⟨rfl, hb⟩
      have H7 := Lib.hid (H6.out.below hb)
      clear hb H6
      go_wp2_with fail
      (with_reducible refine (C4.out _).mono ?_); rintro e w8 ⟨rfl, hb⟩
      have H8 := Lib.hid (H7.out.below hb)
      clear hb H7
      go_wp2
      go_roundw
      case rel => exact ⟨k + 1, p + 1 + 1, by omega, by omega, by go_num, H8⟩
      case measure => simp [intOf]; omega
    · obtain rfl : k = 6 := by omega
      have hge : ¬ ((6 : Nat) : Int) < 6 := by omega
      by_cases hl : 100 < s.size
      · have hl' : (100 : Int) < s.size := by omega
        go_wp2
        go_ret
        exact ⟨rfl, HR.out.2⟩
      · have hl' : ¬ (100 : Int) < s.size := by omega
        by_cases hm : 100 < t.size
        · have hm' : (100 : Int) < t.size := by omega
          go_wp2
          go_ret
          exact ⟨rfl, HR.out.2⟩
        · have hm' : ¬ (100 : Int) < t.size := by omega
          have C1 := Lib.hid (fun w => compare_any s t w)
          have C2 := Lib.hid (fun w => refCmp_any s t (by omega) (by omega) w)
          unfold CmpAns at C1 C2
          generalize cmpO (nam s) (nam t) = c1 at *
          have t1 : (c1 == c1) = true := by simp
          go_wp2_with fail
          (with_reducible refine (C1.out _).mono ?_); rintro e w5 ⟨rfl, hb⟩
          have H5 := Lib.hid (HR.out.below hb)
          clear hb HR
          go_wp2_with fail
          (with_reducible refine (C2.out _).mono ?_); rintro e w6 ⟨rfl, hb⟩
          have H6 := Lib.hid (H5.out.below hb)
          clear hb H5
          go_wp2_with fail
          (with_reducible refine (awake_any _ (H6.out.ml HW.out)).mono ?_); rintro e v9 ⟨rfl, hb⟩
          have KZ := Lib.hid (H6.out.below hb)
          clear hb
          go_wp2
          go_ret
          exact ⟨rfl, KZ.out.2⟩
end Go.Proofs.YthabmbjjpgcceaaDoor

