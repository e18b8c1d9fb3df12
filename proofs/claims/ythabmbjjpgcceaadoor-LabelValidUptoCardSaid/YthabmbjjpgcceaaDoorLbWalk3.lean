/-
  Layer 7: the walk of the statement LabelValid, where the string has at most 1048576 bytes.
-/
import Derived.Test.YthabmbjjpgcceaaDoorLbLaws
import Derived.Test.YthabmbjjpgcceaaDoorLbWalk1
namespace Go.Proofs.YthabmbjjpgcceaaDoor
open Go.ChangeShapes Go.WideShapes Go.ChangeAt Go.RowKit
set_option linter.unusedVariables false

set_option maxHeartbeats 4000000 in
theorem walkValid (a : Option Addr) (len cap : Nat) (s : ByteArray) (hs : s.size ≤ 1048576) (w : World) (he : Elems w.heap.size a len w) (hw : ML w) :
    Calls Tryd.prog 3 #[.slice a len cap, .string s] w fun e w' => e = .returned (.bool true) ∧ Below w.heap.size w w' := by
  have H0 := Lib.hid (Has.new (cap := cap) he)
  have HW := Lib.hid hw
  clear he hw
  go_enter Tryd.func3, Tryd.ntmps3
  go_wp2_with fail
  (with_reducible refine (new_any a len cap w).mono ?_); rintro e w1 ⟨rfl, hw1⟩
  have H1 := Lib.hid (show Has w.heap.size a len cap 0 w w1 by rw [hw1]; exact H0.out)
  clear hw1 H0
  go_wp2
  go_loopw [6] (fun s6 wr => ∃ k p : Nat, k ≤ 5 ∧ p ≤ 2 * k ∧ s6 = .int .i64 k ∧ Hid (Has w.heap.size a len cap p w wr)) (fun s6 _ => 5 - (intOf s6).toNat)
  case atStart => exact ⟨0, 0, by omega, by omega, rfl, H1⟩
  case round =>
    obtain ⟨k, p, hk, hp, rfl, HR⟩ := hrel
    clear H1
    by_cases hlt : k < 5
    · have hlt' : (k : Int) < 5 := by omega
      go_wp2_with fail
      (with_reducible refine (has_name w.heap.size a len cap p w wr HR.out (by omega)).mono ?_); rintro e w2 ⟨x, hx, rfl, h2, _⟩
      have H2 := Lib.hid h2
      have hxs := name_size hx
      clear h2 HR hx
      go_wp2_with fail
      (with_reducible refine (names_any x (by omega) _).mono ?_); rintro e w3 ⟨rfl, hb⟩
      have H3 := Lib.hid (H2.out.below hb)
      clear hb H2
      go_wp2_with fail
      (with_reducible refine (has_name w.heap.size a len cap _ w w3 H3.out (by omega)).mono ?_); rintro e w4 ⟨y, hy, rfl, h4, _⟩
      have H4 := Lib.hid h4
      have hys := name_size hy
      clear h4 H3 hy
      go_wp2_with fail
      (with_reducible refine (names_any (x ++ y) (by rw [ByteArray.size_append]; omega) _).mono ?_); rintro e w5 ⟨rfl, hb⟩
      have H5 := Lib.hid (H4.out.below hb)
      clear hb H4
      go_wp2_with fail
      (with_reducible refine (names_any (x ++ s) (by rw [ByteArray.size_append]; omega) _).mono ?_); rintro e w6 ⟨rfl, hb⟩
      have H6 := Lib.hid (H5.out.below hb)
      clear hb H5
      go_wp2
      go_roundw
      case rel => exact ⟨k + 1, p + 1 + 1, by omega, by omega, by go_num, H6⟩
      case measure => simp [intOf]; omega
    · obtain rfl : k = 5 := by omega
      have hge : ¬ ((5 : Nat) : Int) < 5 := by omega
      by_cases hl : 200 < s.size
      · have hl' : (200 : Int) < s.size := by omega
        go_wp2
        go_ret
        exact ⟨rfl, HR.out.2⟩
      · have hl' : ¬ (200 : Int) < s.size := by omega
        go_wp2_with fail
        (with_reducible refine (names_any s (by omega) _).mono ?_); rintro e w6 ⟨rfl, hb⟩
        have H6 := Lib.hid (HR.out.below hb)
        clear hb HR
        go_wp2_with fail
        (with_reducible refine (awake_any _ (H6.out.ml HW.out)).mono ?_); rintro e v9 ⟨rfl, hb⟩
        have KZ := Lib.hid (H6.out.below hb)
        clear hb
        go_wp2
        go_ret
        exact ⟨rfl, KZ.out.2⟩
end Go.Proofs.YthabmbjjpgcceaaDoor

