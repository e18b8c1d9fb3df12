/-
  Layer 7: contract of the statements' helper names.
-/
import Derived.Test.YthabmbjjpgcceaaDoorLbRefM
import Derived.Test.YthabmbjjpgcceaaDoorLbAwake
namespace Go.Proofs.YthabmbjjpgcceaaDoor
open Go.ChangeShapes Go.WideShapes Go.ChangeAt Go.RowKit
set_option linter.unusedVariables false

set_option maxHeartbeats 2000000 in
/-- Valid, Fold and Runes answer as the reference does. -/
theorem names_any (s : ByteArray) (hs : s.size ≤ 2000000) (w : World) : Calls Tryd.prog 11 #[.string s] w (TrueAns w) := by
  have H1 := Lib.hid (fun w => fold_name s w)
  have H2 := Lib.hid (fun w => refFold_any s w hs)
  have H3 := Lib.hid (fun w => valid_any s w)
  have H4 := Lib.hid (fun w => validName_any s w hs)
  have H5 := Lib.hid (fun w => runes_name s w)
  have H6 := Lib.hid (fun w => refRunes_any s w hs)
  unfold FoldAns at H1 H2
  unfold RunesAns at H5 H6
  generalize fS s = x at *
  generalize fE s = y at *
  generalize (nam s).isSome = b at *
  generalize rnB s = z at *
  have t1 : (b == b) = true := by simp
  have t2 : (x.toList == x.toList) = true := by simp
  have t3 : (y == y) = true := by simp
  have t4 : (z == z) = true := by simp
  unfold TrueAns
  go_enter Tryd.func11, Tryd.ntmps11
  go_wp2_with fail
  (with_reducible refine (H1.out _).mono ?_); rintro e w1 ⟨rfl, hb⟩
  have B1 := Lib.hid hb
  clear hb
  go_wp2_with fail
  (with_reducible refine (H2.out _).mono ?_); rintro e w2 ⟨rfl, hb⟩
  have B2 := Lib.hid (B1.out.trans (hb.mono B1.out.size))
  clear hb B1
  go_wp2_with fail
  (with_reducible refine (H3.out _).mono ?_); rintro e w3 ⟨rfl, hb⟩
  have B3 := Lib.hid (B2.out.trans (hb.mono B2.out.size))
  clear hb B2
  go_wp2_with fail
  (with_reducible refine (H4.out _).mono ?_); rintro e w4 ⟨rfl, hb⟩
  have B4 := Lib.hid (B3.out.trans (hb.mono B3.out.size))
  clear hb B3
  go_wp2_with fail
  (with_reducible refine (H5.out _).mono ?_); rintro e w5 ⟨rfl, hb⟩
  have B5 := Lib.hid (B4.out.trans (hb.mono B4.out.size))
  clear hb B4
  go_wp2_with fail
  (with_reducible refine (H6.out _).mono ?_); rintro e w6 ⟨rfl, hb⟩
  have B6 := Lib.hid (B5.out.trans (hb.mono B5.out.size))
  clear hb B5
  go_wp2
  go_ret
  exact ⟨rfl, B6.out⟩
end Go.Proofs.YthabmbjjpgcceaaDoor

