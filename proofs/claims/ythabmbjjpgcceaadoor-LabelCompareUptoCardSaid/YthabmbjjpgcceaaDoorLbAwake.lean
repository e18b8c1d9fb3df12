/-
  Layer 7: contract of the statements' helper awake.
-/
import Derived.Test.YthabmbjjpgcceaaDoorLbMatch
namespace Go.Proofs.YthabmbjjpgcceaaDoor
open Go.ChangeShapes Go.WideShapes Go.ChangeAt Go.RowKit
set_option linter.unusedVariables false

def TrueAns (w : World) (e : Ending) (w' : World) : Prop := e = .returned (.bool true) ∧ Below w.heap.size w w'
theorem aw1 : nam ⟨#[195, 132, 66, 45, 49]⟩ = some [228, 98, 45, 49] := by decide +kernel
theorem aw5 : nam ⟨#[195, 164, 98, 45, 49]⟩ = some [228, 98, 45, 49] := by decide +kernel
theorem aw2 : mtB ⟨#[97, 42, 99, 42]⟩ ⟨#[65, 66, 67]⟩ = true := by decide +kernel
theorem aw3 : mtB ⟨#[42, 98]⟩ ⟨#[97, 98, 99]⟩ = false := by decide +kernel
theorem aw4 : (⟨(encs [228, 98, 45, 49]).toArray⟩ : ByteArray) = ⟨#[195, 164, 98, 45, 49]⟩ := by
  have : encs [228, 98, 45, 49] = [195, 164, 98, 45, 49] := by decide +kernel
  rw [this]
set_option maxHeartbeats 2000000 in
theorem awake_any (w : World) (hw : ML w) : Calls Tryd.prog 12 #[] w (TrueAns w) := by
  have H1 := Lib.hid (fun w => fold_name ⟨#[195, 132, 66, 45, 49]⟩ w)
  have H2 := Lib.hid (fun w => runes_name ⟨#[195, 164, 98, 45, 49]⟩ w)
  unfold FoldAns fS fE at H1
  unfold RunesAns rnB at H2
  rw [aw1] at H1
  rw [aw5] at H2
  simp only [aw4] at H1
  have H3 := Lib.hid (fun w hw => match_any ⟨#[97, 42, 99, 42]⟩ ⟨#[65, 66, 67]⟩ w hw)
  have H4 := Lib.hid (fun w hw => match_any ⟨#[42, 98]⟩ ⟨#[97, 98, 99]⟩ w hw)
  unfold MtAns at H3 H4
  rw [aw2] at H3
  rw [aw3] at H4
  have hwh := Lib.hid hw
  clear hw
  unfold TrueAns
  go_enter Tryd.func12, Tryd.ntmps12
  go_wp2_with fail
  (with_reducible refine (H1.out _).mono ?_); rintro e w1 ⟨rfl, hb⟩
  have B1 := Lib.hid hb
  clear hb
  go_wp2_with fail
  (with_reducible refine (H2.out _).mono ?_); rintro e w2 ⟨rfl, hb⟩
  have B2 := Lib.hid (B1.out.trans (hb.mono B1.out.size))
  clear hb B1
  go_wp2_with fail
  (with_reducible refine (H3.out _ (hwh.out.below B2.out)).mono ?_); rintro e w3 ⟨rfl, hb⟩
  have B3 := Lib.hid (B2.out.trans (hb.mono B2.out.size))
  clear hb B2
  go_wp2_with fail
  (with_reducible refine (H4.out _ (hwh.out.below B3.out)).mono ?_); rintro e w4 ⟨rfl, hb⟩
  have B4 := Lib.hid (B3.out.trans (hb.mono B3.out.size))
  clear hb B3
  go_wp2
  go_ret
  exact ⟨rfl, B4.out⟩
end Go.Proofs.YthabmbjjpgcceaaDoor

