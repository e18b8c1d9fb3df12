/-
  Layer 7: the walk of the statement LabelRunes. Every rune, every byte; no condition but what the library's variable MaxLen holds a number.
-/
import Derived.Test.YthabmbjjpgcceaaDoorLbLaws
import Derived.Test.YthabmbjjpgcceaaDoorLbEnc
namespace Go.Proofs.YthabmbjjpgcceaaDoor
open Go.ChangeShapes Go.WideShapes Go.ChangeAt Go.RowKit
set_option linter.unusedVariables false

theorem utf8_size (r : Int) : 1 ≤ (Utf8.encode r).size ∧ (Utf8.encode r).size ≤ 4 := by
  unfold Utf8.encode
  generalize (if Utf8.valid r then r.toNat else Utf8.runeError) = c
  by_cases h1 : c < 128
  · simp only [h1, if_true]; exact ⟨by show 1 ≤ 1; omega, by show 1 ≤ 4; omega⟩
  · by_cases h2 : c < 2048
    · simp only [h1, h2, if_true, if_false]; exact ⟨by show 1 ≤ 2; omega, by show 2 ≤ 4; omega⟩
    · by_cases h3 : c < 65536
      · simp only [h1, h2, h3, if_true, if_false]; exact ⟨by show 1 ≤ 3; omega, by show 3 ≤ 4; omega⟩
      · simp only [h1, h2, h3, if_false]; exact ⟨by show 1 ≤ 4; omega, by show 4 ≤ 4; omega⟩
set_option maxHeartbeats 4000000 in
theorem walkRunes (r b : Int) (b0 : 0 ≤ b) (b1 : b ≤ 255) (w : World) (hw : ML w) :
    Calls Tryd.prog 4 #[.int .i32 r, .int .u8 b] w fun e w' => e = .returned (.bool true) ∧ Below w.heap.size w w' := by
  have HW := Lib.hid hw
  clear hw
  have hst := conv_new w [b] 1 rfl #[.int .u8 b] rfl
  have hz := utf8_size r
  have hsz : (strOfNums [b]).size ≤ 1 := by rw [strOfNums_size]; show 1 ≤ 1; omega
  have HB := Lib.hid ((Below.refl w.heap.size w).alloc (Nat.le_refl _) (.cells #[.int .u8 b] 5))
  have HM := Lib.hid (fun w' (h : Below w.heap.size w w') => HW.out.below h)
  generalize strOfNums [b] = V at *
  go_enter Tryd.func4, Tryd.ntmps4
  go_wp2_with fail
  generalize Utf8.encode r = X at *
  obtain ⟨hx1, hx4⟩ := hz
  have q1 : (ByteArray.mk #[97] ++ X).size ≤ 5 := by rw [ByteArray.size_append]; show 1 + X.size ≤ 5; omega
  have q2 : (X ++ ByteArray.mk #[65]).size ≤ 5 := by rw [ByteArray.size_append]; show X.size + 1 ≤ 5; omega
  have q3 : (V ++ X).size ≤ 5 := by rw [ByteArray.size_append]; omega
  have q4 : (X ++ V).size ≤ 5 := by rw [ByteArray.size_append]; omega
  (with_reducible refine (names_any X (by omega) _).mono ?_); rintro e w1 ⟨rfl, hb⟩
  have B1 := Lib.hid (HB.out.trans (hb.mono HB.out.size))
  clear hb
  go_wp2_with fail
  (with_reducible refine (names_any (ByteArray.mk #[97] ++ X) (by omega) _).mono ?_); rintro e w2 ⟨rfl, hb⟩
  have B2 := Lib.hid (B1.out.trans (hb.mono B1.out.size))
  clear hb B1
  go_wp2_with fail
  (with_reducible refine (names_any (X ++ ByteArray.mk #[65]) (by omega) _).mono ?_); rintro e w3 ⟨rfl, hb⟩
  have B3 := Lib.hid (B2.out.trans (hb.mono B2.out.size))
  clear hb B2
  go_wp2_with fail
  (with_reducible refine (names_any (V ++ X) (by omega) _).mono ?_); rintro e w4 ⟨rfl, hb⟩
  have B4 := Lib.hid (B3.out.trans (hb.mono B3.out.size))
  clear hb B3
  go_wp2_with fail
  (with_reducible refine (names_any (X ++ V) (by omega) _).mono ?_); rintro e w5 ⟨rfl, hb⟩
  have B5 := Lib.hid (B4.out.trans (hb.mono B4.out.size))
  clear hb B4
  go_wp2_with fail
  have q6 : (X.extract 0 (X.size - 1)).size ≤ 4 := by rw [ByteArray.size_extract]; omega
  (with_reducible refine (names_any (X.extract 0 (X.size - 1)) (by omega) _).mono ?_); rintro e w6 ⟨rfl, hb⟩
  have B6 := Lib.hid (B5.out.trans (hb.mono B5.out.size))
  clear hb B5
  go_wp2_with fail
  (with_reducible refine (awake_any _ (HM.out _ B6.out)).mono ?_); rintro e w7 ⟨rfl, hb⟩
  have B7 := Lib.hid (B6.out.trans (hb.mono B6.out.size))
  clear hb B6
  go_wp2
  go_ret
  exact ⟨rfl, B7.out⟩
end Go.Proofs.YthabmbjjpgcceaaDoor

