/-
  Layer 6: the walk of the statement about the packed form (BitmapPack). Every input; no condition.
-/
import Derived.Test.YtimnndjegfiniaaBmPk
import Derived.Test.YtimnndjegfiniaaBmUnpack
namespace Go.Proofs.Ytimnndjegfiniaa
open Go.ChangeShapes Go.WideShapes Go.ChangeAt Go.RowKit
set_option linter.unusedVariables false

set_option maxRecDepth 100000 in
set_option maxHeartbeats 4000000 in
theorem walkPack_yes (b x : Int) (s : ByteArray) (h : isNum b = true) (hx : Wd x) (w : World) :
    Calls Try.prog 6 #[.int .i64 b, .int .u64 x, .string s] w fun e w' => e = .returned (.bool true) ∧ Below w.heap.size w w' := by
  have h1 := fun w => pack_any b x hx w
  have h2 := fun w => refPack_any b x hx w
  have h4 := fun w => unpack_any s w
  have h5 := fun w => refUnpack_any s w
  unfold PkAns at h1 h2
  unfold UpAns at h4 h5
  generalize upB s = y1 at *
  generalize upX s = y2 at *
  generalize upE s = y3 at *
  obtain ⟨e1, e2⟩ := pk_yes (x := x) h
  rw [e1, e2] at h1 h2
  have h3 := fun w => unpack_any (pkS b x) w
  unfold UpAns at h3
  obtain ⟨e3, e4, e5⟩ := up_pk h hx
  rw [e3, e4, e5] at h3
  generalize pkS b x = V at *
  have H3 := Lib.hid h3
  clear e1 e2 e3 e4 e5 h3
  have H1 := Lib.hid h1
  have H2 := Lib.hid h2
  have H4 := Lib.hid h4
  have H5 := Lib.hid h5
  have A0 := Lib.hid (Whole.fresh w 32 #[.int .i64 b, .int .u64 x])
  have t1 : (b == b) = true := by simp
  have t2 : (x == x) = true := by simp
  have t3 : (y1 == y1) = true := by simp
  have t4 : (y2 == y2) = true := by simp
  have t5 : (y3 == y3) = true := by simp
  have t6 : (V.toList == V.toList) = true := by simp
  clear h1 h2 h4 h5 h hx
  go_enter Try.func6, Try.ntmps6
  go_wp2_with fail
  (with_reducible refine (H1.out _).mono ?_); rintro e w1 ⟨rfl, hb1⟩
  have A1 := A0.out.later hb1
  have B1 := (Below.refl w.heap.size w).alloc (Nat.le_refl _) (.cells #[.int .i64 b, .int .u64 x] 32)
  have B1 := Lib.hid (B1.trans (hb1.mono B1.size))
  obtain ⟨c0, c1⟩ := A1.two
  have A1 := Lib.hid A1
  clear hb1 A0
  go_wp2_with fail
  (with_reducible refine (H2.out _).mono ?_); rintro e w2 ⟨rfl, hb2⟩
  have A2 := A1.out.later hb2
  have B2 := Lib.hid (B1.out.trans (hb2.mono B1.out.size))
  clear c0 c1 hb2 A1 B1
  obtain ⟨c0, c1⟩ := A2.two
  have A2 := Lib.hid A2
  go_wp2_with fail
  (with_reducible refine (H3.out _).mono ?_); rintro e w3 ⟨rfl, hb3⟩
  have A3 := A2.out.later hb3
  have B3 := Lib.hid (B2.out.trans (hb3.mono B2.out.size))
  clear c0 c1 hb3 A2 B2
  obtain ⟨c0, c1⟩ := (A3.alloc (.cells #[.int .i64 b, .int .u64 x] 32)).two
  have B3 := Lib.hid (B3.out.alloc B3.out.size (.cells #[.int .i64 b, .int .u64 x] 32))
  clear A3
  go_wp2_with fail
  (with_reducible refine (H4.out _).mono ?_); rintro e w4 ⟨rfl, hb4⟩
  have B4 := B3.out.trans (hb4.mono B3.out.size)
  have B4 := Lib.hid (B4.alloc B4.size (.cells #[.int .i64 y1, .int .u64 y2] 32))
  have A4 := Lib.hid (Whole.fresh w4 32 #[.int .i64 y1, .int .u64 y2])
  clear c0 c1 hb4 B3
  go_wp2_with fail
  (with_reducible refine (H5.out _).mono ?_); rintro e w5 ⟨rfl, hb5⟩
  obtain ⟨c2, c3⟩ := ((A4.out.later hb5).alloc (.cells #[.int .i64 y1, .int .u64 y2] 32)).two
  have B5 := B4.out.trans (hb5.mono B4.out.size)
  have B5 := Lib.hid (B5.alloc B5.size (.cells #[.int .i64 y1, .int .u64 y2] 32))
  clear hb5 A4 B4
  go_wp2_with fail
  (with_reducible refine (awake_any _).mono ?_); rintro e w6 ⟨rfl, hb⟩
  have HF := Lib.hid (B5.out.trans (hb.mono B5.out.size))
  clear hb B5
  go_wp2
  go_ret
  exact ⟨rfl, HF.out⟩
set_option maxRecDepth 100000 in
set_option maxHeartbeats 4000000 in
theorem walkPack_no (b x : Int) (s : ByteArray) (h : isNum b = false) (hx : Wd x) (w : World) :
    Calls Try.prog 6 #[.int .i64 b, .int .u64 x, .string s] w fun e w' => e = .returned (.bool true) ∧ Below w.heap.size w w' := by
  have h1 := fun w => pack_any b x hx w
  have h2 := fun w => refPack_any b x hx w
  have h4 := fun w => unpack_any s w
  have h5 := fun w => refUnpack_any s w
  unfold PkAns at h1 h2
  unfold UpAns at h4 h5
  generalize upB s = y1 at *
  generalize upX s = y2 at *
  generalize upE s = y3 at *
  obtain ⟨e1, e2⟩ := pk_no (x := x) h
  rw [e1, e2] at h1 h2
  clear e1 e2
  have H1 := Lib.hid h1
  have H2 := Lib.hid h2
  have H4 := Lib.hid h4
  have H5 := Lib.hid h5
  have A0 := Lib.hid (Whole.fresh w 32 #[.int .i64 b, .int .u64 x])
  have t1 : (b == b) = true := by simp
  have t2 : (x == x) = true := by simp
  have t3 : (y1 == y1) = true := by simp
  have t4 : (y2 == y2) = true := by simp
  have t5 : (y3 == y3) = true := by simp
  clear h1 h2 h4 h5 h hx
  go_enter Try.func6, Try.ntmps6
  go_wp2_with fail
  (with_reducible refine (H1.out _).mono ?_); rintro e w1 ⟨rfl, hb1⟩
  have A1 := A0.out.later hb1
  have B1 := (Below.refl w.heap.size w).alloc (Nat.le_refl _) (.cells #[.int .i64 b, .int .u64 x] 32)
  have B1 := Lib.hid (B1.trans (hb1.mono B1.size))
  obtain ⟨c0, c1⟩ := A1.two
  have A1 := Lib.hid A1
  clear hb1 A0
  go_wp2_with fail
  (with_reducible refine (H2.out _).mono ?_); rintro e w2 ⟨rfl, hb2⟩
  have A2 := A1.out.later hb2
  have B2 := Lib.hid (B1.out.trans (hb2.mono B1.out.size))
  clear c0 c1 hb2 A1 B1
  obtain ⟨c0, c1⟩ := A2.two
  have A2 := Lib.hid A2
  go_wp2_with fail
  (with_reducible refine (H4.out _).mono ?_); rintro e w4 ⟨rfl, hb4⟩
  have B4 := B2.out.trans (hb4.mono B2.out.size)
  have B4 := Lib.hid (B4.alloc B4.size (.cells #[.int .i64 y1, .int .u64 y2] 32))
  have A4 := Lib.hid (Whole.fresh w4 32 #[.int .i64 y1, .int .u64 y2])
  clear c0 c1 hb4 B2
  go_wp2_with fail
  (with_reducible refine (H5.out _).mono ?_); rintro e w5 ⟨rfl, hb5⟩
  obtain ⟨c2, c3⟩ := ((A4.out.later hb5).alloc (.cells #[.int .i64 y1, .int .u64 y2] 32)).two
  have B5 := B4.out.trans (hb5.mono B4.out.size)
  have B5 := Lib.hid (B5.alloc B5.size (.cells #[.int .i64 y1, .int .u64 y2] 32))
  clear hb5 A4 B4
  go_wp2_with fail
  (with_reducible refine (awake_any _).mono ?_); rintro e w6 ⟨rfl, hb⟩
  have HF := Lib.hid (B5.out.trans (hb.mono B5.out.size))
  clear hb B5
  go_wp2
  go_ret
  exact ⟨rfl, HF.out⟩
theorem walkPack (b x : Int) (s : ByteArray) (hx : Wd x) (w : World) :
    Calls Try.prog 6 #[.int .i64 b, .int .u64 x, .string s] w fun e w' => e = .returned (.bool true) ∧ Below w.heap.size w w' := by
  rcases h : isNum b with _ | _
  · exact walkPack_no b x s h hx w
  · exact walkPack_yes b x s h hx w
end Go.Proofs.Ytimnndjegfiniaa

