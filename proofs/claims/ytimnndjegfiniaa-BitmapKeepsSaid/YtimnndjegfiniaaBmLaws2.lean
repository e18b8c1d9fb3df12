/-
  Layer 6: the statements' helper moves answers true. Every word; no other condition.
-/
import Derived.Test.YtimnndjegfiniaaBmLaws
namespace Go.Proofs.Ytimnndjegfiniaa
open Go.ChangeShapes Go.WideShapes Go.ChangeAt Go.RowKit
set_option linter.unusedVariables false

set_option maxRecDepth 100000 in
set_option maxHeartbeats 4000000 in
theorem moves_any (b x t : Int) (hx : Wd x) (w : World) : Calls Try.prog 14 #[.agg #[.int .i64 b, .int .u64 x], .int .i64 t] w fun e w' => e = .returned (.bool true) ∧ Below w.heap.size w w' := by
  have h1 := fun w => advance_any b x hx w
  have h2 := fun w => refAdvance_any b x hx w
  have h3 := fun w => move_any b x t hx w
  have h4 := fun w => refMove_any b x t hx w
  unfold AvAns at h1 h2
  unfold MvAns at h3 h4
  generalize avB b x = x1 at *
  generalize avX b x = x2 at *
  generalize avN b x = x3 at *
  generalize mvB b t = x4 at *
  generalize mvX b x t = x5 at *
  generalize mvE b t = x6 at *
  have H1 := Lib.hid h1
  have H2 := Lib.hid h2
  have H3 := Lib.hid h3
  have H4 := Lib.hid h4
  have A0 := Lib.hid (Whole.fresh w 32 #[.int .i64 b, .int .u64 x])
  clear h1 h2 h3 h4 hx
  have t1 : (x1 == x1) = true := by simp
  have t2 : (x2 == x2) = true := by simp
  have t3 : (x3 == x3) = true := by simp
  have t4 : (x4 == x4) = true := by simp
  have t5 : (x5 == x5) = true := by simp
  have t6 : (x6 == x6) = true := by simp
  go_enter Try.func14, Try.ntmps14
  go_wp2_with fail
  (with_reducible refine (H1.out _).mono ?_); rintro e w1 ⟨rfl, hb1⟩
  have A1 := A0.out.later hb1
  have B1 := (Below.refl w.heap.size w).alloc (Nat.le_refl _) (.cells #[.int .i64 b, .int .u64 x] 32)
  have B1 := B1.trans (hb1.mono B1.size)
  obtain ⟨c0, c1⟩ := (A1.alloc (.cells #[.int .i64 x1, .int .u64 x2] 32)).two
  have A1 := Lib.hid A1
  have B1 := Lib.hid B1
  have X1 := Lib.hid (Whole.fresh w1 32 #[.int .i64 x1, .int .u64 x2])
  clear hb1
  go_wp2_with fail
  (with_reducible refine (H2.out _).mono ?_); rintro e w2 ⟨rfl, hb2⟩
  have A2 := (A1.out.alloc _).later hb2
  have X2 := X1.out.later hb2
  have B2 := B1.out.alloc B1.out.size (.cells #[.int .i64 x1, .int .u64 x2] 32)
  have B2 := B2.trans (hb2.mono B2.size)
  clear c0 c1
  obtain ⟨c0, c1⟩ := (A2.alloc (.cells #[.int .i64 x1, .int .u64 x2] 32)).two
  have A2 := Lib.hid A2
  have B2 := Lib.hid B2
  have X2 := Lib.hid X2
  have Y2 := Lib.hid (Whole.fresh w2 32 #[.int .i64 x1, .int .u64 x2])
  clear hb2 A0 A1 B1 X1
  go_wp2_with fail
  (with_reducible refine (H3.out _).mono ?_); rintro e w3 ⟨rfl, hb3⟩
  have A3 := (A2.out.alloc _).later hb3
  have X3 := (X2.out.alloc _).later hb3
  have Y3 := Y2.out.later hb3
  have B3 := B2.out.alloc B2.out.size (.cells #[.int .i64 x1, .int .u64 x2] 32)
  have B3 := B3.trans (hb3.mono B3.size)
  clear c0 c1
  obtain ⟨c0, c1⟩ := (A3.alloc (.cells #[.int .i64 x4, .int .u64 x5] 32)).two
  have A3 := Lib.hid A3
  have B3 := Lib.hid B3
  have X3 := Lib.hid X3
  have Y3 := Lib.hid Y3
  have Z3 := Lib.hid (Whole.fresh w3 32 #[.int .i64 x4, .int .u64 x5])
  clear hb3 A2 B2 X2 Y2
  go_wp2_with fail
  (with_reducible refine (H4.out _).mono ?_); rintro e w4 ⟨rfl, hb4⟩
  have X4 := (X3.out.alloc _).later hb4
  have Y4 := (Y3.out.alloc _).later hb4
  have Z4 := Z3.out.later hb4
  have B4 := B3.out.alloc B3.out.size (.cells #[.int .i64 x4, .int .u64 x5] 32)
  have B4 := B4.trans (hb4.mono B4.size)
  have B5 := Lib.hid (B4.alloc B4.size (.cells #[.int .i64 x4, .int .u64 x5] 32))
  clear c0 c1
  obtain ⟨c2, c3⟩ := (X4.alloc (.cells #[.int .i64 x4, .int .u64 x5] 32)).two
  obtain ⟨c4, c5⟩ := (Y4.alloc (.cells #[.int .i64 x4, .int .u64 x5] 32)).two
  obtain ⟨c6, c7⟩ := (Z4.alloc (.cells #[.int .i64 x4, .int .u64 x5] 32)).two
  clear hb4 A3 B3 X3 Y3 Z3 X4 Y4 Z4 B4
  go_wp2
  go_ret
  exact ⟨rfl, B5.out⟩
end Go.Proofs.Ytimnndjegfiniaa

