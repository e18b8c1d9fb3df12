/-
  Layer 6: the statements' helpers: awake, sequence, sets, moves: each answers true. Every word; no other condition.
-/
import Derived.Test.YtimnndjegfiniaaBmAdv
import Derived.Test.YtimnndjegfiniaaGenU
namespace Go.Proofs.Ytimnndjegfiniaa
open Go.ChangeShapes Go.WideShapes Go.ChangeAt Go.RowKit
set_option linter.unusedVariables false

theorem awake_any (w : World) : Calls Try.prog 11 #[] w fun e w' => e = .returned (.bool true) ∧ Below w.heap.size w w' := by
  have HD := fun w => dist_any 65530 4 w
  have HA := fun w => advance_any 65534 23 ⟨by decide, by decide⟩ w
  unfold AvAns at HA
  rw [show dsV 65530 4 = 10 from by decide, show dsE 65530 4 = 0 from by decide] at HD
  rw [show avB 65534 23 = 1 from by decide, show avX 65534 23 = 2 from by decide, show avN 65534 23 = 3 from by decide] at HA
  have HD := Lib.hid HD
  have HA := Lib.hid HA
  go_enter Try.func11, Try.ntmps11
  go_wp2_with fail
  (with_reducible refine (HD.out _).mono ?_); rintro e w' ⟨rfl, rfl⟩
  go_wp2_with fail
  (with_reducible refine (HA.out _).mono ?_); rintro e w1 ⟨rfl, hb1⟩
  have HB := Lib.hid hb1
  clear hb1
  go_wp2
  go_ret
  exact ⟨rfl, HB.out.alloc HB.out.size _⟩
set_option maxRecDepth 100000 in
set_option maxHeartbeats 1000000 in
theorem sequence_any (a b n : Int) (w : World) : Calls Try.prog 10 #[.int .i64 a, .int .i64 b, .int .i64 n] w fun e w' => e = .returned (.bool true) ∧ w = w' := by
  have h1 := fun w => next6_any a n w
  have h2 := fun w => refNext_any a n w
  have h3 := fun w => dist_any a b w
  have h4 := fun w => refDist_any a b w
  have h5 := fun w => before_any a b w
  have h6 := fun w => refBefore_any a b w
  have h7 := fun w => inside_any a n b w
  have h8 := fun w => refInside_any a n b w
  generalize nxV a n = x1 at *
  generalize nxE a n = x2 at *
  generalize dsV a b = x3 at *
  generalize dsE a b = x4 at *
  generalize befB a b = x5 at *
  generalize insB a n b = x6 at *
  have H1 := Lib.hid h1
  have H2 := Lib.hid h2
  have H3 := Lib.hid h3
  have H4 := Lib.hid h4
  have H5 := Lib.hid h5
  have H6 := Lib.hid h6
  have H7 := Lib.hid h7
  have H8 := Lib.hid h8
  clear h1 h2 h3 h4 h5 h6 h7 h8
  have t1 : (x1 == x1) = true := by simp
  have t2 : (x2 == x2) = true := by simp
  have t3 : (x3 == x3) = true := by simp
  have t4 : (x4 == x4) = true := by simp
  go_enter Try.func10, Try.ntmps10
  go_wp2_with fail
  (with_reducible refine (H1.out _).mono ?_); rintro e w' ⟨rfl, rfl⟩
  go_wp2_with fail
  (with_reducible refine (H2.out _).mono ?_); rintro e w' ⟨rfl, rfl⟩
  go_wp2_with fail
  (with_reducible refine (H3.out _).mono ?_); rintro e w' ⟨rfl, rfl⟩
  go_wp2_with fail
  (with_reducible refine (H4.out _).mono ?_); rintro e w' ⟨rfl, rfl⟩
  go_wp2_with fail
  (with_reducible refine (H5.out _).mono ?_); rintro e w' ⟨rfl, rfl⟩
  go_wp2_with fail
  (with_reducible refine (H6.out _).mono ?_); rintro e w' ⟨rfl, rfl⟩
  go_wp2_with fail
  (with_reducible refine (H7.out _).mono ?_); rintro e w' ⟨rfl, rfl⟩
  go_wp2_with fail
  (with_reducible refine (H8.out _).mono ?_); rintro e w' ⟨rfl, rfl⟩
  go_wp2
  go_ret
  first | exact ⟨rfl, rfl⟩ | exact ⟨ret_bool (by simp), rfl⟩
theorem Whole.fresh (w : World) (t : TypeId) (cs : Array Value) : Whole (w.alloc (.cells cs t)) w.heap.size t cs := (MapKept.heap_alloc w _).1
theorem Whole.later {w w' : World} {g : Nat} {t : TypeId} {cs : Array Value} (h : Whole w g t cs) (hb : Below w.heap.size w w') : Whole w' g t cs := h.carry (hb.block _ h.size_lt)
theorem Whole.two {w : World} {g : Nat} {t : TypeId} {u v : Value} (h : Whole w g t #[u, v]) : w.cell? ⟨g, 0, none⟩ = some u ∧ w.cell? ⟨g, 1, none⟩ = some v := ⟨by rw [h.read]; rfl, by rw [h.read]; rfl⟩
theorem held6 {w0 w w' : World} {b1 b2 b3 : Nat} {v1 v2 v3 v4 v5 v6 : Value} (hb : Below w.heap.size w w')
    (h : w.cell? ⟨b1, 0, none⟩ = some v1 ∧ w.cell? ⟨b1, 1, none⟩ = some v2 ∧ w.cell? ⟨b2, 0, none⟩ = some v3 ∧ w.cell? ⟨b2, 1, none⟩ = some v4 ∧ w.cell? ⟨b3, 0, none⟩ = some v5 ∧ w.cell? ⟨b3, 1, none⟩ = some v6 ∧ Below w0.heap.size w0 w) :
    w'.cell? ⟨b1, 0, none⟩ = some v1 ∧ w'.cell? ⟨b1, 1, none⟩ = some v2 ∧ w'.cell? ⟨b2, 0, none⟩ = some v3 ∧ w'.cell? ⟨b2, 1, none⟩ = some v4 ∧ w'.cell? ⟨b3, 0, none⟩ = some v5 ∧ w'.cell? ⟨b3, 1, none⟩ = some v6 ∧ Below w0.heap.size w0 w' := by
  obtain ⟨h1, h2, h3, h4, h5, h6, h7⟩ := h
  exact ⟨cell_later h1 hb, cell_later h2 hb, cell_later h3 hb, cell_later h4 hb, cell_later h5 hb, cell_later h6 hb, h7.trans (hb.mono h7.size)⟩
set_option maxRecDepth 100000 in
set_option maxHeartbeats 4000000 in
theorem sets_any (b x s : Int) (hx : Wd x) (w : World) : Calls Try.prog 13 #[.agg #[.int .i64 b, .int .u64 x], .int .i64 s] w fun e w' => e = .returned (.bool true) ∧ Below w.heap.size w w' := by
  have h1 := fun w => set_any b x s hx w
  have h2 := fun w => refSet_any b x s hx w
  have h3 := fun w => valid_any b x w
  have h4 := fun w => validMap_any b x w
  have h5 := fun w => has_any b x s hx w
  have h6 := fun w => refHas_any b x s hx w
  unfold StAns at h1 h2
  generalize stB b s = x1 at *
  generalize stX b x s = x2 at *
  generalize stE b s = x3 at *
  generalize isNum b = x4 at *
  generalize hasB b x s = x5 at *
  have H1 := Lib.hid h1
  have H2 := Lib.hid h2
  have H3 := Lib.hid h3
  have H4 := Lib.hid h4
  have H5 := Lib.hid h5
  have H6 := Lib.hid h6
  have A0 := Lib.hid (Whole.fresh w 32 #[.int .i64 b, .int .u64 x])
  clear h1 h2 h3 h4 h5 h6 hx
  have t1 : (x1 == x1) = true := by simp
  have t2 : (x2 == x2) = true := by simp
  have t3 : (x3 == x3) = true := by simp
  have t4 : (x4 == x4) = true := by simp
  have t5 : (x5 == x5) = true := by simp
  go_enter Try.func13, Try.ntmps13
  go_wp2_with fail
  (with_reducible refine (H1.out _).mono ?_); rintro e w1 ⟨rfl, hb1⟩
  have A1 := A0.out.later hb1
  have B1 := (Below.refl w.heap.size w).alloc (Nat.le_refl _) (.cells #[.int .i64 b, .int .u64 x] 32)
  have B1 := B1.trans (hb1.mono B1.size)
  obtain ⟨c0, c1⟩ := (A1.alloc (.cells #[.int .i64 x1, .int .u64 x2] 32)).two
  have A1 := Lib.hid A1
  have B1 := Lib.hid B1
  have X1 := Lib.hid (Whole.fresh w1 32 #[.int .i64 x1, .int .u64 x2])
  clear hb1
  go_wp2_with fail
  (with_reducible refine (H2.out _).mono ?_); rintro e w2 ⟨rfl, hb2⟩
  have A2 := (A1.out.alloc _).later hb2
  have X2 := X1.out.later hb2
  have B2 := B1.out.alloc B1.out.size (.cells #[.int .i64 x1, .int .u64 x2] 32)
  have B2 := B2.trans (hb2.mono B2.size)
  clear c0 c1
  obtain ⟨c0, c1⟩ := (A2.alloc (.cells #[.int .i64 x1, .int .u64 x2] 32)).two
  obtain ⟨c2, c3⟩ := (X2.alloc (.cells #[.int .i64 x1, .int .u64 x2] 32)).two
  obtain ⟨c4, c5⟩ := (Whole.fresh w2 32 #[.int .i64 x1, .int .u64 x2]).two
  have B3 := Lib.hid (B2.alloc B2.size (.cells #[.int .i64 x1, .int .u64 x2] 32))
  clear hb2 A2 X2 B2 A1 X1 B1 A0
  go_wp2_with fail
  go_region_held3 (fun w' => w'.cell? ⟨w.heap.size, 0, none⟩ = some (.int .i64 b) ∧ w'.cell? ⟨w.heap.size, 1, none⟩ = some (.int .u64 x) ∧ w'.cell? ⟨w1.heap.size, 0, none⟩ = some (.int .i64 x1) ∧ w'.cell? ⟨w1.heap.size, 1, none⟩ = some (.int .u64 x2) ∧ w'.cell? ⟨w2.heap.size, 0, none⟩ = some (.int .i64 x1) ∧ w'.cell? ⟨w2.heap.size, 1, none⟩ = some (.int .u64 x2) ∧ Below w.heap.size w w')
    ((first | exact held6 (by assumption) (by assumption) | exact ⟨c0, c1, c2, c3, c4, c5, B3.out.drew⟩))
    (first
      | (go_at_call 32; (with_reducible refine (H3.out _).mono ?_); rintro e w' ⟨rfl, hb⟩)
      | (go_at_call 33; (with_reducible refine (H4.out _).mono ?_); rintro e w' ⟨rfl, hb⟩)
      | (go_at_call 20; (with_reducible refine (H5.out _).mono ?_); rintro e w' ⟨rfl, hb⟩)
      | (go_at_call 34; (with_reducible refine (H6.out _).mono ?_); rintro e w' ⟨rfl, hb⟩))
  rename_i hH
  obtain ⟨_, _, _, _, _, _, hB⟩ := hH
  go_wp2
  go_ret
  exact ⟨rfl, hB⟩
end Go.Proofs.Ytimnndjegfiniaa

