/-
  Layer 14's law: awake, pairs. Written by gen_fahelp.py.
-/
import Derived.Test.YtcdeecigiijabaaFaProg
namespace Go.Proofs.Ytcdeecigiijabaa
open Go.ChangeShapes Go.WideShapes Go.ChangeAt Go.RowKit
set_option linter.unusedVariables false

set_option maxRecDepth 100000 in
set_option maxHeartbeats 4000000 in
theorem pairs14_any (a b : Sp) (w : World) : Calls Try.prog 9 #[aggSp a, aggSp b] w (Calm (.bool true) w) := by
  have HA := two_sp a b 24 w
  have H1 := Lib.hid (pgap_any a b)
  have H2 := Lib.hid (rgap_any a b)
  have H3 := Lib.hid (pbound_any a b)
  have H4 := Lib.hid (rbound_any a b)
  have H5 := Lib.hid (pvalidS_any a)
  have H6 := Lib.hid (rvalidS_any a)
  have H7 := Lib.hid (pfair_any a b)
  have H8 := Lib.hid (rfair_any a b)
  generalize gaV a b = x at *
  generalize boV a b = y at *
  generalize gaE a b = E at *
  generalize spB a = va at *
  generalize faB a b = F at *
  obtain ⟨a0, a1, a2⟩ := a
  obtain ⟨b0, b1, b2⟩ := b
  unfold Calm aggSp at *
  unfold spC at HA
  simp only at HA ⊢
  have HA := Lib.hid HA
  go_enter Try.func9, Try.ntmps9
  go_wp2_with fail
  (with_reducible refine (H1.out _).mono ?_); rintro e w1 ⟨rfl, hb⟩
  have HB1 := Lib.hid hb
  obtain ⟨⟨j0, j1, j2, j3, j4, j5⟩, _⟩ := HA.out w1 HB1.out
  clear hb H1
  go_wp2_with fail
  (with_reducible refine (H2.out _).mono ?_); rintro e w2 ⟨rfl, hb⟩
  have HB2 := Lib.hid (HB1.out.trans (hb.mono HB1.out.size))
  clear hb j0 j1 j2 j3 j4 j5 H2 HB1
  obtain ⟨⟨j0, j1, j2, j3, j4, j5⟩, _⟩ := HA.out w2 HB2.out
  go_wp2_with fail
  (with_reducible refine (H3.out _).mono ?_); rintro e w3 ⟨rfl, hb⟩
  have HB3 := Lib.hid (HB2.out.trans (hb.mono HB2.out.size))
  clear hb j0 j1 j2 j3 j4 j5 H3 HB2
  obtain ⟨⟨j0, j1, j2, j3, j4, j5⟩, _⟩ := HA.out w3 HB3.out
  go_wp2_with fail
  (with_reducible refine (H4.out _).mono ?_); rintro e w4 ⟨rfl, hb⟩
  have HB4 := Lib.hid (HB3.out.trans (hb.mono HB3.out.size))
  clear hb j0 j1 j2 j3 j4 j5 H4 HB3
  have HA4 := Lib.hid (fun (W : World) (hw : Below w4.drew.heap.size w4.drew W) => (HA.out W (HB4.out.trans (((Below.refl _ w4).drew.trans hw).mono HB4.out.size))).1)
  have HV1 := Lib.hid (fun (W : World) (hw : Below w4.drew.heap.size w4.drew W) => H5.out W)
  have HV2 := Lib.hid (fun (W : World) (hw : Below w4.drew.heap.size w4.drew W) => H6.out W)
  have HF1 := Lib.hid (fun (W : World) (hw : Below w4.drew.heap.size w4.drew W) => H7.out W)
  have HF2 := Lib.hid (fun (W : World) (hw : Below w4.drew.heap.size w4.drew W) => H8.out W)
  clear H5 H6 H7 H8
  go_wp2_with fail
  refine wp_region_looseS 71 (by kernel_rfl) (by kernel_rfl) (StB w4.drew (fun i => [.agg #[.int .i64 a0, .int .i64 a1, .int .i64 a2], .bool va, .agg #[.int .i64 a0, .int .i64 a1, .int .i64 a2], .bool va, .bool true, .bool true, .int .i64 x, .int .i64 x, .bool true, .bool true, .bool true, .int .i64 E, .int .i64 E, .bool true, .bool true, .bool true, .int .i64 y, .int .i64 y, .bool true, .bool true, .bool true, .int .i64 E, .int .i64 E, .bool true, .bool true, .bool true, .agg #[.int .i64 a0, .int .i64 a1, .int .i64 a2], .agg #[.int .i64 b0, .int .i64 b1, .int .i64 b2], .bool F, .agg #[.int .i64 a0, .int .i64 a1, .int .i64 a2], .agg #[.int .i64 b0, .int .i64 b1, .int .i64 b2], .bool F, .bool true, .bool true, .bool true].getD i undef)) rfl StB.start ?_ ?_
  · simp only [OblAllS]
    refine ⟨?_, ?_, ?_, ?_, ?_, ?_, ?_, ?_, ?_, ?_, ?_, ?_, ?_, ?_, ?_, ?_, ?_, ?_, ?_, ?_, ?_, ?_, ?_, ?_, ?_, ?_, ?_, ?_, ?_, ?_, ?_, ?_, ?_, ?_, ?_, trivial⟩
    · intro L wx vals hi hu hcl hC
      have h0 := (HA4.out wx hC.b).1
      have h1 := (HA4.out wx hC.b).2.1
      have h2 := (HA4.out wx hC.b).2.2.1
      have HCx := Lib.hid hC
      clear hC hcl hu hi
      simp only [fillA, if_true, Act.put]
      simp
      go_wp2
      exact ⟨rfl, HCx.out.quiet 0 rfl⟩
    · intro L wx vals hi hu hcl hC
      simp [predL, predE, Region.binds, UpL] at hu
      have e0 : vals 0 = .agg #[.int .i64 a0, .int .i64 a1, .int .i64 a2] := hC.v 0 (by simp [hu])
      have HL := Lib.hid (HV1.out wx hC.b)
      have HCx := Lib.hid hC
      clear hC hcl hu hi
      simp only [fillA, if_true, Act.put]
      simp
      simp only [e0]
      clear e0
      go_wp2_with fail
      (with_reducible refine HL.out.mono ?_); rintro e w9 ⟨rfl, hb⟩
      have HX := Lib.hid (HCx.out.step 1 (x := .bool va) rfl (HCx.out.b.trans (hb.mono HCx.out.b.size)))
      clear hb
      go_wp2
      exact ⟨rfl, HX.out⟩
    · intro L wx vals hi hu hcl hC
      have h0 := (HA4.out wx hC.b).1
      have h1 := (HA4.out wx hC.b).2.1
      have h2 := (HA4.out wx hC.b).2.2.1
      have HCx := Lib.hid hC
      clear hC hcl hu hi
      simp only [fillA, if_true, Act.put]
      simp
      go_wp2
      exact ⟨rfl, HCx.out.quiet 2 rfl⟩
    · intro L wx vals hi hu hcl hC
      simp [predL, predE, Region.binds, UpL] at hu
      have e2 : vals 2 = .agg #[.int .i64 a0, .int .i64 a1, .int .i64 a2] := hC.v 2 (by simp [hu])
      have HL := Lib.hid (HV2.out wx hC.b)
      have HCx := Lib.hid hC
      clear hC hcl hu hi
      simp only [fillA, if_true, Act.put]
      simp
      simp only [e2]
      clear e2
      go_wp2_with fail
      (with_reducible refine HL.out.mono ?_); rintro e w9 ⟨rfl, hb⟩
      have HX := Lib.hid (HCx.out.step 3 (x := .bool va) rfl (HCx.out.b.trans (hb.mono HCx.out.b.size)))
      clear hb
      go_wp2
      exact ⟨rfl, HX.out⟩
    · intro L wx vals hi hu hcl hC
      simp [predL, predE, Region.binds, UpL] at hu
      have e1 : vals 1 = .bool va := hC.v 1 (by simp [hu])
      have e3 : vals 3 = .bool va := hC.v 3 (by simp [hu])
      have HCx := Lib.hid hC
      clear hC hcl hu hi
      simp only [fillA, if_true, Act.put]
      simp
      simp only [e1, e3]
      clear e1 e3
      go_wp2
      exact ⟨rfl, HCx.out.quiet 4 rfl⟩
    · intro L wx vals hi hu hcl hC
      simp [predL, predE, Region.binds, UpL] at hu
      have e4 : vals 4 = .bool true := hC.v 4 (by simp [hu])
      have HCx := Lib.hid hC
      clear hC hcl hu hi
      simp only [fillA, if_true, Act.put]
      simp
      simp only [e4]
      clear e4
      go_wp2
      exact ⟨rfl, HCx.out.quiet 5 rfl⟩
    · intro L wx vals hi hu hcl hC
      simp [predL, predE, Region.binds, UpL] at hu
      have e5 : vals 5 = .bool true := hC.v 5 (by simp [hu])
      have HCx := Lib.hid hC
      clear hC hcl hu hi
      simp only [fillA, if_true, Act.put]
      simp
      simp only [e5]
      clear e5
      go_wp2
      exact ⟨rfl, HCx.out.quiet 6 rfl⟩
    · intro L wx vals hi hu hcl hC
      simp [predL, predE, Region.binds, UpL] at hu
      have e5 : vals 5 = .bool true := hC.v 5 (by simp [hu])
      have HCx := Lib.hid hC
      clear hC hcl hu hi
      simp only [fillA, if_true, Act.put]
      simp
      simp only [e5]
      clear e5
      go_wp2
      exact ⟨rfl, HCx.out.quiet 7 rfl⟩
    · intro L wx vals hi hu hcl hC
      simp [predL, predE, Region.binds, UpL] at hu
      have e5 : vals 5 = .bool true := hC.v 5 (by simp [hu])
      have e6 : vals 6 = .int .i64 x := hC.v 6 (by simp [hu])
      have e7 : vals 7 = .int .i64 x := hC.v 7 (by simp [hu])
      have HCx := Lib.hid hC
      clear hC hcl hu hi
      simp only [fillA, if_true, Act.put]
      simp
      simp only [e5, e6, e7]
      clear e5 e6 e7
      go_wp2
      exact ⟨rfl, HCx.out.quiet 8 rfl⟩
    · intro L wx vals hi hu hcl hC
      simp [predL, predE, Region.binds, UpL] at hu
      have e5 : vals 5 = .bool true := hC.v 5 (by simp [hu])
      have e8 : vals 8 = .bool true := hC.v 8 (by simp [hu])
      have HCx := Lib.hid hC
      clear hC hcl hu hi
      simp only [fillA, if_true, Act.put]
      simp
      simp only [e5, e8]
      clear e5 e8
      go_wp2
      exact ⟨rfl, HCx.out.quiet 9 rfl⟩
    · intro L wx vals hi hu hcl hC
      simp [predL, predE, Region.binds, UpL] at hu
      have e9 : vals 9 = .bool true := hC.v 9 (by simp [hu])
      have HCx := Lib.hid hC
      clear hC hcl hu hi
      simp only [fillA, if_true, Act.put]
      simp
      simp only [e9]
      clear e9
      go_wp2
      exact ⟨rfl, HCx.out.quiet 10 rfl⟩
    · intro L wx vals hi hu hcl hC
      simp [predL, predE, Region.binds, UpL] at hu
      have e10 : vals 10 = .bool true := hC.v 10 (by simp [hu])
      have HCx := Lib.hid hC
      clear hC hcl hu hi
      simp only [fillA, if_true, Act.put]
      simp
      simp only [e10]
      clear e10
      go_wp2
      exact ⟨rfl, HCx.out.quiet 11 rfl⟩
    · intro L wx vals hi hu hcl hC
      simp [predL, predE, Region.binds, UpL] at hu
      have e10 : vals 10 = .bool true := hC.v 10 (by simp [hu])
      have HCx := Lib.hid hC
      clear hC hcl hu hi
      simp only [fillA, if_true, Act.put]
      simp
      simp only [e10]
      clear e10
      go_wp2
      exact ⟨rfl, HCx.out.quiet 12 rfl⟩
    · intro L wx vals hi hu hcl hC
      simp [predL, predE, Region.binds, UpL] at hu
      have e10 : vals 10 = .bool true := hC.v 10 (by simp [hu])
      have e11 : vals 11 = .int .i64 E := hC.v 11 (by simp [hu])
      have e12 : vals 12 = .int .i64 E := hC.v 12 (by simp [hu])
      have HCx := Lib.hid hC
      clear hC hcl hu hi
      simp only [fillA, if_true, Act.put]
      simp
      simp only [e10, e11, e12]
      clear e10 e11 e12
      go_wp2
      exact ⟨rfl, HCx.out.quiet 13 rfl⟩
    · intro L wx vals hi hu hcl hC
      simp [predL, predE, Region.binds, UpL] at hu
      have e10 : vals 10 = .bool true := hC.v 10 (by simp [hu])
      have e13 : vals 13 = .bool true := hC.v 13 (by simp [hu])
      have HCx := Lib.hid hC
      clear hC hcl hu hi
      simp only [fillA, if_true, Act.put]
      simp
      simp only [e10, e13]
      clear e10 e13
      go_wp2
      exact ⟨rfl, HCx.out.quiet 14 rfl⟩
    · intro L wx vals hi hu hcl hC
      simp [predL, predE, Region.binds, UpL] at hu
      have e14 : vals 14 = .bool true := hC.v 14 (by simp [hu])
      have HCx := Lib.hid hC
      clear hC hcl hu hi
      simp only [fillA, if_true, Act.put]
      simp
      simp only [e14]
      clear e14
      go_wp2
      exact ⟨rfl, HCx.out.quiet 15 rfl⟩
    · intro L wx vals hi hu hcl hC
      simp [predL, predE, Region.binds, UpL] at hu
      have e15 : vals 15 = .bool true := hC.v 15 (by simp [hu])
      have HCx := Lib.hid hC
      clear hC hcl hu hi
      simp only [fillA, if_true, Act.put]
      simp
      simp only [e15]
      clear e15
      go_wp2
      exact ⟨rfl, HCx.out.quiet 16 rfl⟩
    · intro L wx vals hi hu hcl hC
      simp [predL, predE, Region.binds, UpL] at hu
      have e15 : vals 15 = .bool true := hC.v 15 (by simp [hu])
      have HCx := Lib.hid hC
      clear hC hcl hu hi
      simp only [fillA, if_true, Act.put]
      simp
      simp only [e15]
      clear e15
      go_wp2
      exact ⟨rfl, HCx.out.quiet 17 rfl⟩
    · intro L wx vals hi hu hcl hC
      simp [predL, predE, Region.binds, UpL] at hu
      have e15 : vals 15 = .bool true := hC.v 15 (by simp [hu])
      have e16 : vals 16 = .int .i64 y := hC.v 16 (by simp [hu])
      have e17 : vals 17 = .int .i64 y := hC.v 17 (by simp [hu])
      have HCx := Lib.hid hC
      clear hC hcl hu hi
      simp only [fillA, if_true, Act.put]
      simp
      simp only [e15, e16, e17]
      clear e15 e16 e17
      go_wp2
      exact ⟨rfl, HCx.out.quiet 18 rfl⟩
    · intro L wx vals hi hu hcl hC
      simp [predL, predE, Region.binds, UpL] at hu
      have e15 : vals 15 = .bool true := hC.v 15 (by simp [hu])
      have e18 : vals 18 = .bool true := hC.v 18 (by simp [hu])
      have HCx := Lib.hid hC
      clear hC hcl hu hi
      simp only [fillA, if_true, Act.put]
      simp
      simp only [e15, e18]
      clear e15 e18
      go_wp2
      exact ⟨rfl, HCx.out.quiet 19 rfl⟩
    · intro L wx vals hi hu hcl hC
      simp [predL, predE, Region.binds, UpL] at hu
      have e19 : vals 19 = .bool true := hC.v 19 (by simp [hu])
      have HCx := Lib.hid hC
      clear hC hcl hu hi
      simp only [fillA, if_true, Act.put]
      simp
      simp only [e19]
      clear e19
      go_wp2
      exact ⟨rfl, HCx.out.quiet 20 rfl⟩
    · intro L wx vals hi hu hcl hC
      simp [predL, predE, Region.binds, UpL] at hu
      have e20 : vals 20 = .bool true := hC.v 20 (by simp [hu])
      have HCx := Lib.hid hC
      clear hC hcl hu hi
      simp only [fillA, if_true, Act.put]
      simp
      simp only [e20]
      clear e20
      go_wp2
      exact ⟨rfl, HCx.out.quiet 21 rfl⟩
    · intro L wx vals hi hu hcl hC
      simp [predL, predE, Region.binds, UpL] at hu
      have e20 : vals 20 = .bool true := hC.v 20 (by simp [hu])
      have HCx := Lib.hid hC
      clear hC hcl hu hi
      simp only [fillA, if_true, Act.put]
      simp
      simp only [e20]
      clear e20
      go_wp2
      exact ⟨rfl, HCx.out.quiet 22 rfl⟩
    · intro L wx vals hi hu hcl hC
      simp [predL, predE, Region.binds, UpL] at hu
      have e20 : vals 20 = .bool true := hC.v 20 (by simp [hu])
      have e21 : vals 21 = .int .i64 E := hC.v 21 (by simp [hu])
      have e22 : vals 22 = .int .i64 E := hC.v 22 (by simp [hu])
      have HCx := Lib.hid hC
      clear hC hcl hu hi
      simp only [fillA, if_true, Act.put]
      simp
      simp only [e20, e21, e22]
      clear e20 e21 e22
      go_wp2
      exact ⟨rfl, HCx.out.quiet 23 rfl⟩
    · intro L wx vals hi hu hcl hC
      simp [predL, predE, Region.binds, UpL] at hu
      have e20 : vals 20 = .bool true := hC.v 20 (by simp [hu])
      have e23 : vals 23 = .bool true := hC.v 23 (by simp [hu])
      have HCx := Lib.hid hC
      clear hC hcl hu hi
      simp only [fillA, if_true, Act.put]
      simp
      simp only [e20, e23]
      clear e20 e23
      go_wp2
      exact ⟨rfl, HCx.out.quiet 24 rfl⟩
    · intro L wx vals hi hu hcl hC
      simp [predL, predE, Region.binds, UpL] at hu
      have e24 : vals 24 = .bool true := hC.v 24 (by simp [hu])
      have HCx := Lib.hid hC
      clear hC hcl hu hi
      simp only [fillA, if_true, Act.put]
      simp
      simp only [e24]
      clear e24
      go_wp2
      exact ⟨rfl, HCx.out.quiet 25 rfl⟩
    · intro L wx vals hi hu hcl hC
      simp [predL, predE, Region.binds, UpL] at hu
      have e25 : vals 25 = .bool true := hC.v 25 (by simp [hu])
      have h0 := (HA4.out wx hC.b).1
      have h1 := (HA4.out wx hC.b).2.1
      have h2 := (HA4.out wx hC.b).2.2.1
      have HCx := Lib.hid hC
      clear hC hcl hu hi
      simp only [fillA, if_true, Act.put]
      simp
      simp only [e25]
      clear e25
      go_wp2
      exact ⟨rfl, HCx.out.quiet 26 rfl⟩
    · intro L wx vals hi hu hcl hC
      simp [predL, predE, Region.binds, UpL] at hu
      have e25 : vals 25 = .bool true := hC.v 25 (by simp [hu])
      have h0 := (HA4.out wx hC.b).2.2.2.1
      have h1 := (HA4.out wx hC.b).2.2.2.2.1
      have h2 := (HA4.out wx hC.b).2.2.2.2.2
      have HCx := Lib.hid hC
      clear hC hcl hu hi
      simp only [fillA, if_true, Act.put]
      simp
      simp only [e25]
      clear e25
      go_wp2
      exact ⟨rfl, HCx.out.quiet 27 rfl⟩
    · intro L wx vals hi hu hcl hC
      simp [predL, predE, Region.binds, UpL] at hu
      have e25 : vals 25 = .bool true := hC.v 25 (by simp [hu])
      have e26 : vals 26 = .agg #[.int .i64 a0, .int .i64 a1, .int .i64 a2] := hC.v 26 (by simp [hu])
      have e27 : vals 27 = .agg #[.int .i64 b0, .int .i64 b1, .int .i64 b2] := hC.v 27 (by simp [hu])
      have HL := Lib.hid (HF1.out wx hC.b)
      have HCx := Lib.hid hC
      clear hC hcl hu hi
      simp only [fillA, if_true, Act.put]
      simp
      simp only [e25, e26, e27]
      clear e25 e26 e27
      go_wp2_with fail
      (with_reducible refine HL.out.mono ?_); rintro e w9 ⟨rfl, hb⟩
      have HX := Lib.hid (HCx.out.step 28 (x := .bool F) rfl (HCx.out.b.trans (hb.mono HCx.out.b.size)))
      clear hb
      go_wp2
      exact ⟨rfl, HX.out⟩
    · intro L wx vals hi hu hcl hC
      simp [predL, predE, Region.binds, UpL] at hu
      have e25 : vals 25 = .bool true := hC.v 25 (by simp [hu])
      have h0 := (HA4.out wx hC.b).1
      have h1 := (HA4.out wx hC.b).2.1
      have h2 := (HA4.out wx hC.b).2.2.1
      have HCx := Lib.hid hC
      clear hC hcl hu hi
      simp only [fillA, if_true, Act.put]
      simp
      simp only [e25]
      clear e25
      go_wp2
      exact ⟨rfl, HCx.out.quiet 29 rfl⟩
    · intro L wx vals hi hu hcl hC
      simp [predL, predE, Region.binds, UpL] at hu
      have e25 : vals 25 = .bool true := hC.v 25 (by simp [hu])
      have h0 := (HA4.out wx hC.b).2.2.2.1
      have h1 := (HA4.out wx hC.b).2.2.2.2.1
      have h2 := (HA4.out wx hC.b).2.2.2.2.2
      have HCx := Lib.hid hC
      clear hC hcl hu hi
      simp only [fillA, if_true, Act.put]
      simp
      simp only [e25]
      clear e25
      go_wp2
      exact ⟨rfl, HCx.out.quiet 30 rfl⟩
    · intro L wx vals hi hu hcl hC
      simp [predL, predE, Region.binds, UpL] at hu
      have e25 : vals 25 = .bool true := hC.v 25 (by simp [hu])
      have e29 : vals 29 = .agg #[.int .i64 a0, .int .i64 a1, .int .i64 a2] := hC.v 29 (by simp [hu])
      have e30 : vals 30 = .agg #[.int .i64 b0, .int .i64 b1, .int .i64 b2] := hC.v 30 (by simp [hu])
      have HL := Lib.hid (HF2.out wx hC.b)
      have HCx := Lib.hid hC
      clear hC hcl hu hi
      simp only [fillA, if_true, Act.put]
      simp
      simp only [e25, e29, e30]
      clear e25 e29 e30
      go_wp2_with fail
      (with_reducible refine HL.out.mono ?_); rintro e w9 ⟨rfl, hb⟩
      have HX := Lib.hid (HCx.out.step 31 (x := .bool F) rfl (HCx.out.b.trans (hb.mono HCx.out.b.size)))
      clear hb
      go_wp2
      exact ⟨rfl, HX.out⟩
    · intro L wx vals hi hu hcl hC
      simp [predL, predE, Region.binds, UpL] at hu
      have e25 : vals 25 = .bool true := hC.v 25 (by simp [hu])
      have e28 : vals 28 = .bool F := hC.v 28 (by simp [hu])
      have e31 : vals 31 = .bool F := hC.v 31 (by simp [hu])
      have HCx := Lib.hid hC
      clear hC hcl hu hi
      simp only [fillA, if_true, Act.put]
      simp
      simp only [e25, e28, e31]
      clear e25 e28 e31
      go_wp2
      exact ⟨rfl, HCx.out.quiet 32 rfl⟩
    · intro L wx vals hi hu hcl hC
      simp [predL, predE, Region.binds, UpL] at hu
      have e25 : vals 25 = .bool true := hC.v 25 (by simp [hu])
      have e32 : vals 32 = .bool true := hC.v 32 (by simp [hu])
      have HCx := Lib.hid hC
      clear hC hcl hu hi
      simp only [fillA, if_true, Act.put]
      simp
      simp only [e25, e32]
      clear e25 e32
      go_wp2
      exact ⟨rfl, HCx.out.quiet 33 rfl⟩
    · intro L wx vals hi hu hcl hC
      simp [predL, predE, Region.binds, UpL] at hu
      have e33 : vals 33 = .bool true := hC.v 33 (by simp [hu])
      have HCx := Lib.hid hC
      clear hC hcl hu hi
      simp only [fillA, if_true, Act.put]
      simp
      simp only [e33]
      clear e33
      go_wp2
      exact ⟨rfl, HCx.out.quiet 34 rfl⟩
  · intro wz vals L hC hall
    have e34 : vals 34 = .bool true := hC.v 34 (hall 34 (by simp))
    have HF := Lib.hid (HA.out wz (HB4.out.trans (((Below.refl _ w4).drew.trans hC.b).mono HB4.out.size))).2
    simp only [fillA, if_true, Act.put]
    simp
    simp only [e34]
    clear hC hall e34
    go_wp2
    go_ret
    exact ⟨rfl, HF.out⟩
theorem aw_cells {w w1 : World} {t : TypeId} (hb : Below w.heap.size w w1) (hw : Whole w1 w.heap.size t #[.int .i64 1, .int .i64 100, .int .i64 100]) (hv : Whole w1 (w.heap.size + 1) t #[.int .i64 2, .int .i64 200, .int .i64 100]) : ∀ W, Below (w1.setCell ⟨w.heap.size, 1, none⟩ (.int .i64 300)).heap.size (w1.setCell ⟨w.heap.size, 1, none⟩ (.int .i64 300)) W →
    (W.cell? ⟨w.heap.size, 0, none⟩ = some (.int .i64 1) ∧ W.cell? ⟨w.heap.size, 1, none⟩ = some (.int .i64 300) ∧ W.cell? ⟨w.heap.size, 2, none⟩ = some (.int .i64 100) ∧
     W.cell? ⟨w.heap.size + 1, 0, none⟩ = some (.int .i64 2) ∧ W.cell? ⟨w.heap.size + 1, 1, none⟩ = some (.int .i64 200) ∧ W.cell? ⟨w.heap.size + 1, 2, none⟩ = some (.int .i64 100)) ∧ Below w.heap.size w W := by
  intro W hW
  have h1 := (hw.put 1 (.int .i64 300)).later hW
  have h2 := (hv.other (g' := w.heap.size) (by omega) 1 (.int .i64 300)).later hW
  refine ⟨⟨by rw [h1.read]; rfl, by rw [h1.read]; rfl, by rw [h1.read]; rfl, by rw [h2.read]; rfl, by rw [h2.read]; rfl, by rw [h2.read]; rfl⟩, ?_⟩
  have hs := hb.size
  exact (hb.setCell (p := ⟨w.heap.size, 1, none⟩) (Nat.le_refl _) _).trans (hW.mono (by simp [World.setCell]; omega))
theorem awake14_any (w : World) : Calls Try.prog 11 #[] w (Calm (.bool true) w) := by
  have H1 := pgap_any ⟨1, 100, 100⟩ ⟨2, 200, 100⟩
  have H2 := pgap_any ⟨1, 300, 100⟩ ⟨2, 200, 100⟩
  have H3 := pfair_any ⟨1, 300, 100⟩ ⟨2, 200, 100⟩
  rw [show gaV ⟨1, 100, 100⟩ ⟨2, 200, 100⟩ = 0 by decide, show gaE ⟨1, 100, 100⟩ ⟨2, 200, 100⟩ = 0 by decide] at H1
  rw [show gaV ⟨1, 300, 100⟩ ⟨2, 200, 100⟩ = 144144000 by decide, show gaE ⟨1, 300, 100⟩ ⟨2, 200, 100⟩ = 0 by decide] at H2
  rw [show faB ⟨1, 300, 100⟩ ⟨2, 200, 100⟩ = false by decide] at H3
  unfold Calm aggSp at *
  simp only at H1 H2 H3
  have H1 := Lib.hid H1
  have H2 := Lib.hid H2
  have H3 := Lib.hid H3
  have HA := Lib.hid (two_sp ⟨1, 100, 100⟩ ⟨2, 200, 100⟩ 24 w)
  have HW := Lib.hid (((Whole.fresh w 24 (spC ⟨1, 100, 100⟩)).alloc (.cells (spC ⟨2, 200, 100⟩) 24)))
  have HV := Whole.fresh (w.alloc (.cells (spC ⟨1, 100, 100⟩) 24)) 24 (spC ⟨2, 200, 100⟩)
  rw [World.size_alloc] at HV
  have HV := Lib.hid HV
  unfold spC at HA HW HV
  go_enter Try.func11, Try.ntmps11
  go_wp2_with fail
  (with_reducible refine (H1.out _).mono ?_); rintro e w1 ⟨rfl, hb⟩
  obtain ⟨⟨j0, j1, j2, j3, j4, j5⟩, hB1⟩ := HA.out w1 hb
  have hw1 := HW.out.later hb
  have hv1 := HV.out.later hb
  have j6 := hw1.free 1
  have HX := Lib.hid (aw_cells hB1 hw1 hv1)
  clear hb hB1 hw1 hv1 H1 HA HW HV
  go_wp2_with fail
  (with_reducible refine (H2.out _).mono ?_); rintro e w2 ⟨rfl, hb⟩
  have HB2 := Lib.hid hb
  obtain ⟨⟨k0, k1, k2, k3, k4, k5⟩, _⟩ := HX.out w2 hb
  clear hb H2 j0 j1 j2 j3 j4 j5 j6
  go_wp2_with fail
  (with_reducible refine (H3.out _).mono ?_); rintro e w3 ⟨rfl, hb⟩
  have HF := Lib.hid (HX.out w3 (HB2.out.trans (hb.mono HB2.out.size))).2
  clear hb k0 k1 k2 k3 k4 k5 HB2 HX
  go_wp2
  go_ret
  exact ⟨rfl, HF.out⟩
end Go.Proofs.Ytcdeecigiijabaa

