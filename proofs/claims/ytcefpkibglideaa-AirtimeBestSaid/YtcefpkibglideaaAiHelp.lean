/-
  Layer 19's law: times, fits, awake. Written by gen_aihelp.py.
-/
import Derived.Test.YtcefpkibglideaaAiProg
import Derived.Test.YtcefpkibglideaaStA
import Derived.Test.YtcefpkibglideaaEnvW
namespace Go.Proofs.Ytcefpkibglideaa
open Go.ChangeShapes Go.WideShapes Go.ChangeAt Go.RowKit
set_option linter.unusedVariables false

/-- Structs in a new block. -/
theorem SrAt.fresh {α : Type} {cs : α → List Value} {n : Nat} (hn : ∀ a, (cs a).length = n) (w : World) (l : List α) (t : TypeId) :
    SrAt cs n (w.alloc (.cells (srs cs l).toArray t)) 0 (w.alloc (.cells (srs cs l).toArray t)).heap.size (some ⟨w.heap.size, 0, none⟩) l := fun i hi =>
  ⟨w.heap.size, 0, rfl, Nat.zero_le _, by simp, fun k hk => by
    rw [Nat.zero_add, (Whole.fresh w t _).read, List.getElem?_toArray]
    exact srs_at hn l i k hi hk⟩
/-- A rate in a block of the call's own. -/
theorem one_rt (k o : Int) (t : TypeId) (w : World) : ∀ W, Below (w.alloc (.cells #[.int .i64 k, .int .i64 o] t)).heap.size (w.alloc (.cells #[.int .i64 k, .int .i64 o] t)) W →
    (W.cell? ⟨w.heap.size, 0, none⟩ = some (.int .i64 k) ∧ W.cell? ⟨w.heap.size, 1, none⟩ = some (.int .i64 o)) ∧ Below w.heap.size w W := fun W hw => by
  have hz := (Whole.fresh w t #[.int .i64 k, .int .i64 o]).carry (hw.block _ (Whole.fresh w t #[.int .i64 k, .int .i64 o]).size_lt)
  exact ⟨⟨(hz.read 0).trans rfl, (hz.read 1).trans rfl⟩, ((Below.refl _ w).alloc (Nat.le_refl _) _).trans (hw.mono (by simp))⟩
set_option maxRecDepth 100000 in
set_option maxHeartbeats 4000000 in
theorem times_any (k o b : Int) (w : World) : Calls Try.prog 8 #[.agg #[.int .i64 k, .int .i64 o], .int .i64 b] w (AiB (.bool true) w) := by
  have HA := one_rt k o 24 w
  have H1 := Lib.hid (ptime_any k o b)
  have H2 := Lib.hid (rtime_any k o b)
  have H3 := Lib.hid (pefficiency_any k o b)
  have H4 := Lib.hid (refficiency_any k o b)
  have H5 := Lib.hid (pvalid19_any k o)
  have H6 := Lib.hid (rvalidrate_any k o)
  generalize aiTV k o b = x at *
  generalize aiEV k o b = y at *
  generalize aiTE k o b = E at *
  generalize aiV k o = va at *
  unfold AiB at *
  have HA := Lib.hid HA
  go_enter Try.func8, Try.ntmps8
  go_wp2_with fail
  (with_reducible refine (H1.out _).mono ?_); rintro e w1 ⟨rfl, hb⟩
  have HB1 := Lib.hid hb
  obtain ⟨⟨j0, j1⟩, _⟩ := HA.out w1 HB1.out
  clear hb H1
  go_wp2_with fail
  (with_reducible refine (H2.out _).mono ?_); rintro e w2 ⟨rfl, hb⟩
  have HB2 := Lib.hid (HB1.out.trans (hb.mono HB1.out.size))
  clear hb j0 j1 H2 HB1
  obtain ⟨⟨j0, j1⟩, _⟩ := HA.out w2 HB2.out
  go_wp2_with fail
  (with_reducible refine (H3.out _).mono ?_); rintro e w3 ⟨rfl, hb⟩
  have HB3 := Lib.hid (HB2.out.trans (hb.mono HB2.out.size))
  clear hb j0 j1 H3 HB2
  obtain ⟨⟨j0, j1⟩, _⟩ := HA.out w3 HB3.out
  go_wp2_with fail
  (with_reducible refine (H4.out _).mono ?_); rintro e w4 ⟨rfl, hb⟩
  have HB4 := Lib.hid (HB3.out.trans (hb.mono HB3.out.size))
  clear hb j0 j1 H4 HB3
  have HA4 := Lib.hid (fun (W : World) (hw : Below w4.drew.heap.size w4.drew W) => (HA.out W (HB4.out.trans (((Below.refl _ w4).drew.trans hw).mono HB4.out.size))).1)
  have HV1 := Lib.hid (fun (W : World) (hw : Below w4.drew.heap.size w4.drew W) => H5.out W)
  have HV2 := Lib.hid (fun (W : World) (hw : Below w4.drew.heap.size w4.drew W) => H6.out W)
  clear H5 H6
  go_wp2_with fail
  refine wp_region_looseS 62 (by kernel_rfl) (by kernel_rfl) (StB w4.drew (fun vI => [.agg #[.int .i64 k, .int .i64 o], .bool va, .agg #[.int .i64 k, .int .i64 o], .bool va, .bool true, .bool true, .int .i64 x, .int .i64 x, .bool true, .bool true, .bool true, .int .i64 E, .int .i64 E, .bool true, .bool true, .bool true, .int .i64 y, .int .i64 y, .bool true, .bool true, .bool true, .int .i64 E, .int .i64 E, .bool true, .bool true, .bool true].getD vI undef)) rfl StB.start ?_ ?_
  · simp only [OblAllS]
    refine ⟨?_, ?_, ?_, ?_, ?_, ?_, ?_, ?_, ?_, ?_, ?_, ?_, ?_, ?_, ?_, ?_, ?_, ?_, ?_, ?_, ?_, ?_, ?_, ?_, ?_, ?_, trivial⟩
    · intro L wx vals hi hu hcl hC
      have h0 := (HA4.out wx hC.b).1
      have h1 := (HA4.out wx hC.b).2
      have HCx := Lib.hid hC
      clear hC hcl hu hi
      simp only [fillA, if_true, Act.put]
      simp
      go_wp2
      exact ⟨rfl, HCx.out.quiet 0 rfl⟩
    · intro L wx vals hi hu hcl hC
      simp [predL, predE, Region.binds, UpL] at hu
      have e0 : vals 0 = .agg #[.int .i64 k, .int .i64 o] := hC.v 0 (by simp [hu])
      have HL := Lib.hid (HV1.out wx hC.b)
      have HCx := Lib.hid hC
      clear hC hcl hu hi
      simp only [fillA, if_true, Act.put]
      simp
      simp only [e0]
      clear e0
      go_wp2_with fail
      (with_reducible refine HL.out.mono ?_); rintro e w9 ⟨rfl, hb⟩
      have HX := Lib.hid (HCx.out.step 1 (x := .bool va) rfl (HCx.out.b.trans (hb.mono HCx.out.b.size)))
      clear hb
      go_wp2
      exact ⟨rfl, HX.out⟩
    · intro L wx vals hi hu hcl hC
      have h0 := (HA4.out wx hC.b).1
      have h1 := (HA4.out wx hC.b).2
      have HCx := Lib.hid hC
      clear hC hcl hu hi
      simp only [fillA, if_true, Act.put]
      simp
      go_wp2
      exact ⟨rfl, HCx.out.quiet 2 rfl⟩
    · intro L wx vals hi hu hcl hC
      simp [predL, predE, Region.binds, UpL] at hu
      have e2 : vals 2 = .agg #[.int .i64 k, .int .i64 o] := hC.v 2 (by simp [hu])
      have HL := Lib.hid (HV2.out wx hC.b)
      have HCx := Lib.hid hC
      clear hC hcl hu hi
      simp only [fillA, if_true, Act.put]
      simp
      simp only [e2]
      clear e2
      go_wp2_with fail
      (with_reducible refine HL.out.mono ?_); rintro e w9 ⟨rfl, hb⟩
      have HX := Lib.hid (HCx.out.step 3 (x := .bool va) rfl (HCx.out.b.trans (hb.mono HCx.out.b.size)))
      clear hb
      go_wp2
      exact ⟨rfl, HX.out⟩
    · intro L wx vals hi hu hcl hC
      simp [predL, predE, Region.binds, UpL] at hu
      have e1 : vals 1 = .bool va := hC.v 1 (by simp [hu])
      have e3 : vals 3 = .bool va := hC.v 3 (by simp [hu])
      have HCx := Lib.hid hC
      clear hC hcl hu hi
      simp only [fillA, if_true, Act.put]
      simp
      simp only [e1, e3]
      clear e1 e3
      go_wp2
      exact ⟨rfl, HCx.out.quiet 4 rfl⟩
    · intro L wx vals hi hu hcl hC
      simp [predL, predE, Region.binds, UpL] at hu
      have e4 : vals 4 = .bool true := hC.v 4 (by simp [hu])
      have HCx := Lib.hid hC
      clear hC hcl hu hi
      simp only [fillA, if_true, Act.put]
      simp
      simp only [e4]
      clear e4
      go_wp2
      exact ⟨rfl, HCx.out.quiet 5 rfl⟩
    · intro L wx vals hi hu hcl hC
      simp [predL, predE, Region.binds, UpL] at hu
      have e5 : vals 5 = .bool true := hC.v 5 (by simp [hu])
      have HCx := Lib.hid hC
      clear hC hcl hu hi
      simp only [fillA, if_true, Act.put]
      simp
      simp only [e5]
      clear e5
      go_wp2
      exact ⟨rfl, HCx.out.quiet 6 rfl⟩
    · intro L wx vals hi hu hcl hC
      simp [predL, predE, Region.binds, UpL] at hu
      have e5 : vals 5 = .bool true := hC.v 5 (by simp [hu])
      have HCx := Lib.hid hC
      clear hC hcl hu hi
      simp only [fillA, if_true, Act.put]
      simp
      simp only [e5]
      clear e5
      go_wp2
      exact ⟨rfl, HCx.out.quiet 7 rfl⟩
    · intro L wx vals hi hu hcl hC
      simp [predL, predE, Region.binds, UpL] at hu
      have e5 : vals 5 = .bool true := hC.v 5 (by simp [hu])
      have e6 : vals 6 = .int .i64 x := hC.v 6 (by simp [hu])
      have e7 : vals 7 = .int .i64 x := hC.v 7 (by simp [hu])
      have HCx := Lib.hid hC
      clear hC hcl hu hi
      simp only [fillA, if_true, Act.put]
      simp
      simp only [e5, e6, e7]
      clear e5 e6 e7
      go_wp2
      exact ⟨rfl, HCx.out.quiet 8 rfl⟩
    · intro L wx vals hi hu hcl hC
      simp [predL, predE, Region.binds, UpL] at hu
      have e5 : vals 5 = .bool true := hC.v 5 (by simp [hu])
      have e8 : vals 8 = .bool true := hC.v 8 (by simp [hu])
      have HCx := Lib.hid hC
      clear hC hcl hu hi
      simp only [fillA, if_true, Act.put]
      simp
      simp only [e5, e8]
      clear e5 e8
      go_wp2
      exact ⟨rfl, HCx.out.quiet 9 rfl⟩
    · intro L wx vals hi hu hcl hC
      simp [predL, predE, Region.binds, UpL] at hu
      have e9 : vals 9 = .bool true := hC.v 9 (by simp [hu])
      have HCx := Lib.hid hC
      clear hC hcl hu hi
      simp only [fillA, if_true, Act.put]
      simp
      simp only [e9]
      clear e9
      go_wp2
      exact ⟨rfl, HCx.out.quiet 10 rfl⟩
    · intro L wx vals hi hu hcl hC
      simp [predL, predE, Region.binds, UpL] at hu
      have e10 : vals 10 = .bool true := hC.v 10 (by simp [hu])
      have HCx := Lib.hid hC
      clear hC hcl hu hi
      simp only [fillA, if_true, Act.put]
      simp
      simp only [e10]
      clear e10
      go_wp2
      exact ⟨rfl, HCx.out.quiet 11 rfl⟩
    · intro L wx vals hi hu hcl hC
      simp [predL, predE, Region.binds, UpL] at hu
      have e10 : vals 10 = .bool true := hC.v 10 (by simp [hu])
      have HCx := Lib.hid hC
      clear hC hcl hu hi
      simp only [fillA, if_true, Act.put]
      simp
      simp only [e10]
      clear e10
      go_wp2
      exact ⟨rfl, HCx.out.quiet 12 rfl⟩
    · intro L wx vals hi hu hcl hC
      simp [predL, predE, Region.binds, UpL] at hu
      have e10 : vals 10 = .bool true := hC.v 10 (by simp [hu])
      have e11 : vals 11 = .int .i64 E := hC.v 11 (by simp [hu])
      have e12 : vals 12 = .int .i64 E := hC.v 12 (by simp [hu])
      have HCx := Lib.hid hC
      clear hC hcl hu hi
      simp only [fillA, if_true, Act.put]
      simp
      simp only [e10, e11, e12]
      clear e10 e11 e12
      go_wp2
      exact ⟨rfl, HCx.out.quiet 13 rfl⟩
    · intro L wx vals hi hu hcl hC
      simp [predL, predE, Region.binds, UpL] at hu
      have e10 : vals 10 = .bool true := hC.v 10 (by simp [hu])
      have e13 : vals 13 = .bool true := hC.v 13 (by simp [hu])
      have HCx := Lib.hid hC
      clear hC hcl hu hi
      simp only [fillA, if_true, Act.put]
      simp
      simp only [e10, e13]
      clear e10 e13
      go_wp2
      exact ⟨rfl, HCx.out.quiet 14 rfl⟩
    · intro L wx vals hi hu hcl hC
      simp [predL, predE, Region.binds, UpL] at hu
      have e14 : vals 14 = .bool true := hC.v 14 (by simp [hu])
      have HCx := Lib.hid hC
      clear hC hcl hu hi
      simp only [fillA, if_true, Act.put]
      simp
      simp only [e14]
      clear e14
      go_wp2
      exact ⟨rfl, HCx.out.quiet 15 rfl⟩
    · intro L wx vals hi hu hcl hC
      simp [predL, predE, Region.binds, UpL] at hu
      have e15 : vals 15 = .bool true := hC.v 15 (by simp [hu])
      have HCx := Lib.hid hC
      clear hC hcl hu hi
      simp only [fillA, if_true, Act.put]
      simp
      simp only [e15]
      clear e15
      go_wp2
      exact ⟨rfl, HCx.out.quiet 16 rfl⟩
    · intro L wx vals hi hu hcl hC
      simp [predL, predE, Region.binds, UpL] at hu
      have e15 : vals 15 = .bool true := hC.v 15 (by simp [hu])
      have HCx := Lib.hid hC
      clear hC hcl hu hi
      simp only [fillA, if_true, Act.put]
      simp
      simp only [e15]
      clear e15
      go_wp2
      exact ⟨rfl, HCx.out.quiet 17 rfl⟩
    · intro L wx vals hi hu hcl hC
      simp [predL, predE, Region.binds, UpL] at hu
      have e15 : vals 15 = .bool true := hC.v 15 (by simp [hu])
      have e16 : vals 16 = .int .i64 y := hC.v 16 (by simp [hu])
      have e17 : vals 17 = .int .i64 y := hC.v 17 (by simp [hu])
      have HCx := Lib.hid hC
      clear hC hcl hu hi
      simp only [fillA, if_true, Act.put]
      simp
      simp only [e15, e16, e17]
      clear e15 e16 e17
      go_wp2
      exact ⟨rfl, HCx.out.quiet 18 rfl⟩
    · intro L wx vals hi hu hcl hC
      simp [predL, predE, Region.binds, UpL] at hu
      have e15 : vals 15 = .bool true := hC.v 15 (by simp [hu])
      have e18 : vals 18 = .bool true := hC.v 18 (by simp [hu])
      have HCx := Lib.hid hC
      clear hC hcl hu hi
      simp only [fillA, if_true, Act.put]
      simp
      simp only [e15, e18]
      clear e15 e18
      go_wp2
      exact ⟨rfl, HCx.out.quiet 19 rfl⟩
    · intro L wx vals hi hu hcl hC
      simp [predL, predE, Region.binds, UpL] at hu
      have e19 : vals 19 = .bool true := hC.v 19 (by simp [hu])
      have HCx := Lib.hid hC
      clear hC hcl hu hi
      simp only [fillA, if_true, Act.put]
      simp
      simp only [e19]
      clear e19
      go_wp2
      exact ⟨rfl, HCx.out.quiet 20 rfl⟩
    · intro L wx vals hi hu hcl hC
      simp [predL, predE, Region.binds, UpL] at hu
      have e20 : vals 20 = .bool true := hC.v 20 (by simp [hu])
      have HCx := Lib.hid hC
      clear hC hcl hu hi
      simp only [fillA, if_true, Act.put]
      simp
      simp only [e20]
      clear e20
      go_wp2
      exact ⟨rfl, HCx.out.quiet 21 rfl⟩
    · intro L wx vals hi hu hcl hC
      simp [predL, predE, Region.binds, UpL] at hu
      have e20 : vals 20 = .bool true := hC.v 20 (by simp [hu])
      have HCx := Lib.hid hC
      clear hC hcl hu hi
      simp only [fillA, if_true, Act.put]
      simp
      simp only [e20]
      clear e20
      go_wp2
      exact ⟨rfl, HCx.out.quiet 22 rfl⟩
    · intro L wx vals hi hu hcl hC
      simp [predL, predE, Region.binds, UpL] at hu
      have e20 : vals 20 = .bool true := hC.v 20 (by simp [hu])
      have e21 : vals 21 = .int .i64 E := hC.v 21 (by simp [hu])
      have e22 : vals 22 = .int .i64 E := hC.v 22 (by simp [hu])
      have HCx := Lib.hid hC
      clear hC hcl hu hi
      simp only [fillA, if_true, Act.put]
      simp
      simp only [e20, e21, e22]
      clear e20 e21 e22
      go_wp2
      exact ⟨rfl, HCx.out.quiet 23 rfl⟩
    · intro L wx vals hi hu hcl hC
      simp [predL, predE, Region.binds, UpL] at hu
      have e20 : vals 20 = .bool true := hC.v 20 (by simp [hu])
      have e23 : vals 23 = .bool true := hC.v 23 (by simp [hu])
      have HCx := Lib.hid hC
      clear hC hcl hu hi
      simp only [fillA, if_true, Act.put]
      simp
      simp only [e20, e23]
      clear e20 e23
      go_wp2
      exact ⟨rfl, HCx.out.quiet 24 rfl⟩
    · intro L wx vals hi hu hcl hC
      simp [predL, predE, Region.binds, UpL] at hu
      have e24 : vals 24 = .bool true := hC.v 24 (by simp [hu])
      have HCx := Lib.hid hC
      clear hC hcl hu hi
      simp only [fillA, if_true, Act.put]
      simp
      simp only [e24]
      clear e24
      go_wp2
      exact ⟨rfl, HCx.out.quiet 25 rfl⟩
  · intro wz vals L hC hall
    have e25 : vals 25 = .bool true := hC.v 25 (hall 25 (by simp))
    have HF := Lib.hid (HA.out wz (HB4.out.trans (((Below.refl _ w4).drew.trans hC.b).mono HB4.out.size))).2
    simp only [fillA, if_true, Act.put]
    simp
    try simp only [e25]
    clear hC hall e25
    go_wp2
    go_ret
    exact ⟨rfl, HF.out⟩
set_option maxHeartbeats 4000000 in
theorem fits_any (k o t : Int) (t0 : -9223372036854775808 ≤ t) (t1 : t ≤ 9223372036854775807) (w : World) : Calls Try.prog 12 #[.agg #[.int .i64 k, .int .i64 o], .int .i64 t] w (AiB (.bool true) w) := by
  have HA := one_rt k o 24 w
  have H1 := Lib.hid (pfit_any k o t t0 t1)
  have H2 := Lib.hid (rfit_any k o t)
  generalize aiFV k o t = x at *
  generalize aiFE k o t = E at *
  unfold AiB at *
  have HA := Lib.hid HA
  go_enter Try.func12, Try.ntmps12
  go_wp2_with fail
  (with_reducible refine (H1.out _).mono ?_); rintro e w1 ⟨rfl, hb⟩
  have HB1 := Lib.hid hb
  obtain ⟨⟨j0, j1⟩, _⟩ := HA.out w1 HB1.out
  clear hb H1
  go_wp2_with fail
  (with_reducible refine (H2.out _).mono ?_); rintro e w2 ⟨rfl, hb⟩
  have HB2 := Lib.hid (HB1.out.trans (hb.mono HB1.out.size))
  have HF := Lib.hid (HA.out w2 HB2.out).2
  clear hb j0 j1 H2 HB1
  go_wp2
  go_ret
  exact ⟨rfl, HF.out⟩
theorem ai_aw1 : aiTV 6000 100 1500 = 2100 ∧ aiTE 6000 100 1500 = 0 ∧ aiBV [(1000, 0), (6000, 500)] 100 = 1 ∧ aiBE [(1000, 0), (6000, 500)] 100 = 0 := by decide +kernel
set_option maxHeartbeats 4000000 in
theorem awake19_any (w : World) : Calls Try.prog 11 #[] w (AiB (.bool true) w) := by
  have H1 := Lib.hid (fun w => ptime_any 6000 100 1500 w)
  rw [ai_aw1.1, ai_aw1.2.1] at H1
  have H2 := Lib.hid (fun (w1 : World) => pbest_any (c := 2) 100 (w := w1.alloc (.cells (srs csR [(1000, 0), (6000, 500)]).toArray 24)) (SrAt.fresh csR_len w1 [(1000, 0), (6000, 500)] 24) (by decide))
  rw [ai_aw1.2.2.1, ai_aw1.2.2.2] at H2
  simp only [srs, csR, List.flatMap_cons, List.flatMap_nil, List.append_nil, List.cons_append, List.nil_append, List.length_cons, List.length_nil, Nat.zero_add, Nat.reduceAdd] at H2
  unfold AiB at *
  go_enter Try.func11, Try.ntmps11
  go_wp2_with fail
  (with_reducible refine (H1.out _).mono ?_); rintro e w1 ⟨rfl, hb⟩
  have HB1 := Lib.hid (((Below.refl _ _).alloc (Nat.le_refl _) _).trans (hb.mono (by simp)))
  clear hb H1
  go_wp2_with fail
  (with_reducible refine (H2.out _).mono ?_); rintro e w2 ⟨rfl, hb⟩
  have HB2 := Lib.hid ((HB1.out.alloc HB1.out.size _).trans (hb.mono (by have := HB1.out.size; simp; omega)))
  clear hb H2 HB1
  go_wp2
  go_ret
  exact ⟨rfl, HB2.out⟩
end Go.Proofs.Ytcefpkibglideaa

