/-
  Layer 20's law: size, builds, awake. Written by gen_aghelp.py.
-/
import Derived.Test.YtcnpmbgeafkmlaaAgProg
namespace Go.Proofs.Ytcnpmbgeafkmlaa
open Go.ChangeShapes Go.WideShapes Go.ChangeAt Go.RowKit
set_option linter.unusedVariables false

set_option maxHeartbeats 4000000 in
theorem size20_any {A : Option Addr} {c : Nat} {L : List Int} {w : World} (h : SlI A c L w) (hn : L.length ≤ 1000) : Calls Try.prog 9 #[.slice A L.length c] w (AiB (.bool true) w) := by
  have H1 := Lib.hid (psize_any h hn)
  have H2 := Lib.hid (fun (W : World) (hw : Below w.heap.size w W) => rsize_any (h.later hw) (by omega))
  generalize agSV L = x at *
  generalize agSE L = E at *
  clear h
  unfold AiB at *
  generalize L.length = n at *
  go_enter Try.func9, Try.ntmps9
  go_wp2_with fail
  (with_reducible refine H1.out.mono ?_); rintro e w1 ⟨rfl, hb⟩
  have HB := Lib.hid hb
  clear hb H1
  go_wp2_with fail
  (with_reducible refine (H2.out w1 HB.out).mono ?_); rintro e w2 ⟨rfl, rfl⟩
  clear H2
  go_wp2
  go_ret
  exact ⟨rfl, HB.out⟩
set_option maxRecDepth 100000 in
set_option maxHeartbeats 8000000 in
theorem builds_any {A : Option Addr} {c : Nat} {L : List Int} {w : World} (h : SlI A c L w) (hn : L.length ≤ 1000) (p b t k o : Int) : Calls Try.prog 16 #[.slice A L.length c, .agg #[.int .i64 p, .int .i64 b, .int .i64 t], .agg #[.int .i64 k, .int .i64 o]] w (AiB (.bool true) w) := by
  obtain ⟨wB, hwB, hx⟩ := Bx2.all w p b t k o
  obtain ⟨hbel, y0, y1, y2, y3, y4⟩ := hx wB (Below.refl _ _)
  have HX := Lib.hid hx
  have H1 := Lib.hid (pbuild_any (h.later hbel) hn p b t k o)
  have H2 := Lib.hid (fun (W : World) (hw : Below wB.heap.size wB W) => rbuild_any (h.later (hx W hw).bel) (by omega) p b t k o)
  have H3 := Lib.hid (fun (W : World) (hw : Below wB.heap.size wB W) => ppermitted_any (h.later (hx W hw).bel) hn p b t k o)
  have H4 := Lib.hid (fun (W : World) (hw : Below wB.heap.size wB W) => rpermitted_any (h.later (hx W hw).bel) (by omega) p b t k o)
  generalize agBn L p b t k o = x at *
  generalize agBt L p b t k o = y at *
  generalize agBE L p b t k o = E at *
  generalize agP L p b t k o = pm at *
  have hxx : (x == x) = true := by simp
  have hyy : (y == y) = true := by simp
  have hee : (E == E) = true := by simp
  have hpp : (pm == pm) = true := by simp
  clear h hx hbel
  generalize L.length = n at *
  unfold AiB at *
  go_enter Try.func16, Try.ntmps16
  go_wp2_with fail
  (with_reducible refine H1.out.mono ?_); rintro e w1 ⟨rfl, hb⟩
  have HB := Lib.hid hb
  obtain ⟨_, y0, y1, y2, y3, y4⟩ := HX.out w1 HB.out
  clear hb H1
  go_wp2_with fail
  (with_reducible refine (H2.out w1 HB.out).mono ?_); rintro e w2 ⟨rfl, hb⟩
  have HB := Lib.hid (HB.out.trans (hb.mono HB.out.size))
  clear hb H2 y0 y1 y2 y3 y4
  have HC4 := Lib.hid (fun (W : World) (hw : Below w2.drew.heap.size w2.drew W) => (by
    obtain ⟨_, g0, g1, g2, g3, g4⟩ := HX.out W (HB.out.trans (((Below.refl _ w2).drew.trans hw).mono HB.out.size))
    exact ⟨g0, g1, g2, g3, g4⟩ : W.cell? ⟨w.heap.size, 0, none⟩ = some (.int .i64 p) ∧ W.cell? ⟨w.heap.size, 1, none⟩ = some (.int .i64 b) ∧ W.cell? ⟨w.heap.size, 2, none⟩ = some (.int .i64 t) ∧ W.cell? ⟨w.heap.size + 1, 0, none⟩ = some (.int .i64 k) ∧ W.cell? ⟨w.heap.size + 1, 1, none⟩ = some (.int .i64 o)))
  have HP1 := Lib.hid (fun (W : World) (hw : Below w2.drew.heap.size w2.drew W) => H3.out W (HB.out.trans (((Below.refl _ w2).drew.trans hw).mono HB.out.size)))
  have HP2 := Lib.hid (fun (W : World) (hw : Below w2.drew.heap.size w2.drew W) => H4.out W (HB.out.trans (((Below.refl _ w2).drew.trans hw).mono HB.out.size)))
  clear H3 H4
  go_wp2_with fail
  refine wp_region_looseS 53 (by kernel_rfl) (by kernel_rfl) (StB w2.drew (fun vI => [.int .i64 x, .int .i64 x, .bool true, .bool true, .int .i64 y, .int .i64 y, .bool true, .bool true, .bool true, .int .i64 E, .int .i64 E, .bool true, .bool true, .bool true, .slice A n c, .agg #[.int .i64 p, .int .i64 b, .int .i64 t], .agg #[.int .i64 k, .int .i64 o], .bool pm, .slice A n c, .agg #[.int .i64 p, .int .i64 b, .int .i64 t], .agg #[.int .i64 k, .int .i64 o], .bool pm, .bool true, .bool true, .bool true].getD vI undef)) rfl StB.start ?_ ?_
  · simp only [OblAllS]
    refine ⟨?_, ?_, ?_, ?_, ?_, ?_, ?_, ?_, ?_, ?_, ?_, ?_, ?_, ?_, ?_, ?_, ?_, ?_, ?_, ?_, ?_, ?_, ?_, ?_, ?_, trivial⟩
    · intro L wx vals hi hu hcl hC
      have HCx := Lib.hid hC
      clear hC hcl hu hi
      simp only [fillA, if_true, Act.put]
      simp
      go_wp2
      exact ⟨rfl, HCx.out.quiet 0 rfl⟩
    · intro L wx vals hi hu hcl hC
      have HCx := Lib.hid hC
      clear hC hcl hu hi
      simp only [fillA, if_true, Act.put]
      simp
      go_wp2
      exact ⟨rfl, HCx.out.quiet 1 rfl⟩
    · intro L wx vals hi hu hcl hC
      simp [predL, predE, Region.binds, UpL] at hu
      have e0 : vals 0 = .int .i64 x := hC.v 0 (by simp [hu])
      have e1 : vals 1 = .int .i64 x := hC.v 1 (by simp [hu])
      have HCx := Lib.hid hC
      clear hC hcl hu hi
      simp only [fillA, if_true, Act.put]
      simp
      simp only [e0, e1]
      clear e0 e1
      go_wp2
      exact ⟨rfl, HCx.out.quiet 2 rfl⟩
    · intro L wx vals hi hu hcl hC
      simp [predL, predE, Region.binds, UpL] at hu
      have e2 : vals 2 = .bool true := hC.v 2 (by simp [hu])
      have HCx := Lib.hid hC
      clear hC hcl hu hi
      simp only [fillA, if_true, Act.put]
      simp
      simp only [e2]
      clear e2
      go_wp2
      exact ⟨rfl, HCx.out.quiet 3 rfl⟩
    · intro L wx vals hi hu hcl hC
      simp [predL, predE, Region.binds, UpL] at hu
      have e3 : vals 3 = .bool true := hC.v 3 (by simp [hu])
      have HCx := Lib.hid hC
      clear hC hcl hu hi
      simp only [fillA, if_true, Act.put]
      simp
      simp only [e3]
      clear e3
      go_wp2
      exact ⟨rfl, HCx.out.quiet 4 rfl⟩
    · intro L wx vals hi hu hcl hC
      simp [predL, predE, Region.binds, UpL] at hu
      have e3 : vals 3 = .bool true := hC.v 3 (by simp [hu])
      have HCx := Lib.hid hC
      clear hC hcl hu hi
      simp only [fillA, if_true, Act.put]
      simp
      simp only [e3]
      clear e3
      go_wp2
      exact ⟨rfl, HCx.out.quiet 5 rfl⟩
    · intro L wx vals hi hu hcl hC
      simp [predL, predE, Region.binds, UpL] at hu
      have e3 : vals 3 = .bool true := hC.v 3 (by simp [hu])
      have e4 : vals 4 = .int .i64 y := hC.v 4 (by simp [hu])
      have e5 : vals 5 = .int .i64 y := hC.v 5 (by simp [hu])
      have HCx := Lib.hid hC
      clear hC hcl hu hi
      simp only [fillA, if_true, Act.put]
      simp
      simp only [e3, e4, e5]
      clear e3 e4 e5
      go_wp2
      exact ⟨rfl, HCx.out.quiet 6 rfl⟩
    · intro L wx vals hi hu hcl hC
      simp [predL, predE, Region.binds, UpL] at hu
      have e3 : vals 3 = .bool true := hC.v 3 (by simp [hu])
      have e6 : vals 6 = .bool true := hC.v 6 (by simp [hu])
      have HCx := Lib.hid hC
      clear hC hcl hu hi
      simp only [fillA, if_true, Act.put]
      simp
      simp only [e3, e6]
      clear e3 e6
      go_wp2
      exact ⟨rfl, HCx.out.quiet 7 rfl⟩
    · intro L wx vals hi hu hcl hC
      simp [predL, predE, Region.binds, UpL] at hu
      have e7 : vals 7 = .bool true := hC.v 7 (by simp [hu])
      have HCx := Lib.hid hC
      clear hC hcl hu hi
      simp only [fillA, if_true, Act.put]
      simp
      simp only [e7]
      clear e7
      go_wp2
      exact ⟨rfl, HCx.out.quiet 8 rfl⟩
    · intro L wx vals hi hu hcl hC
      simp [predL, predE, Region.binds, UpL] at hu
      have e8 : vals 8 = .bool true := hC.v 8 (by simp [hu])
      have HCx := Lib.hid hC
      clear hC hcl hu hi
      simp only [fillA, if_true, Act.put]
      simp
      simp only [e8]
      clear e8
      go_wp2
      exact ⟨rfl, HCx.out.quiet 9 rfl⟩
    · intro L wx vals hi hu hcl hC
      simp [predL, predE, Region.binds, UpL] at hu
      have e8 : vals 8 = .bool true := hC.v 8 (by simp [hu])
      have HCx := Lib.hid hC
      clear hC hcl hu hi
      simp only [fillA, if_true, Act.put]
      simp
      simp only [e8]
      clear e8
      go_wp2
      exact ⟨rfl, HCx.out.quiet 10 rfl⟩
    · intro L wx vals hi hu hcl hC
      simp [predL, predE, Region.binds, UpL] at hu
      have e8 : vals 8 = .bool true := hC.v 8 (by simp [hu])
      have e9 : vals 9 = .int .i64 E := hC.v 9 (by simp [hu])
      have e10 : vals 10 = .int .i64 E := hC.v 10 (by simp [hu])
      have HCx := Lib.hid hC
      clear hC hcl hu hi
      simp only [fillA, if_true, Act.put]
      simp
      simp only [e8, e9, e10]
      clear e8 e9 e10
      go_wp2
      exact ⟨rfl, HCx.out.quiet 11 rfl⟩
    · intro L wx vals hi hu hcl hC
      simp [predL, predE, Region.binds, UpL] at hu
      have e8 : vals 8 = .bool true := hC.v 8 (by simp [hu])
      have e11 : vals 11 = .bool true := hC.v 11 (by simp [hu])
      have HCx := Lib.hid hC
      clear hC hcl hu hi
      simp only [fillA, if_true, Act.put]
      simp
      simp only [e8, e11]
      clear e8 e11
      go_wp2
      exact ⟨rfl, HCx.out.quiet 12 rfl⟩
    · intro L wx vals hi hu hcl hC
      simp [predL, predE, Region.binds, UpL] at hu
      have e12 : vals 12 = .bool true := hC.v 12 (by simp [hu])
      have HCx := Lib.hid hC
      clear hC hcl hu hi
      simp only [fillA, if_true, Act.put]
      simp
      simp only [e12]
      clear e12
      go_wp2
      exact ⟨rfl, HCx.out.quiet 13 rfl⟩
    · intro L wx vals hi hu hcl hC
      simp [predL, predE, Region.binds, UpL] at hu
      have e13 : vals 13 = .bool true := hC.v 13 (by simp [hu])
      have HCx := Lib.hid hC
      clear hC hcl hu hi
      simp only [fillA, if_true, Act.put]
      simp
      simp only [e13]
      clear e13
      go_wp2
      exact ⟨rfl, HCx.out.quiet 14 rfl⟩
    · intro L wx vals hi hu hcl hC
      simp [predL, predE, Region.binds, UpL] at hu
      have e13 : vals 13 = .bool true := hC.v 13 (by simp [hu])
      have h0 := (HC4.out wx hC.b).1
      have h1 := (HC4.out wx hC.b).2.1
      have h2 := (HC4.out wx hC.b).2.2.1
      have HCx := Lib.hid hC
      clear hC hcl hu hi
      simp only [fillA, if_true, Act.put]
      simp
      simp only [e13]
      clear e13
      go_wp2
      exact ⟨rfl, HCx.out.quiet 15 rfl⟩
    · intro L wx vals hi hu hcl hC
      simp [predL, predE, Region.binds, UpL] at hu
      have e13 : vals 13 = .bool true := hC.v 13 (by simp [hu])
      have h0 := (HC4.out wx hC.b).2.2.2.1
      have h1 := (HC4.out wx hC.b).2.2.2.2
      have HCx := Lib.hid hC
      clear hC hcl hu hi
      simp only [fillA, if_true, Act.put]
      simp
      simp only [e13]
      clear e13
      go_wp2
      exact ⟨rfl, HCx.out.quiet 16 rfl⟩
    · intro L wx vals hi hu hcl hC
      simp [predL, predE, Region.binds, UpL] at hu
      have e13 : vals 13 = .bool true := hC.v 13 (by simp [hu])
      have e14 : vals 14 = .slice A n c := hC.v 14 (by simp [hu])
      have e15 : vals 15 = .agg #[.int .i64 p, .int .i64 b, .int .i64 t] := hC.v 15 (by simp [hu])
      have e16 : vals 16 = .agg #[.int .i64 k, .int .i64 o] := hC.v 16 (by simp [hu])
      have HL := Lib.hid (HP1.out wx hC.b)
      have HCx := Lib.hid hC
      clear hC hcl hu hi
      simp only [fillA, if_true, Act.put]
      simp
      simp only [e13, e14, e15, e16]
      clear e13 e14 e15 e16
      go_wp2_with fail
      (with_reducible refine HL.out.mono ?_); rintro e w9 ⟨rfl, hb⟩
      have HX := Lib.hid (HCx.out.step 17 (x := .bool pm) rfl (HCx.out.b.trans (hb.mono HCx.out.b.size)))
      clear hb
      go_wp2
      exact ⟨rfl, HX.out⟩
    · intro L wx vals hi hu hcl hC
      simp [predL, predE, Region.binds, UpL] at hu
      have e13 : vals 13 = .bool true := hC.v 13 (by simp [hu])
      have HCx := Lib.hid hC
      clear hC hcl hu hi
      simp only [fillA, if_true, Act.put]
      simp
      simp only [e13]
      clear e13
      go_wp2
      exact ⟨rfl, HCx.out.quiet 18 rfl⟩
    · intro L wx vals hi hu hcl hC
      simp [predL, predE, Region.binds, UpL] at hu
      have e13 : vals 13 = .bool true := hC.v 13 (by simp [hu])
      have h0 := (HC4.out wx hC.b).1
      have h1 := (HC4.out wx hC.b).2.1
      have h2 := (HC4.out wx hC.b).2.2.1
      have HCx := Lib.hid hC
      clear hC hcl hu hi
      simp only [fillA, if_true, Act.put]
      simp
      simp only [e13]
      clear e13
      go_wp2
      exact ⟨rfl, HCx.out.quiet 19 rfl⟩
    · intro L wx vals hi hu hcl hC
      simp [predL, predE, Region.binds, UpL] at hu
      have e13 : vals 13 = .bool true := hC.v 13 (by simp [hu])
      have h0 := (HC4.out wx hC.b).2.2.2.1
      have h1 := (HC4.out wx hC.b).2.2.2.2
      have HCx := Lib.hid hC
      clear hC hcl hu hi
      simp only [fillA, if_true, Act.put]
      simp
      simp only [e13]
      clear e13
      go_wp2
      exact ⟨rfl, HCx.out.quiet 20 rfl⟩
    · intro L wx vals hi hu hcl hC
      simp [predL, predE, Region.binds, UpL] at hu
      have e13 : vals 13 = .bool true := hC.v 13 (by simp [hu])
      have e18 : vals 18 = .slice A n c := hC.v 18 (by simp [hu])
      have e19 : vals 19 = .agg #[.int .i64 p, .int .i64 b, .int .i64 t] := hC.v 19 (by simp [hu])
      have e20 : vals 20 = .agg #[.int .i64 k, .int .i64 o] := hC.v 20 (by simp [hu])
      have HL := Lib.hid (HP2.out wx hC.b)
      have HCx := Lib.hid hC
      clear hC hcl hu hi
      simp only [fillA, if_true, Act.put]
      simp
      simp only [e13, e18, e19, e20]
      clear e13 e18 e19 e20
      go_wp2_with fail
      (with_reducible refine HL.out.mono ?_); rintro e w9 ⟨rfl, hb⟩
      have HX := Lib.hid (HCx.out.step 21 (x := .bool pm) rfl (HCx.out.b.trans (hb.mono HCx.out.b.size)))
      clear hb
      go_wp2
      exact ⟨rfl, HX.out⟩
    · intro L wx vals hi hu hcl hC
      simp [predL, predE, Region.binds, UpL] at hu
      have e13 : vals 13 = .bool true := hC.v 13 (by simp [hu])
      have e17 : vals 17 = .bool pm := hC.v 17 (by simp [hu])
      have e21 : vals 21 = .bool pm := hC.v 21 (by simp [hu])
      have HCx := Lib.hid hC
      clear hC hcl hu hi
      simp only [fillA, if_true, Act.put]
      simp
      simp only [e13, e17, e21]
      clear e13 e17 e21
      go_wp2
      exact ⟨rfl, HCx.out.quiet 22 rfl⟩
    · intro L wx vals hi hu hcl hC
      simp [predL, predE, Region.binds, UpL] at hu
      have e13 : vals 13 = .bool true := hC.v 13 (by simp [hu])
      have e22 : vals 22 = .bool true := hC.v 22 (by simp [hu])
      have HCx := Lib.hid hC
      clear hC hcl hu hi
      simp only [fillA, if_true, Act.put]
      simp
      simp only [e13, e22]
      clear e13 e22
      go_wp2
      exact ⟨rfl, HCx.out.quiet 23 rfl⟩
    · intro L wx vals hi hu hcl hC
      simp [predL, predE, Region.binds, UpL] at hu
      have e23 : vals 23 = .bool true := hC.v 23 (by simp [hu])
      have HCx := Lib.hid hC
      clear hC hcl hu hi
      simp only [fillA, if_true, Act.put]
      simp
      simp only [e23]
      clear e23
      go_wp2
      exact ⟨rfl, HCx.out.quiet 24 rfl⟩
  · intro wz vals U hC hall
    have e24 : vals 24 = .bool true := hC.v 24 (hall 24 (by simp))
    have HF := Lib.hid (HX.out wz (HB.out.trans (((Below.refl _ w2).drew.trans hC.b).mono HB.out.size))).bel
    simp only [fillA, if_true, Act.put]
    simp
    simp only [e24]
    clear hC hall e24 HC4 HP1 HP2 HB HX
    generalize vals 0 = t_0 at *
    generalize vals 1 = t_1 at *
    generalize vals 2 = t_2 at *
    generalize vals 3 = t_3 at *
    generalize vals 4 = t_4 at *
    generalize vals 5 = t_5 at *
    generalize vals 6 = t_6 at *
    generalize vals 7 = t_7 at *
    generalize vals 8 = t_8 at *
    generalize vals 9 = t_9 at *
    generalize vals 10 = t_10 at *
    generalize vals 11 = t_11 at *
    generalize vals 12 = t_12 at *
    generalize vals 13 = t_13 at *
    generalize vals 14 = t_14 at *
    generalize vals 15 = t_15 at *
    generalize vals 16 = t_16 at *
    generalize vals 17 = t_17 at *
    generalize vals 18 = t_18 at *
    generalize vals 19 = t_19 at *
    generalize vals 20 = t_20 at *
    generalize vals 21 = t_21 at *
    generalize vals 22 = t_22 at *
    generalize vals 23 = t_23 at *
    generalize vals 24 = t_24 at *
    go_wp2
    go_ret
    exact ⟨rfl, HF.out⟩
theorem ag_aw : agBn [100, 200, 300] 2 1000 100000 8000 0 = 2 ∧ agBt [100, 200, 300] 2 1000 100000 8000 0 = 304 ∧ agBE [100, 200, 300] 2 1000 100000 8000 0 = 0 := by decide +kernel
set_option maxHeartbeats 4000000 in
theorem awake20_any (w : World) : Calls Try.prog 13 #[] w (AiB (.bool true) w) := by
  have hb0 := (Below.refl w.heap.size w).alloc (Nat.le_refl _) (.cells #[.int .i64 100, .int .i64 200, .int .i64 300] 3)
  have hs : SlI (some ⟨w.heap.size, 0, none⟩) 3 [100, 200, 300] (w.alloc (.cells #[.int .i64 100, .int .i64 200, .int .i64 300] 3)) := by
    refine ⟨by decide, fun i hi => ⟨w.heap.size, 0, rfl, Nat.zero_le _, by simp, fun j hj => ?_⟩⟩
    have hf := Whole.fresh w 3 #[.int .i64 100, .int .i64 200, .int .i64 300]
    have : i = 0 ∨ i = 1 ∨ i = 2 := by simp at hi; omega
    obtain rfl : j = 0 := by omega
    rcases this with rfl | rfl | rfl <;> exact (hf.read _).trans rfl
  have H1 := Lib.hid (pbuild_any hs (by decide) 2 1000 100000 8000 0)
  rw [ag_aw.1, ag_aw.2.1, ag_aw.2.2, show ([100, 200, 300] : List Int).length = 3 from rfl] at H1
  have HB := Lib.hid hb0
  clear hb0 hs
  unfold AiB at *
  go_enter Try.func13, Try.ntmps13
  go_wp2_with fail
  (with_reducible refine H1.out.mono ?_); rintro e w1 ⟨rfl, hb⟩
  have HF := Lib.hid (HB.out.trans (hb.mono (by simp)))
  clear hb H1
  go_wp2
  go_ret
  exact ⟨rfl, HF.out⟩
end Go.Proofs.Ytcnpmbgeafkmlaa

