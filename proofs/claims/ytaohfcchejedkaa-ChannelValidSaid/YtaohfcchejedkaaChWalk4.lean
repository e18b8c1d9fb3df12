/-
  Layer 15: the walk of the statement on predictors (ChannelValid). Every input; no condition. Written by gen_chwalk4.py.
-/
import Derived.Test.YtaohfcchejedkaaChAwake
import Derived.Test.YtaohfcchejedkaaStK
import Derived.Test.YtaohfcchejedkaaLenGen
namespace Go.Proofs.Ytaohfcchejedkaa
open Go.ChangeShapes Go.WideShapes Go.ChangeAt Go.RowKit
set_option linter.unusedVariables false

/-- New, where nothing is kept of the channel. -/
theorem pnew_below {p : Pd} (hp : pdB p = true) (w : World) : Calls Try.prog 9 #[aggPd p] w fun e w' => ∃ R, e = .returned (.tuple #[.pointer (some ⟨R, 0, none⟩), .int .i64 0]) ∧ Below w.heap.size w w' := by
  refine (pnew_any hp (base := w.heap.size) (fun _ => False) w (fun k h => h) (fun k h => h.elim) (Nat.le_refl _)).mono ?_
  rintro e w' ⟨R, e1, _, hc⟩
  exact ⟨R, e1, hc.below (Nat.le_refl _) fun k h => h.elim⟩
def nL : List Int := [0, 1, 3, 32, 33]
set_option maxRecDepth 100000 in
set_option maxHeartbeats 16000000 in
theorem walkValid15 (A : Option Addr) (len cap : Nat) (p : Pd) (w : World) (he : Elems w.heap.size A len w) :
    Calls Try.prog 3 #[.slice A len cap, aggPd p] w (Calm (.bool true) w) := by
  have HAW := Lib.hid (fun w => awake15_any w)
  have HPV := Lib.hid (fun p w => pvalidC_any p w)
  have HRV := Lib.hid (fun p w => rvalidP_any p w)
  have HNY := Lib.hid (fun p hp w => pnew_below (p := p) hp w)
  have HNN := Lib.hid (fun p hp w => pnew_no (p := p) hp w)
  obtain ⟨pk, pK, pN⟩ := p
  obtain ⟨w1, hw1⟩ : ∃ w1, w.alloc (.cells #[.int .i64 pk, .int .i64 pK, .int .i64 pN] 24) = w1 := ⟨_, rfl⟩
  have hz := Whole.fresh w 24 #[.int .i64 pk, .int .i64 pK, .int .i64 pN]
  have hb01 := (Below.refl w.heap.size w).alloc (Nat.le_refl _) (.cells #[.int .i64 pk, .int .i64 pK, .int .i64 pN] 24)
  have hel : Elems w1.heap.size A len w1 := by rw [← hw1]; exact elems_up (he.kept hb01) (by simp)
  rw [hw1] at hz hb01
  have HG := Lib.hid (Has.new (cap := cap) hel)
  have HZ := Lib.hid (fun (W : World) (hb : Below w1.heap.size w1 W) => (⟨by rw [(hz.later hb).read]; rfl, by rw [(hz.later hb).read]; rfl, by rw [(hz.later hb).read]; rfl⟩ : W.cell? ⟨w.heap.size, 0, none⟩ = some (.int .i64 pk) ∧ W.cell? ⟨w.heap.size, 1, none⟩ = some (.int .i64 pK) ∧ W.cell? ⟨w.heap.size, 2, none⟩ = some (.int .i64 pN)))
  have HB01 := Lib.hid hb01
  obtain ⟨B, hB⟩ : ∃ B, w1.heap.size = B := ⟨_, rfl⟩
  rw [hB] at HG HZ
  have HBE := Lib.hid hB
  clear he hz hb01 hel hB
  unfold Calm aggPd
  go_enter Try.func3, Try.ntmps3
  go_wp2_with fail
  (with_reducible refine (new_any A len cap _).mono ?_); rintro e w' ⟨rfl, rfl⟩
  simp only [HBE.out]
  go_wp2
  go_loopw [6] (fun s6 wr => ∃ k q : Nat, k ≤ 12 ∧ s6 = .int .i64 k ∧ q ≤ 3 * k ∧ Hid (Has B A len cap q w1 wr)) (fun s6 _ => 12 - (intOf s6).toNat)
  case atStart => exact ⟨0, 0, by omega, rfl, by omega, HG⟩
  case round =>
    obtain ⟨i, q, hk, rfl, hq, HG⟩ := hrel
    by_cases hlt : i < 12
    · have hlt' : (i : Int) < 12 := by omega
      have HX := Lib.hid (has_next B A len cap q 5 w1 wr HG.out (by omega) (by omega) (by omega))
      clear HG
      go_wp2_with fail
      (with_reducible refine HX.out.mono ?_); rintro e w2 ⟨x, x0, x1, rfl, h1, _⟩
      obtain ⟨k, hkx⟩ : ∃ k, x - 1 = k := ⟨_, rfl⟩
      have hwk : IntKind.i64.wrap (x - 1) = k := by rw [hkx]; exact IntWalk.i64_in _ (by omega)
      clear hkx
      have HX := Lib.hid (has_next B A len cap (q + 1) 4 w1 w2 h1 (by omega) (by omega) (by omega))
      clear h1
      go_wp2_with fail
      (with_reducible refine HX.out.mono ?_); rintro e w3 ⟨K, K0, K1, rfl, h1, _⟩
      have hlb := h1.1.lt
      have HX := Lib.hid (has_next B A len cap (q + 1 + 1) 5 w1 _ (h1.alloc (.cells #[.int .i64 0, .int .i64 1, .int .i64 3, .int .i64 32, .int .i64 33] 3)) (by omega) (by omega) (by omega))
      clear h1
      go_wp2_with fail
      (with_reducible refine HX.out.mono ?_); rintro e w4 ⟨z, z0, z1, rfl, h1, ho⟩
      obtain ⟨zz, rfl⟩ := Int.eq_ofNat_of_zero_le z0
      obtain ⟨M, _, hc⟩ := pickN (L := nL) rfl ho hlb (n := zz) (by show zz < 5; omega)
      have hzz : (zz : Int) < 5 := z1
      have HH := Lib.hid (h1.alloc (.cells #[.int .i64 k, .int .i64 K, .int .i64 M] 24))
      have HW4 := Lib.hid (Whole.fresh w4 24 #[.int .i64 k, .int .i64 K, .int .i64 M])
      have HY := HNY.out ⟨k, K, M⟩
      have HN := HNN.out ⟨k, K, M⟩
      have hP1 := HPV.out ⟨k, K, M⟩
      have hR1 := HRV.out ⟨k, K, M⟩
      unfold aggPd at HY HN hP1 hR1
      simp only at HY HN hP1 hR1
      clear h1 ho hlb HX x0 x1 K0 K1 z0
      generalize pdB ⟨k, K, M⟩ = vb at *
      cases vb
      · have HNW := Lib.hid (HN rfl (w4.alloc (.cells #[.int .i64 k, .int .i64 K, .int .i64 M] 24)))
        unfold Calm at HNW
        clear HY HN
        go_wp2_with fail
        (with_reducible refine HNW.out.mono ?_); rintro e w5 ⟨rfl, hb⟩
        have hw5 := HW4.out.later hb
        have HH5 := Lib.hid (HH.out.below hb)
        have HC4 := Lib.hid (fun (W : World) (hw : Below w5.drew.heap.size w5.drew W) => (⟨by rw [(hw5.later ((Below.refl _ w5).drew.trans hw)).read]; rfl, by rw [(hw5.later ((Below.refl _ w5).drew.trans hw)).read]; rfl, by rw [(hw5.later ((Below.refl _ w5).drew.trans hw)).read]; rfl⟩ : W.cell? ⟨w4.heap.size, 0, none⟩ = some (.int .i64 k) ∧ W.cell? ⟨w4.heap.size, 1, none⟩ = some (.int .i64 K) ∧ W.cell? ⟨w4.heap.size, 2, none⟩ = some (.int .i64 M)))
        have HV1 := Lib.hid (fun (W : World) (hw : Below w5.drew.heap.size w5.drew W) => hP1 W)
        have HV2 := Lib.hid (fun (W : World) (hw : Below w5.drew.heap.size w5.drew W) => hR1 W)
        unfold Calm at HV1 HV2
        clear hb hw5 HW4 HH HNW hP1 hR1
        go_wp2_with fail
        refine wp_region_looseS 64 (by kernel_rfl) (by kernel_rfl) (StK w5.drew (fun vI => [some (.agg #[.int .i64 k, .int .i64 K, .int .i64 M]), some (.bool false), some (.agg #[.int .i64 k, .int .i64 K, .int .i64 M]), some (.bool false), some (.bool false), some (.bool false), some (.int .i64 1), some (.bool false), some (.agg #[.int .i64 k, .int .i64 K, .int .i64 M]), some (.bool false), some (.bool false), some (.bool false), some (.bool false), some (.int .i64 1), some (.bool true), some (.bool true), some (.int .i64 1), some (.bool false), some (.bool false), some (.pointer none), some (.bool false), some (.bool false), some (.bool false), some (.bool false)].getD vI none)) rfl StK.start ?_ ?_
        · simp only [OblAllS]
          refine ⟨?_, ?_, ?_, ?_, ?_, ?_, ?_, ?_, ?_, ?_, ?_, ?_, ?_, ?_, ?_, ?_, ?_, ?_, ?_, ?_, ?_, ?_, ?_, ?_, trivial⟩
          · intro L wx vals hi hu hcl hC
            have h0 := (HC4.out wx hC.b).1
            have h1 := (HC4.out wx hC.b).2.1
            have h2 := (HC4.out wx hC.b).2.2
            have HCx := Lib.hid hC
            clear hC hcl hu hi
            simp only [fillA, if_true, Act.put]
            simp
            go_wp2
            exact ⟨rfl, HCx.out.quiet 0 (some_is rfl)⟩
          · intro L wx vals hi hu hcl hC
            simp [predL, predE, Region.binds, UpL] at hu
            have e0 : vals 0 = .agg #[.int .i64 k, .int .i64 K, .int .i64 M] := hC.v 0 _ rfl (by simp [hu])
            have HL := Lib.hid (HV1.out wx hC.b)
            have HCx := Lib.hid hC
            clear hC hcl hu hi
            simp only [fillA, if_true, Act.put]
            simp
            simp only [e0]
            clear e0
            go_wp2_with fail
            (with_reducible refine HL.out.mono ?_); rintro e w9 ⟨rfl, hb⟩
            have HX := Lib.hid (HCx.out.step 1 (some_is (u := .bool false) rfl) (HCx.out.b.trans (hb.mono HCx.out.b.size)))
            clear hb
            go_wp2
            exact ⟨rfl, HX.out⟩
          · intro L wx vals hi hu hcl hC
            have h0 := (HC4.out wx hC.b).1
            have h1 := (HC4.out wx hC.b).2.1
            have h2 := (HC4.out wx hC.b).2.2
            have HCx := Lib.hid hC
            clear hC hcl hu hi
            simp only [fillA, if_true, Act.put]
            simp
            go_wp2
            exact ⟨rfl, HCx.out.quiet 2 (some_is rfl)⟩
          · intro L wx vals hi hu hcl hC
            simp [predL, predE, Region.binds, UpL] at hu
            have e2 : vals 2 = .agg #[.int .i64 k, .int .i64 K, .int .i64 M] := hC.v 2 _ rfl (by simp [hu])
            have HL := Lib.hid (HV2.out wx hC.b)
            have HCx := Lib.hid hC
            clear hC hcl hu hi
            simp only [fillA, if_true, Act.put]
            simp
            simp only [e2]
            clear e2
            go_wp2_with fail
            (with_reducible refine HL.out.mono ?_); rintro e w9 ⟨rfl, hb⟩
            have HX := Lib.hid (HCx.out.step 3 (some_is (u := .bool false) rfl) (HCx.out.b.trans (hb.mono HCx.out.b.size)))
            clear hb
            go_wp2
            exact ⟨rfl, HX.out⟩
          · intro L wx vals hi hu hcl hC
            simp [predL, predE, Region.binds, UpL] at hu
            have e1 : vals 1 = .bool false := hC.v 1 _ rfl (by simp [hu])
            have e3 : vals 3 = .bool false := hC.v 3 _ rfl (by simp [hu])
            have HCx := Lib.hid hC
            clear hC hcl hu hi
            simp only [fillA, if_true, Act.put]
            simp
            simp only [e1, e3]
            clear e1 e3
            go_wp2
            exact ⟨rfl, HCx.out.quiet 4 (some_is rfl)⟩
          · intro L wx vals hi hu hcl hC
            simp [predL, predE, Region.binds, UpL] at hu
            have e4 : vals 4 = .bool false := hC.v 4 _ rfl (by simp [hu])
            have HCx := Lib.hid hC
            clear hC hcl hu hi
            simp only [fillA, if_true, Act.put]
            simp
            simp only [e4]
            clear e4
            go_wp2
            exact ⟨rfl, HCx.out.quiet 5 (some_is rfl)⟩
          · intro L wx vals hi hu hcl hC
            simp [predL, predE, Region.binds, UpL] at hu
            have e5 : vals 5 = .bool false := hC.v 5 _ rfl (by simp [hu])
            have HCx := Lib.hid hC
            clear hC hcl hu hi
            simp only [fillA, if_true, Act.put]
            simp
            simp only [e5]
            clear e5
            go_wp2
            exact ⟨rfl, HCx.out.quiet 6 (some_is rfl)⟩
          · intro L wx vals hi hu hcl hC
            simp [predL, predE, Region.binds, UpL] at hu
            have e5 : vals 5 = .bool false := hC.v 5 _ rfl (by simp [hu])
            have e6 : vals 6 = .int .i64 1 := hC.v 6 _ rfl (by simp [hu])
            have HCx := Lib.hid hC
            clear hC hcl hu hi
            simp only [fillA, if_true, Act.put]
            simp
            simp only [e5, e6]
            clear e5 e6
            go_wp2
            exact ⟨rfl, HCx.out.quiet 7 (some_is rfl)⟩
          · intro L wx vals hi hu hcl hC
            simp [predL, predE, Region.binds, UpL] at hu
            have e5 : vals 5 = .bool false := hC.v 5 _ rfl (by simp [hu])
            have h0 := (HC4.out wx hC.b).1
            have h1 := (HC4.out wx hC.b).2.1
            have h2 := (HC4.out wx hC.b).2.2
            have HCx := Lib.hid hC
            clear hC hcl hu hi
            simp only [fillA, if_true, Act.put]
            simp
            simp only [e5]
            clear e5
            go_wp2
            exact ⟨rfl, HCx.out.quiet 8 (some_is rfl)⟩
          · intro L wx vals hi hu hcl hC
            simp [predL, predE, Region.binds, UpL] at hu
            have e5 : vals 5 = .bool false := hC.v 5 _ rfl (by simp [hu])
            have e8 : vals 8 = .agg #[.int .i64 k, .int .i64 K, .int .i64 M] := hC.v 8 _ rfl (by simp [hu])
            have HL := Lib.hid (HV2.out wx hC.b)
            have HCx := Lib.hid hC
            clear hC hcl hu hi
            simp only [fillA, if_true, Act.put]
            simp
            simp only [e5, e8]
            clear e5 e8
            go_wp2_with fail
            (with_reducible refine HL.out.mono ?_); rintro e w9 ⟨rfl, hb⟩
            have HX := Lib.hid (HCx.out.step 9 (some_is (u := .bool false) rfl) (HCx.out.b.trans (hb.mono HCx.out.b.size)))
            clear hb
            go_wp2
            exact ⟨rfl, HX.out⟩
          · intro L wx vals hi hu hcl hC
            simp [predL, predE, Region.binds, UpL] at hu
            have e5 : vals 5 = .bool false := hC.v 5 _ rfl (by simp [hu])
            have e7 : vals 7 = .bool false := hC.v 7 _ rfl (by simp [hu])
            have e9 : vals 9 = .bool false := hC.v 9 _ rfl (by simp [hu])
            have HCx := Lib.hid hC
            clear hC hcl hu hi
            simp only [fillA, if_true, Act.put]
            simp
            simp only [e5, e7, e9]
            clear e5 e7 e9
            go_wp2
            exact ⟨rfl, HCx.out.quiet 10 (some_is rfl)⟩
          · intro L wx vals hi hu hcl hC
            simp [predL, predE, Region.binds, UpL] at hu
            have e5 : vals 5 = .bool false := hC.v 5 _ rfl (by simp [hu])
            have e10 : vals 10 = .bool false := hC.v 10 _ rfl (by simp [hu])
            have HCx := Lib.hid hC
            clear hC hcl hu hi
            simp only [fillA, if_true, Act.put]
            simp
            simp only [e5, e10]
            clear e5 e10
            go_wp2
            exact ⟨rfl, HCx.out.quiet 11 (some_is rfl)⟩
          · intro L wx vals hi hu hcl hC
            simp [predL, predE, Region.binds, UpL] at hu
            have e11 : vals 11 = .bool false := hC.v 11 _ rfl (by simp [hu])
            have HCx := Lib.hid hC
            clear hC hcl hu hi
            simp only [fillA, if_true, Act.put]
            simp
            simp only [e11]
            clear e11
            go_wp2
            exact ⟨rfl, HCx.out.quiet 12 (some_is rfl)⟩
          · intro L wx vals hi hu hcl hC
            simp [predL, predE, Region.binds, UpL] at hu
            have e12 : vals 12 = .bool false := hC.v 12 _ rfl (by simp [hu])
            have HCx := Lib.hid hC
            clear hC hcl hu hi
            simp only [fillA, if_true, Act.put]
            simp
            simp only [e12]
            clear e12
            go_wp2
            exact ⟨rfl, HCx.out.quiet 13 (some_is rfl)⟩
          · intro L wx vals hi hu hcl hC
            simp [predL, predE, Region.binds, UpL] at hu
            have e12 : vals 12 = .bool false := hC.v 12 _ rfl (by simp [hu])
            have e13 : vals 13 = .int .i64 1 := hC.v 13 _ rfl (by simp [hu])
            have HCx := Lib.hid hC
            clear hC hcl hu hi
            simp only [fillA, if_true, Act.put]
            simp
            simp only [e12, e13]
            clear e12 e13
            go_wp2
            exact ⟨rfl, HCx.out.quiet 14 (some_is rfl)⟩
          · intro L wx vals hi hu hcl hC
            simp [predL, predE, Region.binds, UpL] at hu
            have e12 : vals 12 = .bool false := hC.v 12 _ rfl (by simp [hu])
            have e14 : vals 14 = .bool true := hC.v 14 _ rfl (by simp [hu])
            have HCx := Lib.hid hC
            clear hC hcl hu hi
            simp only [fillA, if_true, Act.put]
            simp
            simp only [e12, e14]
            clear e12 e14
            go_wp2
            exact ⟨rfl, HCx.out.quiet 15 (some_is rfl)⟩
          · intro L wx vals hi hu hcl hC
            simp [predL, predE, Region.binds, UpL] at hu
            have e15 : vals 15 = .bool true := hC.v 15 _ rfl (by simp [hu])
            have HCx := Lib.hid hC
            clear hC hcl hu hi
            simp only [fillA, if_true, Act.put]
            simp
            simp only [e15]
            clear e15
            go_wp2
            exact ⟨rfl, HCx.out.quiet 16 (some_is rfl)⟩
          · intro L wx vals hi hu hcl hC
            simp [predL, predE, Region.binds, UpL] at hu
            have e15 : vals 15 = .bool true := hC.v 15 _ rfl (by simp [hu])
            have e16 : vals 16 = .int .i64 1 := hC.v 16 _ rfl (by simp [hu])
            have HCx := Lib.hid hC
            clear hC hcl hu hi
            simp only [fillA, if_true, Act.put]
            simp
            simp only [e15, e16]
            clear e15 e16
            go_wp2
            exact ⟨rfl, HCx.out.quiet 17 (some_is rfl)⟩
          · intro L wx vals hi hu hcl hC
            simp [predL, predE, Region.binds, UpL] at hu
            have e15 : vals 15 = .bool true := hC.v 15 _ rfl (by simp [hu])
            have e17 : vals 17 = .bool false := hC.v 17 _ rfl (by simp [hu])
            have HCx := Lib.hid hC
            clear hC hcl hu hi
            simp only [fillA, if_true, Act.put]
            simp
            simp only [e15, e17]
            clear e15 e17
            go_wp2
            exact ⟨rfl, HCx.out.quiet 18 (some_is rfl)⟩
          · intro L wx vals hi hu hcl hC
            simp [predL, predE, Region.binds, UpL] at hu
            have e18 : vals 18 = .bool false := hC.v 18 _ rfl (by simp [hu])
            have HCx := Lib.hid hC
            clear hC hcl hu hi
            simp only [fillA, if_true, Act.put]
            simp
            simp only [e18]
            clear e18
            go_wp2
            exact ⟨rfl, HCx.out.quiet 19 (some_is rfl)⟩
          · intro L wx vals hi hu hcl hC
            simp [predL, predE, Region.binds, UpL] at hu
            have e18 : vals 18 = .bool false := hC.v 18 _ rfl (by simp [hu])
            have e19 : vals 19 = .pointer none := hC.v 19 _ rfl (by simp [hu])
            have HCx := Lib.hid hC
            clear hC hcl hu hi
            simp only [fillA, if_true, Act.put]
            simp
            simp only [e18, e19]
            clear e18 e19
            go_wp2
            exact ⟨rfl, HCx.out.quiet 20 (some_is rfl)⟩
          · intro L wx vals hi hu hcl hC
            simp [predL, predE, Region.binds, UpL] at hu
            have e15 : vals 15 = .bool true := hC.v 15 _ rfl (by simp [hu])
            have e18 : vals 18 = .bool false := hC.v 18 _ rfl (by simp [hu])
            have e20 : vals 20 = .bool false := hC.v 20 _ rfl (by simp [hu])
            have HCx := Lib.hid hC
            clear hC hcl hu hi
            simp only [fillA, if_true, Act.put]
            simp
            simp only [e15, e18, e20]
            clear e15 e18 e20
            go_wp2
            exact ⟨rfl, HCx.out.quiet 21 (some_is rfl)⟩
          · intro L wx vals hi hu hcl hC
            simp [predL, predE, Region.binds, UpL] at hu
            have e12 : vals 12 = .bool false := hC.v 12 _ rfl (by simp [hu])
            have e15 : vals 15 = .bool true := hC.v 15 _ rfl (by simp [hu])
            have e21 : vals 21 = .bool false := hC.v 21 _ rfl (by simp [hu])
            have HCx := Lib.hid hC
            clear hC hcl hu hi
            simp only [fillA, if_true, Act.put]
            simp
            simp only [e12, e15, e21]
            clear e12 e15 e21
            go_wp2
            exact ⟨rfl, HCx.out.quiet 22 (some_is rfl)⟩
          · intro L wx vals hi hu hcl hC
            simp [predL, predE, Region.binds, UpL] at hu
            have e12 : vals 12 = .bool false := hC.v 12 _ rfl (by simp [hu])
            have e22 : vals 22 = .bool false := hC.v 22 _ rfl (by simp [hu])
            have HCx := Lib.hid hC
            clear hC hcl hu hi
            simp only [fillA, if_true, Act.put]
            simp
            simp only [e12, e22]
            clear e12 e22
            go_wp2
            exact ⟨rfl, HCx.out.quiet 23 (some_is rfl)⟩
        · intro wz vals U hC hall
          have e23 : vals 23 = .bool false := hC.v 23 _ rfl (hall 23 (by simp))
          have HH6 := Lib.hid (HH5.out.below ((Below.refl _ w5).drew.trans hC.b))
          simp only [fillA, if_true, Act.put]
          simp
          simp only [e23]
          clear hC hall e23 HC4 HH5
          generalize vals 0 = o0 at *
          generalize vals 1 = o1 at *
          generalize vals 2 = o2 at *
          generalize vals 3 = o3 at *
          generalize vals 4 = o4 at *
          generalize vals 5 = o5 at *
          generalize vals 6 = o6 at *
          generalize vals 7 = o7 at *
          generalize vals 8 = o8 at *
          generalize vals 9 = o9 at *
          generalize vals 10 = o10 at *
          generalize vals 11 = o11 at *
          generalize vals 12 = o12 at *
          generalize vals 13 = o13 at *
          generalize vals 14 = o14 at *
          generalize vals 15 = o15 at *
          generalize vals 16 = o16 at *
          generalize vals 17 = o17 at *
          generalize vals 18 = o18 at *
          generalize vals 19 = o19 at *
          generalize vals 20 = o20 at *
          generalize vals 21 = o21 at *
          generalize vals 22 = o22 at *
          go_wp2
          go_roundw
          case rel => exact ⟨i + 1, q + 1 + 1 + 1, by omega, by go_num, by omega, HH6⟩
          case measure => simp [intOf]; omega
      · have HNW := Lib.hid (HY rfl (w4.alloc (.cells #[.int .i64 k, .int .i64 K, .int .i64 M] 24)))
        clear HY HN
        go_wp2_with fail
        (with_reducible refine HNW.out.mono ?_); rintro e w5 ⟨R, rfl, hb⟩
        have hw5 := HW4.out.later hb
        have HH5 := Lib.hid (HH.out.below hb)
        have HC4 := Lib.hid (fun (W : World) (hw : Below w5.drew.heap.size w5.drew W) => (⟨by rw [(hw5.later ((Below.refl _ w5).drew.trans hw)).read]; rfl, by rw [(hw5.later ((Below.refl _ w5).drew.trans hw)).read]; rfl, by rw [(hw5.later ((Below.refl _ w5).drew.trans hw)).read]; rfl⟩ : W.cell? ⟨w4.heap.size, 0, none⟩ = some (.int .i64 k) ∧ W.cell? ⟨w4.heap.size, 1, none⟩ = some (.int .i64 K) ∧ W.cell? ⟨w4.heap.size, 2, none⟩ = some (.int .i64 M)))
        have HV1 := Lib.hid (fun (W : World) (hw : Below w5.drew.heap.size w5.drew W) => hP1 W)
        have HV2 := Lib.hid (fun (W : World) (hw : Below w5.drew.heap.size w5.drew W) => hR1 W)
        unfold Calm at HV1 HV2
        clear hb hw5 HW4 HH HNW hP1 hR1
        go_wp2_with fail
        refine wp_region_looseS 64 (by kernel_rfl) (by kernel_rfl) (StK w5.drew (fun vI => [some (.agg #[.int .i64 k, .int .i64 K, .int .i64 M]), some (.bool true), some (.agg #[.int .i64 k, .int .i64 K, .int .i64 M]), some (.bool true), some (.bool false), some (.bool false), some (.int .i64 0), some (.bool true), some (.agg #[.int .i64 k, .int .i64 K, .int .i64 M]), some (.bool true), some (.bool false), some (.bool false), some (.bool false), some (.int .i64 0), some (.bool false), some (.bool false), some (undef), some (undef), some (undef), some (undef), some (undef), some (undef), some (.bool false), some (.bool false)].getD vI none)) rfl StK.start ?_ ?_
        · simp only [OblAllS]
          refine ⟨?_, ?_, ?_, ?_, ?_, ?_, ?_, ?_, ?_, ?_, ?_, ?_, ?_, ?_, ?_, ?_, ?_, ?_, ?_, ?_, ?_, ?_, ?_, ?_, trivial⟩
          · intro L wx vals hi hu hcl hC
            have h0 := (HC4.out wx hC.b).1
            have h1 := (HC4.out wx hC.b).2.1
            have h2 := (HC4.out wx hC.b).2.2
            have HCx := Lib.hid hC
            clear hC hcl hu hi
            simp only [fillA, if_true, Act.put]
            simp
            go_wp2
            exact ⟨rfl, HCx.out.quiet 0 (some_is rfl)⟩
          · intro L wx vals hi hu hcl hC
            simp [predL, predE, Region.binds, UpL] at hu
            have e0 : vals 0 = .agg #[.int .i64 k, .int .i64 K, .int .i64 M] := hC.v 0 _ rfl (by simp [hu])
            have HL := Lib.hid (HV1.out wx hC.b)
            have HCx := Lib.hid hC
            clear hC hcl hu hi
            simp only [fillA, if_true, Act.put]
            simp
            simp only [e0]
            clear e0
            go_wp2_with fail
            (with_reducible refine HL.out.mono ?_); rintro e w9 ⟨rfl, hb⟩
            have HX := Lib.hid (HCx.out.step 1 (some_is (u := .bool true) rfl) (HCx.out.b.trans (hb.mono HCx.out.b.size)))
            clear hb
            go_wp2
            exact ⟨rfl, HX.out⟩
          · intro L wx vals hi hu hcl hC
            have h0 := (HC4.out wx hC.b).1
            have h1 := (HC4.out wx hC.b).2.1
            have h2 := (HC4.out wx hC.b).2.2
            have HCx := Lib.hid hC
            clear hC hcl hu hi
            simp only [fillA, if_true, Act.put]
            simp
            go_wp2
            exact ⟨rfl, HCx.out.quiet 2 (some_is rfl)⟩
          · intro L wx vals hi hu hcl hC
            simp [predL, predE, Region.binds, UpL] at hu
            have e2 : vals 2 = .agg #[.int .i64 k, .int .i64 K, .int .i64 M] := hC.v 2 _ rfl (by simp [hu])
            have HL := Lib.hid (HV2.out wx hC.b)
            have HCx := Lib.hid hC
            clear hC hcl hu hi
            simp only [fillA, if_true, Act.put]
            simp
            simp only [e2]
            clear e2
            go_wp2_with fail
            (with_reducible refine HL.out.mono ?_); rintro e w9 ⟨rfl, hb⟩
            have HX := Lib.hid (HCx.out.step 3 (some_is (u := .bool true) rfl) (HCx.out.b.trans (hb.mono HCx.out.b.size)))
            clear hb
            go_wp2
            exact ⟨rfl, HX.out⟩
          · intro L wx vals hi hu hcl hC
            simp [predL, predE, Region.binds, UpL] at hu
            have e1 : vals 1 = .bool true := hC.v 1 _ rfl (by simp [hu])
            have e3 : vals 3 = .bool true := hC.v 3 _ rfl (by simp [hu])
            have HCx := Lib.hid hC
            clear hC hcl hu hi
            simp only [fillA, if_true, Act.put]
            simp
            simp only [e1, e3]
            clear e1 e3
            go_wp2
            exact ⟨rfl, HCx.out.quiet 4 (some_is rfl)⟩
          · intro L wx vals hi hu hcl hC
            simp [predL, predE, Region.binds, UpL] at hu
            have e4 : vals 4 = .bool false := hC.v 4 _ rfl (by simp [hu])
            have HCx := Lib.hid hC
            clear hC hcl hu hi
            simp only [fillA, if_true, Act.put]
            simp
            simp only [e4]
            clear e4
            go_wp2
            exact ⟨rfl, HCx.out.quiet 5 (some_is rfl)⟩
          · intro L wx vals hi hu hcl hC
            simp [predL, predE, Region.binds, UpL] at hu
            have e5 : vals 5 = .bool false := hC.v 5 _ rfl (by simp [hu])
            have HCx := Lib.hid hC
            clear hC hcl hu hi
            simp only [fillA, if_true, Act.put]
            simp
            simp only [e5]
            clear e5
            go_wp2
            exact ⟨rfl, HCx.out.quiet 6 (some_is rfl)⟩
          · intro L wx vals hi hu hcl hC
            simp [predL, predE, Region.binds, UpL] at hu
            have e5 : vals 5 = .bool false := hC.v 5 _ rfl (by simp [hu])
            have e6 : vals 6 = .int .i64 0 := hC.v 6 _ rfl (by simp [hu])
            have HCx := Lib.hid hC
            clear hC hcl hu hi
            simp only [fillA, if_true, Act.put]
            simp
            simp only [e5, e6]
            clear e5 e6
            go_wp2
            exact ⟨rfl, HCx.out.quiet 7 (some_is rfl)⟩
          · intro L wx vals hi hu hcl hC
            simp [predL, predE, Region.binds, UpL] at hu
            have e5 : vals 5 = .bool false := hC.v 5 _ rfl (by simp [hu])
            have h0 := (HC4.out wx hC.b).1
            have h1 := (HC4.out wx hC.b).2.1
            have h2 := (HC4.out wx hC.b).2.2
            have HCx := Lib.hid hC
            clear hC hcl hu hi
            simp only [fillA, if_true, Act.put]
            simp
            simp only [e5]
            clear e5
            go_wp2
            exact ⟨rfl, HCx.out.quiet 8 (some_is rfl)⟩
          · intro L wx vals hi hu hcl hC
            simp [predL, predE, Region.binds, UpL] at hu
            have e5 : vals 5 = .bool false := hC.v 5 _ rfl (by simp [hu])
            have e8 : vals 8 = .agg #[.int .i64 k, .int .i64 K, .int .i64 M] := hC.v 8 _ rfl (by simp [hu])
            have HL := Lib.hid (HV2.out wx hC.b)
            have HCx := Lib.hid hC
            clear hC hcl hu hi
            simp only [fillA, if_true, Act.put]
            simp
            simp only [e5, e8]
            clear e5 e8
            go_wp2_with fail
            (with_reducible refine HL.out.mono ?_); rintro e w9 ⟨rfl, hb⟩
            have HX := Lib.hid (HCx.out.step 9 (some_is (u := .bool true) rfl) (HCx.out.b.trans (hb.mono HCx.out.b.size)))
            clear hb
            go_wp2
            exact ⟨rfl, HX.out⟩
          · intro L wx vals hi hu hcl hC
            simp [predL, predE, Region.binds, UpL] at hu
            have e5 : vals 5 = .bool false := hC.v 5 _ rfl (by simp [hu])
            have e7 : vals 7 = .bool true := hC.v 7 _ rfl (by simp [hu])
            have e9 : vals 9 = .bool true := hC.v 9 _ rfl (by simp [hu])
            have HCx := Lib.hid hC
            clear hC hcl hu hi
            simp only [fillA, if_true, Act.put]
            simp
            simp only [e5, e7, e9]
            clear e5 e7 e9
            go_wp2
            exact ⟨rfl, HCx.out.quiet 10 (some_is rfl)⟩
          · intro L wx vals hi hu hcl hC
            simp [predL, predE, Region.binds, UpL] at hu
            have e5 : vals 5 = .bool false := hC.v 5 _ rfl (by simp [hu])
            have e10 : vals 10 = .bool false := hC.v 10 _ rfl (by simp [hu])
            have HCx := Lib.hid hC
            clear hC hcl hu hi
            simp only [fillA, if_true, Act.put]
            simp
            simp only [e5, e10]
            clear e5 e10
            go_wp2
            exact ⟨rfl, HCx.out.quiet 11 (some_is rfl)⟩
          · intro L wx vals hi hu hcl hC
            simp [predL, predE, Region.binds, UpL] at hu
            have e11 : vals 11 = .bool false := hC.v 11 _ rfl (by simp [hu])
            have HCx := Lib.hid hC
            clear hC hcl hu hi
            simp only [fillA, if_true, Act.put]
            simp
            simp only [e11]
            clear e11
            go_wp2
            exact ⟨rfl, HCx.out.quiet 12 (some_is rfl)⟩
          · intro L wx vals hi hu hcl hC
            simp [predL, predE, Region.binds, UpL] at hu
            have e12 : vals 12 = .bool false := hC.v 12 _ rfl (by simp [hu])
            have HCx := Lib.hid hC
            clear hC hcl hu hi
            simp only [fillA, if_true, Act.put]
            simp
            simp only [e12]
            clear e12
            go_wp2
            exact ⟨rfl, HCx.out.quiet 13 (some_is rfl)⟩
          · intro L wx vals hi hu hcl hC
            simp [predL, predE, Region.binds, UpL] at hu
            have e12 : vals 12 = .bool false := hC.v 12 _ rfl (by simp [hu])
            have e13 : vals 13 = .int .i64 0 := hC.v 13 _ rfl (by simp [hu])
            have HCx := Lib.hid hC
            clear hC hcl hu hi
            simp only [fillA, if_true, Act.put]
            simp
            simp only [e12, e13]
            clear e12 e13
            go_wp2
            exact ⟨rfl, HCx.out.quiet 14 (some_is rfl)⟩
          · intro L wx vals hi hu hcl hC
            simp [predL, predE, Region.binds, UpL] at hu
            have e12 : vals 12 = .bool false := hC.v 12 _ rfl (by simp [hu])
            have e14 : vals 14 = .bool false := hC.v 14 _ rfl (by simp [hu])
            have HCx := Lib.hid hC
            clear hC hcl hu hi
            simp only [fillA, if_true, Act.put]
            simp
            simp only [e12, e14]
            clear e12 e14
            go_wp2
            exact ⟨rfl, HCx.out.quiet 15 (some_is rfl)⟩
          · intro L wx vals hi hu hcl hC
            simp [predL, predE, Region.binds, UpL] at hu
            have e15 : vals 15 = .bool false := hC.v 15 _ rfl (by simp [hu])
            have HCx := Lib.hid hC
            clear hC hcl hu hi
            simp only [fillA, if_true, Act.put]
            simp
            simp only [e15]
            clear e15
            go_wp2
            exact ⟨rfl, HCx.out.quiet 16 (some_is rfl)⟩
          · intro L wx vals hi hu hcl hC
            simp [predL, predE, Region.binds, UpL] at hu
            have e15 : vals 15 = .bool false := hC.v 15 _ rfl (by simp [hu])
            have HCx := Lib.hid hC
            clear hC hcl hu hi
            simp only [fillA, if_true, Act.put]
            simp
            simp only [e15]
            clear e15
            go_wp2
            exact ⟨rfl, HCx.out.quiet 17 (some_is rfl)⟩
          · intro L wx vals hi hu hcl hC
            simp [predL, predE, Region.binds, UpL] at hu
            have e15 : vals 15 = .bool false := hC.v 15 _ rfl (by simp [hu])
            have HCx := Lib.hid hC
            clear hC hcl hu hi
            simp only [fillA, if_true, Act.put]
            simp
            simp only [e15]
            clear e15
            go_wp2
            exact ⟨rfl, HCx.out.quiet 18 (some_is rfl)⟩
          · intro L wx vals hi hu hcl hC
            simp [predL, predE, Region.binds, UpL] at hu
            have e18 : vals 18 = undef := hC.v 18 _ rfl (by simp [hu])
            have HCx := Lib.hid hC
            clear hC hcl hu hi
            simp only [fillA, if_true, Act.put]
            simp
            simp only [e18]
            clear e18
            go_wp2
            exact ⟨rfl, HCx.out.quiet 19 (some_is rfl)⟩
          · intro L wx vals hi hu hcl hC
            simp [predL, predE, Region.binds, UpL] at hu
            have e18 : vals 18 = undef := hC.v 18 _ rfl (by simp [hu])
            have HCx := Lib.hid hC
            clear hC hcl hu hi
            simp only [fillA, if_true, Act.put]
            simp
            simp only [e18]
            clear e18
            go_wp2
            exact ⟨rfl, HCx.out.quiet 20 (some_is rfl)⟩
          · intro L wx vals hi hu hcl hC
            simp [predL, predE, Region.binds, UpL] at hu
            have e15 : vals 15 = .bool false := hC.v 15 _ rfl (by simp [hu])
            have HCx := Lib.hid hC
            clear hC hcl hu hi
            simp only [fillA, if_true, Act.put]
            simp
            simp only [e15]
            clear e15
            go_wp2
            exact ⟨rfl, HCx.out.quiet 21 (some_is rfl)⟩
          · intro L wx vals hi hu hcl hC
            simp [predL, predE, Region.binds, UpL] at hu
            have e12 : vals 12 = .bool false := hC.v 12 _ rfl (by simp [hu])
            have e15 : vals 15 = .bool false := hC.v 15 _ rfl (by simp [hu])
            have HCx := Lib.hid hC
            clear hC hcl hu hi
            simp only [fillA, if_true, Act.put]
            simp
            simp only [e12, e15]
            clear e12 e15
            go_wp2
            exact ⟨rfl, HCx.out.quiet 22 (some_is rfl)⟩
          · intro L wx vals hi hu hcl hC
            simp [predL, predE, Region.binds, UpL] at hu
            have e12 : vals 12 = .bool false := hC.v 12 _ rfl (by simp [hu])
            have e22 : vals 22 = .bool false := hC.v 22 _ rfl (by simp [hu])
            have HCx := Lib.hid hC
            clear hC hcl hu hi
            simp only [fillA, if_true, Act.put]
            simp
            simp only [e12, e22]
            clear e12 e22
            go_wp2
            exact ⟨rfl, HCx.out.quiet 23 (some_is rfl)⟩
        · intro wz vals U hC hall
          have e23 : vals 23 = .bool false := hC.v 23 _ rfl (hall 23 (by simp))
          have HH6 := Lib.hid (HH5.out.below ((Below.refl _ w5).drew.trans hC.b))
          simp only [fillA, if_true, Act.put]
          simp
          simp only [e23]
          clear hC hall e23 HC4 HH5
          generalize vals 0 = o0 at *
          generalize vals 1 = o1 at *
          generalize vals 2 = o2 at *
          generalize vals 3 = o3 at *
          generalize vals 4 = o4 at *
          generalize vals 5 = o5 at *
          generalize vals 6 = o6 at *
          generalize vals 7 = o7 at *
          generalize vals 8 = o8 at *
          generalize vals 9 = o9 at *
          generalize vals 10 = o10 at *
          generalize vals 11 = o11 at *
          generalize vals 12 = o12 at *
          generalize vals 13 = o13 at *
          generalize vals 14 = o14 at *
          generalize vals 15 = o15 at *
          generalize vals 16 = o16 at *
          generalize vals 17 = o17 at *
          generalize vals 18 = o18 at *
          generalize vals 19 = o19 at *
          generalize vals 20 = o20 at *
          generalize vals 21 = o21 at *
          generalize vals 22 = o22 at *
          go_wp2
          go_roundw
          case rel => exact ⟨i + 1, q + 1 + 1 + 1, by omega, by go_num, by omega, HH6⟩
          case measure => simp [intOf]; omega
    · obtain rfl : i = 12 := by omega
      have hP1 := HPV.out ⟨pk, pK, pN⟩
      have hR1 := HRV.out ⟨pk, pK, pN⟩
      unfold aggPd at hP1 hR1
      simp only at hP1 hR1
      generalize pdB ⟨pk, pK, pN⟩ = b at *
      have HV1 := Lib.hid (fun (W : World) (hw : Below wr.drew.heap.size wr.drew W) => hP1 W)
      have HV2 := Lib.hid (fun (W : World) (hw : Below wr.drew.heap.size wr.drew W) => hR1 W)
      have HV3 := Lib.hid (fun (W : World) (hw : Below wr.drew.heap.size wr.drew W) => HAW.out W)
      have hbw : Below B w1 wr := HG.out.2
      have hsb : B ≤ wr.heap.size := by have := hbw.size; have := HBE.out; omega
      have HC4 := Lib.hid (fun (W : World) (hw : Below wr.drew.heap.size wr.drew W) => HZ.out W (hbw.trans (((Below.refl _ wr).drew.trans hw).mono hsb)))
      have HBW := Lib.hid (fun (W : World) (hw : Below wr.drew.heap.size wr.drew W) => (show Below w.heap.size w W from HB01.out.trans ((hbw.trans (((Below.refl _ wr).drew.trans hw).mono hsb)).mono (by have := HB01.out.size; have := HBE.out; omega))))
      unfold Calm at HV1 HV2 HV3
      clear hP1 hR1 HG hbw hsb
      go_wp2_with fail
      refine wp_region_looseS 64 (by kernel_rfl) (by kernel_rfl) (StK wr.drew (fun vI => [some (.agg #[.int .i64 pk, .int .i64 pK, .int .i64 pN]), some (.bool b), some (.agg #[.int .i64 pk, .int .i64 pK, .int .i64 pN]), some (.bool b), some (.bool true), some (.bool true), some (.bool true), some (.bool true), some (.bool true)].getD vI none)) rfl StK.start ?_ ?_
      · simp only [OblAllS]
        refine ⟨?_, ?_, ?_, ?_, ?_, ?_, ?_, ?_, ?_, trivial⟩
        · intro L wx vals hi hu hcl hC
          have h0 := (HC4.out wx hC.b).1
          have h1 := (HC4.out wx hC.b).2.1
          have h2 := (HC4.out wx hC.b).2.2
          have HCx := Lib.hid hC
          clear hC hcl hu hi
          simp only [fillA, if_true, Act.put]
          simp
          go_wp2
          exact ⟨rfl, HCx.out.quiet 0 (some_is rfl)⟩
        · intro L wx vals hi hu hcl hC
          simp [predL, predE, Region.binds, UpL] at hu
          have e0 : vals 0 = .agg #[.int .i64 pk, .int .i64 pK, .int .i64 pN] := hC.v 0 _ rfl (by simp [hu])
          have HL := Lib.hid (HV1.out wx hC.b)
          have HCx := Lib.hid hC
          clear hC hcl hu hi
          simp only [fillA, if_true, Act.put]
          simp
          simp only [e0]
          clear e0
          go_wp2_with fail
          (with_reducible refine HL.out.mono ?_); rintro e w9 ⟨rfl, hb⟩
          have HX := Lib.hid (HCx.out.step 1 (some_is (u := .bool b) rfl) (HCx.out.b.trans (hb.mono HCx.out.b.size)))
          clear hb
          go_wp2
          exact ⟨rfl, HX.out⟩
        · intro L wx vals hi hu hcl hC
          have h0 := (HC4.out wx hC.b).1
          have h1 := (HC4.out wx hC.b).2.1
          have h2 := (HC4.out wx hC.b).2.2
          have HCx := Lib.hid hC
          clear hC hcl hu hi
          simp only [fillA, if_true, Act.put]
          simp
          go_wp2
          exact ⟨rfl, HCx.out.quiet 2 (some_is rfl)⟩
        · intro L wx vals hi hu hcl hC
          simp [predL, predE, Region.binds, UpL] at hu
          have e2 : vals 2 = .agg #[.int .i64 pk, .int .i64 pK, .int .i64 pN] := hC.v 2 _ rfl (by simp [hu])
          have HL := Lib.hid (HV2.out wx hC.b)
          have HCx := Lib.hid hC
          clear hC hcl hu hi
          simp only [fillA, if_true, Act.put]
          simp
          simp only [e2]
          clear e2
          go_wp2_with fail
          (with_reducible refine HL.out.mono ?_); rintro e w9 ⟨rfl, hb⟩
          have HX := Lib.hid (HCx.out.step 3 (some_is (u := .bool b) rfl) (HCx.out.b.trans (hb.mono HCx.out.b.size)))
          clear hb
          go_wp2
          exact ⟨rfl, HX.out⟩
        · intro L wx vals hi hu hcl hC
          simp [predL, predE, Region.binds, UpL] at hu
          have e1 : vals 1 = .bool b := hC.v 1 _ rfl (by simp [hu])
          have e3 : vals 3 = .bool b := hC.v 3 _ rfl (by simp [hu])
          have HCx := Lib.hid hC
          clear hC hcl hu hi
          simp only [fillA, if_true, Act.put]
          simp
          simp only [e1, e3]
          clear e1 e3
          go_wp2
          exact ⟨rfl, HCx.out.quiet 4 (some_is rfl)⟩
        · intro L wx vals hi hu hcl hC
          simp [predL, predE, Region.binds, UpL] at hu
          have e4 : vals 4 = .bool true := hC.v 4 _ rfl (by simp [hu])
          have HCx := Lib.hid hC
          clear hC hcl hu hi
          simp only [fillA, if_true, Act.put]
          simp
          simp only [e4]
          clear e4
          go_wp2
          exact ⟨rfl, HCx.out.quiet 5 (some_is rfl)⟩
        · intro L wx vals hi hu hcl hC
          simp [predL, predE, Region.binds, UpL] at hu
          have e5 : vals 5 = .bool true := hC.v 5 _ rfl (by simp [hu])
          have HL := Lib.hid (HV3.out wx hC.b)
          have HCx := Lib.hid hC
          clear hC hcl hu hi
          simp only [fillA, if_true, Act.put]
          simp
          simp only [e5]
          clear e5
          go_wp2_with fail
          (with_reducible refine HL.out.mono ?_); rintro e w9 ⟨rfl, hb⟩
          have HX := Lib.hid (HCx.out.step 6 (some_is (u := .bool true) rfl) (HCx.out.b.trans (hb.mono HCx.out.b.size)))
          clear hb
          go_wp2
          exact ⟨rfl, HX.out⟩
        · intro L wx vals hi hu hcl hC
          simp [predL, predE, Region.binds, UpL] at hu
          have e5 : vals 5 = .bool true := hC.v 5 _ rfl (by simp [hu])
          have e6 : vals 6 = .bool true := hC.v 6 _ rfl (by simp [hu])
          have HCx := Lib.hid hC
          clear hC hcl hu hi
          simp only [fillA, if_true, Act.put]
          simp
          simp only [e5, e6]
          clear e5 e6
          go_wp2
          exact ⟨rfl, HCx.out.quiet 7 (some_is rfl)⟩
        · intro L wx vals hi hu hcl hC
          simp [predL, predE, Region.binds, UpL] at hu
          have e7 : vals 7 = .bool true := hC.v 7 _ rfl (by simp [hu])
          have HCx := Lib.hid hC
          clear hC hcl hu hi
          simp only [fillA, if_true, Act.put]
          simp
          simp only [e7]
          clear e7
          go_wp2
          exact ⟨rfl, HCx.out.quiet 8 (some_is rfl)⟩
      · intro wz vals U hC hall
        have e8 : vals 8 = .bool true := hC.v 8 _ rfl (hall 8 (by simp))
        have HF := Lib.hid (HBW.out wz hC.b)
        simp only [fillA, if_true, Act.put]
        simp
        simp only [e8]
        clear hC hall e8 HC4 HBW
        go_wp2
        go_ret
        exact ⟨rfl, HF.out⟩
end Go.Proofs.Ytaohfcchejedkaa

