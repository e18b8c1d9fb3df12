/-
  Layer 14: the reference's Worst. Written by gen_farwo.py.
-/
import Derived.Test.YtcdeecigiijabaaFaWor
namespace Go.Proofs.Ytcdeecigiijabaa
open Go.ChangeShapes Go.WideShapes Go.ChangeAt Go.RowKit
set_option linter.unusedVariables false

set_option maxRecDepth 100000 in
set_option maxHeartbeats 8000000 in
theorem rworst_any (A : Option Addr) (c : Nat) (L : List Sp) (L1 B1 : Nat) (w : World) (hB1 : B1 ≤ w.heap.size) (hn : L.length ≤ 100000) (ha : SrAt csP 3 w L1 B1 A L) :
    Calls Try.prog 28 #[.slice A L.length c] w (Calm (.tuple #[.int .i64 (woP L), .int .i64 (woQ L), .int .i64 (ckE L 2)]) w) := by
  have HC := rsamples_any A c L L1 B1 w hB1 hn ha
  cases hv : vsB L
  · have hE := ck_bad (n := 2) hv
    obtain ⟨e1, e2⟩ := wo_no (L := L) (by rw [hE]; decide)
    rw [hv] at HC
    rw [e1, e2, hE]
    have HC := Lib.hid HC
    clear e1 e2 ha hE hv
    unfold Calm at *
    go_enter Try.func28, Try.ntmps28
    go_wp2_with fail
    (with_reducible refine HC.out.mono ?_); rintro e w1 ⟨rfl, hb⟩
    have HB1 := Lib.hid hb
    clear hb HC
    go_wp2
    go_ret3
    exact ⟨rfl, HB1.out⟩
  by_cases h2 : L.length < 2
  · have hE := ck_few hv h2
    obtain ⟨e1, e2⟩ := wo_no (L := L) (by rw [hE]; decide)
    rw [hv] at HC
    rw [e1, e2, hE]
    have HC := Lib.hid HC
    have h2' : (L.length : Int) < 2 := by omega
    clear e1 e2 ha hE hv
    unfold Calm at *
    go_enter Try.func28, Try.ntmps28
    go_wp2_with fail
    (with_reducible refine HC.out.mono ?_); rintro e w1 ⟨rfl, hb⟩
    have HB1 := Lib.hid hb
    clear hb HC
    go_wp2
    go_ret3
    exact ⟨rfl, HB1.out⟩
  · have hE := ck_ok hv h2
    obtain ⟨hvs, h32⟩ := vs_yes hv
    obtain ⟨e1, e2⟩ := wo_yes hE
    have hsame := wo_same hv (by omega)
    rw [hv] at HC
    rw [hE, e1, e2, ← hsame]
    obtain ⟨bb, off, rfl, -⟩ := ha.sp (k := 0) (by omega)
    have HTA := Lib.hid (fun i j (hi : i < L.length) (hj : j < L.length) => two_at ha hB1 hi hj rfl)
    have HGA := Lib.hid (fun i j (hi : i < L.length) (hj : j < L.length) (W : World) => rgap_any L[i] L[j] W)
    have HBO := Lib.hid (fun i j (hi : i < L.length) (hj : j < L.length) (W : World) => rbound_any L[i] L[j] W)
    have HYE := Lib.hid (fun i j (hi : i < L.length) (hj : j < L.length) => ga_yes (hvs i hi) (hvs j hj))
    have HBD := Lib.hid (fun i j (hi : i < L.length) (hj : j < L.length) => (And.intro (ga_bd (hvs i hi) (hvs j hj)) (bo_bd (hvs i hi) (hvs j hj))))
    have HEF := Lib.hid (fun i j (hi : i < L.length) (hj : j < L.length) => exF_at (L := L) hi hj)
    obtain ⟨N, hN⟩ : ∃ N, L.length = N := ⟨_, rfl⟩
    have HT : Hid (woR L = ouW (exF L) N ⟨0, 1, -4611686018427387904⟩ N) := Lib.hid (by unfold woR; rw [hN])
    have HN0 := Lib.hid hN
    rw [hN] at HC
    rw [show (Value.slice (some ⟨bb, off, none⟩) L.length c) = .slice (some ⟨bb, off, none⟩) N c by rw [hN]]
    have h2' : (2 : Int) ≤ N := by omega
    have h32' : N ≤ 32 := by omega
    have HC := Lib.hid HC
    clear hv hvs e1 e2 hE ha hN h32 h2 hsame
    unfold Calm aggSp at *
    go_enter Try.func28, Try.ntmps28
    go_wp2_with fail
    (with_reducible refine HC.out.mono ?_); rintro e w1 ⟨rfl, hb⟩
    have HB1 := Lib.hid hb
    clear hb HC
    go_wp2_with fail
    go_loopw [5, 6, 7, 8] (fun s6 s7 s8 s26 wr => ∃ (i : Nat) (s : Wo), i ≤ N ∧ s26 = .int .i64 i ∧ s6 = .int .i64 s.p ∧ s7 = .int .i64 s.q ∧ s8 = .int .i64 s.e ∧ Hid (ouW (exF L) N ⟨0, 1, -4611686018427387904⟩ i = s) ∧ Hid (Below w.heap.size w wr)) (fun _ _ _ s26 _ => N - (intOf s26).toNat)
    case atStart => exact ⟨0, ⟨0, 1, -4611686018427387904⟩, by omega, rfl, rfl, rfl, rfl, Lib.hid rfl, HB1⟩
    case round =>
      obtain ⟨i, s, hi, rfl, rfl, rfl, rfl, HS, HB⟩ := hrel
      clear HB1
      by_cases hlt : i < N
      · have hlt' : (i : Int) < N := by omega
        have hwi : IntKind.i64.wrap ((i : Int) + 1) = (i : Int) + 1 := IntWalk.i64_in _ (by omega)
        obtain ⟨wo, rfl⟩ : ∃ wo : World, wo = wr := ⟨_, rfl⟩
        go_wp2_with fail
        go_loopw [5, 6, 7, 9] (fun s6 s7 s8 s10 wr => ∃ (n : Nat) (t : Wo), i + 1 + n ≤ N ∧ s10 = .int .i64 ((i + 1 + n : Nat) : Int) ∧ s6 = .int .i64 t.p ∧ s7 = .int .i64 t.q ∧ s8 = .int .i64 t.e ∧ Hid (inW (exF L) i s n = t) ∧ Hid (Below w.heap.size w wr)) (fun _ _ _ s10 _ => N - (intOf s10).toNat)
        case atStart => exact ⟨0, s, by omega, by go_num, rfl, rfl, rfl, Lib.hid rfl, HB⟩
        case round =>
          obtain ⟨n, t, hnN, rfl, rfl, rfl, rfl, HT2, HB3⟩ := hrel
          clear HB
          obtain ⟨j, hj⟩ : ∃ j, i + 1 + n = j := ⟨_, rfl⟩
          rw [hj]
          have HJ := Lib.hid hj
          by_cases hlt2 : j < N
          · have hlt2' : (j : Int) < N := by omega
            have hiL : i < L.length := by have := HN0.out; omega
            have hjL : j < L.length := by have := HN0.out; omega
            have hcc := HTA.out i j hiL hjL
            have hga := HGA.out i j hiL hjL
            have hbo := HBO.out i j hiL hjL
            obtain ⟨hy1, hy2, hy3⟩ := HYE.out i j hiL hjL
            obtain ⟨hb1, hb2⟩ := HBD.out i j hiL hjL
            have hef := HEF.out i j hiL hjL
            unfold exI at hef
            rw [hy1, hy2] at hga
            rw [hy1, hy3] at hbo
            clear hy1 hy2 hy3
            obtain ⟨x, hx⟩ : ∃ x, L[i] = x := ⟨_, rfl⟩
            obtain ⟨y, hy⟩ : ∃ y, L[j] = y := ⟨_, rfl⟩
            rw [hx, hy] at hcc hga hbo hef hb1 hb2
            obtain ⟨g, hg⟩ : ∃ g, gaI x y = g := ⟨_, rfl⟩
            obtain ⟨m, hm⟩ : ∃ m, boI x y = m := ⟨_, rfl⟩
            rw [hg] at hga hef hb1
            rw [hm] at hbo hef hb2
            clear hg hm
            have hsub : IntKind.i64.wrap (g - m) = g - m := IntWalk.i64_in _ (by omega)
            obtain ⟨x0, x1, x2⟩ := x
            obtain ⟨y0, y1, y2⟩ := y
            simp only at hcc hga hbo
            have HC4 := Lib.hid (fun (W : World) (hw : Below wr.drew.heap.size wr.drew W) => hcc W (HB3.out.trans (((Below.refl _ wr).drew.trans hw).mono HB3.out.size)))
            have HE4 := Lib.hid (fun (W : World) (hw : Below wr.drew.heap.size wr.drew W) => hga W)
            have HBO2 := Lib.hid hbo
            have HCC := Lib.hid hcc
            have HUY := Lib.hid (fun (h : t.e < g - m) => (show inW (exF L) i s (n + 1) = ⟨i, j, g - m⟩ by show upW (exF L) i (i + 1 + n) (inW (exF L) i s n) = _; rw [HT2.out, HJ.out]; exact up_yes hef h))
            have HUN := Lib.hid (fun (h : ¬ t.e < g - m) => (show inW (exF L) i s (n + 1) = t by show upW (exF L) i (i + 1 + n) (inW (exF L) i s n) = _; rw [HT2.out, HJ.out]; exact up_no hef h))
            clear hcc hga hbo hef hx hy hj HT2 hb1 hb2
            go_wp2_with fail
            refine wp_region_looseS 70 (by kernel_rfl) (by kernel_rfl) (StB wr.drew (fun vI => [.slice (some ⟨bb, off, none⟩) N c, .int .i64 (i : Nat), .pointer (some ⟨bb, off + i * 3, none⟩), .agg #[.int .i64 x0, .int .i64 x1, .int .i64 x2], .slice (some ⟨bb, off, none⟩) N c, .int .i64 (j : Nat), .pointer (some ⟨bb, off + j * 3, none⟩), .agg #[.int .i64 y0, .int .i64 y1, .int .i64 y2], .tuple #[.int .i64 g, .int .i64 0], .tuple #[.int .i64 g, .int .i64 0], .int .i64 g, .int .i64 0, .int .i64 g, .int .i64 0].getD vI undef)) rfl StB.start ?_ ?_
            · simp only [OblAllS]
              refine ⟨?_, ?_, ?_, ?_, ?_, ?_, ?_, ?_, ?_, ?_, ?_, ?_, ?_, ?_, trivial⟩
              · intro L wx vals hi hu hcl hC
                have HCx := Lib.hid hC
                clear hC hcl hu hi
                simp only [fillA, if_true, Act.put]
                simp
                go_wp2
                exact ⟨rfl, HCx.out.quiet 0 rfl⟩
              · intro L wx vals hi hu hcl hC
                have HCx := Lib.hid hC
                clear hC hcl hu hi
                simp only [fillA, if_true, Act.put]
                simp
                go_wp2
                exact ⟨rfl, HCx.out.quiet 1 rfl⟩
              · intro L wx vals hi hu hcl hC
                simp [predL, predE, Region.binds, UpL] at hu
                have e0 : vals 0 = .slice (some ⟨bb, off, none⟩) N c := hC.v 0 (by simp [hu])
                have e1 : vals 1 = .int .i64 (i : Nat) := hC.v 1 (by simp [hu])
                have HCx := Lib.hid hC
                clear hC hcl hu hi
                simp only [fillA, if_true, Act.put]
                simp
                simp only [e0, e1]
                clear e0 e1
                go_wp2
                exact ⟨rfl, HCx.out.quiet 2 rfl⟩
              · intro L wx vals hi hu hcl hC
                simp [predL, predE, Region.binds, UpL] at hu
                have e2 : vals 2 = .pointer (some ⟨bb, off + i * 3, none⟩) := hC.v 2 (by simp [hu])
                have h0 := (HC4.out wx hC.b).1
                have h1 := (HC4.out wx hC.b).2.1
                have h2 := (HC4.out wx hC.b).2.2.1
                have HCx := Lib.hid hC
                clear hC hcl hu hi
                simp only [fillA, if_true, Act.put]
                simp
                simp only [e2]
                clear e2
                go_wp2
                exact ⟨rfl, HCx.out.quiet 3 rfl⟩
              · intro L wx vals hi hu hcl hC
                have HCx := Lib.hid hC
                clear hC hcl hu hi
                simp only [fillA, if_true, Act.put]
                simp
                go_wp2
                exact ⟨rfl, HCx.out.quiet 4 rfl⟩
              · intro L wx vals hi hu hcl hC
                have HCx := Lib.hid hC
                clear hC hcl hu hi
                simp only [fillA, if_true, Act.put]
                simp
                go_wp2
                exact ⟨rfl, HCx.out.quiet 5 rfl⟩
              · intro L wx vals hi hu hcl hC
                simp [predL, predE, Region.binds, UpL] at hu
                have e4 : vals 4 = .slice (some ⟨bb, off, none⟩) N c := hC.v 4 (by simp [hu])
                have e5 : vals 5 = .int .i64 (j : Nat) := hC.v 5 (by simp [hu])
                have HCx := Lib.hid hC
                clear hC hcl hu hi
                simp only [fillA, if_true, Act.put]
                simp
                simp only [e4, e5]
                clear e4 e5
                go_wp2
                exact ⟨rfl, HCx.out.quiet 6 rfl⟩
              · intro L wx vals hi hu hcl hC
                simp [predL, predE, Region.binds, UpL] at hu
                have e6 : vals 6 = .pointer (some ⟨bb, off + j * 3, none⟩) := hC.v 6 (by simp [hu])
                have h0 := (HC4.out wx hC.b).2.2.2.1
                have h1 := (HC4.out wx hC.b).2.2.2.2.1
                have h2 := (HC4.out wx hC.b).2.2.2.2.2
                have HCx := Lib.hid hC
                clear hC hcl hu hi
                simp only [fillA, if_true, Act.put]
                simp
                simp only [e6]
                clear e6
                go_wp2
                exact ⟨rfl, HCx.out.quiet 7 rfl⟩
              · intro L wx vals hi hu hcl hC
                simp [predL, predE, Region.binds, UpL] at hu
                have e3 : vals 3 = .agg #[.int .i64 x0, .int .i64 x1, .int .i64 x2] := hC.v 3 (by simp [hu])
                have e7 : vals 7 = .agg #[.int .i64 y0, .int .i64 y1, .int .i64 y2] := hC.v 7 (by simp [hu])
                have HL := Lib.hid (HE4.out wx hC.b)
                have HCx := Lib.hid hC
                clear hC hcl hu hi
                simp only [fillA, if_true, Act.put]
                simp
                simp only [e3, e7]
                clear e3 e7
                go_wp2_with fail
                (with_reducible refine HL.out.mono ?_); rintro e w9 ⟨rfl, hb⟩
                have HX := Lib.hid (HCx.out.step 8 (x := .tuple #[.int .i64 g, .int .i64 0]) rfl (HCx.out.b.trans (hb.mono HCx.out.b.size)))
                clear hb
                go_wp2
                exact ⟨rfl, HX.out⟩
              · intro L wx vals hi hu hcl hC
                simp [predL, predE, Region.binds, UpL] at hu
                have e8 : vals 8 = .tuple #[.int .i64 g, .int .i64 0] := hC.v 8 (by simp [hu])
                have HCx := Lib.hid hC
                clear hC hcl hu hi
                simp only [fillA, if_true, Act.put]
                simp
                simp only [e8]
                clear e8
                go_wp2
                exact ⟨rfl, HCx.out.quiet 9 rfl⟩
              · intro L wx vals hi hu hcl hC
                simp [predL, predE, Region.binds, UpL] at hu
                have e9 : vals 9 = .tuple #[.int .i64 g, .int .i64 0] := hC.v 9 (by simp [hu])
                have HCx := Lib.hid hC
                clear hC hcl hu hi
                simp only [fillA, if_true, Act.put]
                simp
                simp only [e9]
                clear e9
                go_wp2
                exact ⟨rfl, HCx.out.quiet 10 rfl⟩
              · intro L wx vals hi hu hcl hC
                simp [predL, predE, Region.binds, UpL] at hu
                have e9 : vals 9 = .tuple #[.int .i64 g, .int .i64 0] := hC.v 9 (by simp [hu])
                have HCx := Lib.hid hC
                clear hC hcl hu hi
                simp only [fillA, if_true, Act.put]
                simp
                simp only [e9]
                clear e9
                go_wp2
                exact ⟨rfl, HCx.out.quiet 11 rfl⟩
              · intro L wx vals hi hu hcl hC
                simp [predL, predE, Region.binds, UpL] at hu
                have e10 : vals 10 = .int .i64 g := hC.v 10 (by simp [hu])
                have HCx := Lib.hid hC
                clear hC hcl hu hi
                simp only [fillA, if_true, Act.put]
                simp
                simp only [e10]
                clear e10
                go_wp2
                exact ⟨rfl, HCx.out.quiet 12 rfl⟩
              · intro L wx vals hi hu hcl hC
                simp [predL, predE, Region.binds, UpL] at hu
                have e11 : vals 11 = .int .i64 0 := hC.v 11 (by simp [hu])
                have HCx := Lib.hid hC
                clear hC hcl hu hi
                simp only [fillA, if_true, Act.put]
                simp
                simp only [e11]
                clear e11
                go_wp2
                exact ⟨rfl, HCx.out.quiet 13 rfl⟩
            · intro wz vals U hC hall
              have e12 : vals 12 = .int .i64 g := hC.v 12 (hall 12 (by simp))
              have e13 : vals 13 = .int .i64 0 := hC.v 13 (hall 13 (by simp))
              have hbz := (Below.refl _ wr).drew.trans hC.b
              simp only [fillA, if_true, Act.put]
              simp
              simp only [e12, e13]
              clear hC hall e12 e13
              generalize vals 0 = g0 at *
              generalize vals 1 = g1 at *
              generalize vals 2 = g2 at *
              generalize vals 3 = g3 at *
              generalize vals 4 = g4 at *
              generalize vals 5 = g5 at *
              generalize vals 6 = g6 at *
              generalize vals 7 = g7 at *
              generalize vals 8 = g8 at *
              generalize vals 9 = g9 at *
              generalize vals 10 = g10 at *
              generalize vals 11 = g11 at *
              have HB4 := Lib.hid (HB3.out.trans (hbz.mono HB3.out.size))
              clear hbz HB3 HC4 HE4
              have HC5 := Lib.hid (fun (W : World) (hw : Below wz.drew.heap.size wz.drew W) => HCC.out W (HB4.out.trans (((Below.refl _ wz).drew.trans hw).mono HB4.out.size)))
              have HE5 := Lib.hid (fun (W : World) (hw : Below wz.drew.heap.size wz.drew W) => HBO2.out W)
              clear HCC HBO2
              go_wp2_with fail
              refine wp_region_looseS 70 (by kernel_rfl) (by kernel_rfl) (StB wz.drew (fun vI => [.slice (some ⟨bb, off, none⟩) N c, .int .i64 (i : Nat), .pointer (some ⟨bb, off + i * 3, none⟩), .agg #[.int .i64 x0, .int .i64 x1, .int .i64 x2], .slice (some ⟨bb, off, none⟩) N c, .int .i64 (j : Nat), .pointer (some ⟨bb, off + j * 3, none⟩), .agg #[.int .i64 y0, .int .i64 y1, .int .i64 y2], .tuple #[.int .i64 m, .int .i64 0], .tuple #[.int .i64 m, .int .i64 0], .int .i64 m, .int .i64 0, .int .i64 m, .int .i64 0].getD vI undef)) rfl StB.start ?_ ?_
              · simp only [OblAllS]
                refine ⟨?_, ?_, ?_, ?_, ?_, ?_, ?_, ?_, ?_, ?_, ?_, ?_, ?_, ?_, trivial⟩
                · intro L wx vals hi hu hcl hC
                  have HCx := Lib.hid hC
                  clear hC hcl hu hi
                  simp only [fillA, if_true, Act.put]
                  simp
                  go_wp2
                  exact ⟨rfl, HCx.out.quiet 0 rfl⟩
                · intro L wx vals hi hu hcl hC
                  have HCx := Lib.hid hC
                  clear hC hcl hu hi
                  simp only [fillA, if_true, Act.put]
                  simp
                  go_wp2
                  exact ⟨rfl, HCx.out.quiet 1 rfl⟩
                · intro L wx vals hi hu hcl hC
                  simp [predL, predE, Region.binds, UpL] at hu
                  have e0 : vals 0 = .slice (some ⟨bb, off, none⟩) N c := hC.v 0 (by simp [hu])
                  have e1 : vals 1 = .int .i64 (i : Nat) := hC.v 1 (by simp [hu])
                  have HCx := Lib.hid hC
                  clear hC hcl hu hi
                  simp only [fillA, if_true, Act.put]
                  simp
                  simp only [e0, e1]
                  clear e0 e1
                  go_wp2
                  exact ⟨rfl, HCx.out.quiet 2 rfl⟩
                · intro L wx vals hi hu hcl hC
                  simp [predL, predE, Region.binds, UpL] at hu
                  have e2 : vals 2 = .pointer (some ⟨bb, off + i * 3, none⟩) := hC.v 2 (by simp [hu])
                  have h0 := (HC5.out wx hC.b).1
                  have h1 := (HC5.out wx hC.b).2.1
                  have h2 := (HC5.out wx hC.b).2.2.1
                  have HCx := Lib.hid hC
                  clear hC hcl hu hi
                  simp only [fillA, if_true, Act.put]
                  simp
                  simp only [e2]
                  clear e2
                  go_wp2
                  exact ⟨rfl, HCx.out.quiet 3 rfl⟩
                · intro L wx vals hi hu hcl hC
                  have HCx := Lib.hid hC
                  clear hC hcl hu hi
                  simp only [fillA, if_true, Act.put]
                  simp
                  go_wp2
                  exact ⟨rfl, HCx.out.quiet 4 rfl⟩
                · intro L wx vals hi hu hcl hC
                  have HCx := Lib.hid hC
                  clear hC hcl hu hi
                  simp only [fillA, if_true, Act.put]
                  simp
                  go_wp2
                  exact ⟨rfl, HCx.out.quiet 5 rfl⟩
                · intro L wx vals hi hu hcl hC
                  simp [predL, predE, Region.binds, UpL] at hu
                  have e4 : vals 4 = .slice (some ⟨bb, off, none⟩) N c := hC.v 4 (by simp [hu])
                  have e5 : vals 5 = .int .i64 (j : Nat) := hC.v 5 (by simp [hu])
                  have HCx := Lib.hid hC
                  clear hC hcl hu hi
                  simp only [fillA, if_true, Act.put]
                  simp
                  simp only [e4, e5]
                  clear e4 e5
                  go_wp2
                  exact ⟨rfl, HCx.out.quiet 6 rfl⟩
                · intro L wx vals hi hu hcl hC
                  simp [predL, predE, Region.binds, UpL] at hu
                  have e6 : vals 6 = .pointer (some ⟨bb, off + j * 3, none⟩) := hC.v 6 (by simp [hu])
                  have h0 := (HC5.out wx hC.b).2.2.2.1
                  have h1 := (HC5.out wx hC.b).2.2.2.2.1
                  have h2 := (HC5.out wx hC.b).2.2.2.2.2
                  have HCx := Lib.hid hC
                  clear hC hcl hu hi
                  simp only [fillA, if_true, Act.put]
                  simp
                  simp only [e6]
                  clear e6
                  go_wp2
                  exact ⟨rfl, HCx.out.quiet 7 rfl⟩
                · intro L wx vals hi hu hcl hC
                  simp [predL, predE, Region.binds, UpL] at hu
                  have e3 : vals 3 = .agg #[.int .i64 x0, .int .i64 x1, .int .i64 x2] := hC.v 3 (by simp [hu])
                  have e7 : vals 7 = .agg #[.int .i64 y0, .int .i64 y1, .int .i64 y2] := hC.v 7 (by simp [hu])
                  have HL := Lib.hid (HE5.out wx hC.b)
                  have HCx := Lib.hid hC
                  clear hC hcl hu hi
                  simp only [fillA, if_true, Act.put]
                  simp
                  simp only [e3, e7]
                  clear e3 e7
                  go_wp2_with fail
                  (with_reducible refine HL.out.mono ?_); rintro e w9 ⟨rfl, hb⟩
                  have HX := Lib.hid (HCx.out.step 8 (x := .tuple #[.int .i64 m, .int .i64 0]) rfl (HCx.out.b.trans (hb.mono HCx.out.b.size)))
                  clear hb
                  go_wp2
                  exact ⟨rfl, HX.out⟩
                · intro L wx vals hi hu hcl hC
                  simp [predL, predE, Region.binds, UpL] at hu
                  have e8 : vals 8 = .tuple #[.int .i64 m, .int .i64 0] := hC.v 8 (by simp [hu])
                  have HCx := Lib.hid hC
                  clear hC hcl hu hi
                  simp only [fillA, if_true, Act.put]
                  simp
                  simp only [e8]
                  clear e8
                  go_wp2
                  exact ⟨rfl, HCx.out.quiet 9 rfl⟩
                · intro L wx vals hi hu hcl hC
                  simp [predL, predE, Region.binds, UpL] at hu
                  have e9 : vals 9 = .tuple #[.int .i64 m, .int .i64 0] := hC.v 9 (by simp [hu])
                  have HCx := Lib.hid hC
                  clear hC hcl hu hi
                  simp only [fillA, if_true, Act.put]
                  simp
                  simp only [e9]
                  clear e9
                  go_wp2
                  exact ⟨rfl, HCx.out.quiet 10 rfl⟩
                · intro L wx vals hi hu hcl hC
                  simp [predL, predE, Region.binds, UpL] at hu
                  have e9 : vals 9 = .tuple #[.int .i64 m, .int .i64 0] := hC.v 9 (by simp [hu])
                  have HCx := Lib.hid hC
                  clear hC hcl hu hi
                  simp only [fillA, if_true, Act.put]
                  simp
                  simp only [e9]
                  clear e9
                  go_wp2
                  exact ⟨rfl, HCx.out.quiet 11 rfl⟩
                · intro L wx vals hi hu hcl hC
                  simp [predL, predE, Region.binds, UpL] at hu
                  have e10 : vals 10 = .int .i64 m := hC.v 10 (by simp [hu])
                  have HCx := Lib.hid hC
                  clear hC hcl hu hi
                  simp only [fillA, if_true, Act.put]
                  simp
                  simp only [e10]
                  clear e10
                  go_wp2
                  exact ⟨rfl, HCx.out.quiet 12 rfl⟩
                · intro L wx vals hi hu hcl hC
                  simp [predL, predE, Region.binds, UpL] at hu
                  have e11 : vals 11 = .int .i64 0 := hC.v 11 (by simp [hu])
                  have HCx := Lib.hid hC
                  clear hC hcl hu hi
                  simp only [fillA, if_true, Act.put]
                  simp
                  simp only [e11]
                  clear e11
                  go_wp2
                  exact ⟨rfl, HCx.out.quiet 13 rfl⟩
              · intro wy vals U hC hall
                have e12 : vals 12 = .int .i64 m := hC.v 12 (hall 12 (by simp))
                have e13 : vals 13 = .int .i64 0 := hC.v 13 (hall 13 (by simp))
                have hbz := (Below.refl _ wz).drew.trans hC.b
                simp only [fillA, if_true, Act.put]
                simp
                simp only [e12, e13]
                clear hC hall e12 e13
                generalize vals 0 = k0 at *
                generalize vals 1 = k1 at *
                generalize vals 2 = k2 at *
                generalize vals 3 = k3 at *
                generalize vals 4 = k4 at *
                generalize vals 5 = k5 at *
                generalize vals 6 = k6 at *
                generalize vals 7 = k7 at *
                generalize vals 8 = k8 at *
                generalize vals 9 = k9 at *
                generalize vals 10 = k10 at *
                generalize vals 11 = k11 at *
                have HB5 := Lib.hid (HB4.out.trans (hbz.mono HB4.out.size))
                clear hbz HB4 HC5 HE5
                have hj1 : ((j : Int) + 1) = ((i + 1 + (n + 1) : Nat) : Int) := by have := HJ.out; omega
                have hwj : IntKind.i64.wrap ((j : Int) + 1) = ((i + 1 + (n + 1) : Nat) : Int) := by rw [← hj1]; exact IntWalk.i64_in _ (by omega)
                have hnn : i + 1 + (n + 1) ≤ N := by have := HJ.out; omega
                clear hj1
                by_cases hgt : t.e < g - m
                · have HT3 := Lib.hid (HUY.out hgt)
                  clear HUY HUN
                  go_wp2
                  go_roundw
                  case rel => exact ⟨n + 1, ⟨i, j, g - m⟩, hnn, rfl, rfl, rfl, rfl, HT3, HB5⟩
                  case measure => have hJJ := HJ.out; simp [intOf]; omega
                · have HT3 := Lib.hid (HUN.out (by omega))
                  clear HUY HUN
                  go_wp2
                  go_roundw
                  case rel => exact ⟨n + 1, t, hnn, rfl, rfl, rfl, rfl, HT3, HB5⟩
                  case measure => have hJJ := HJ.out; simp [intOf]; omega
          · have hnx : n = N - 1 - i := by have := HJ.out; omega
            have HS2 : Hid (ouW (exF L) N ⟨0, 1, -4611686018427387904⟩ (i + 1) = t) := Lib.hid (by
              show inW (exF L) i (ouW (exF L) N ⟨0, 1, -4611686018427387904⟩ i) (N - 1 - i) = t
              rw [HS.out, ← hnx]; exact HT2.out)
            clear HS HT2 HJ hnx hnN hj
            go_wp2
            go_roundw
            case rel => exact ⟨i + 1, t, by omega, by go_num, rfl, rfl, rfl, HS2, HB3⟩
            case measure => simp [intOf]; omega
      · obtain rfl : i = N := by omega
        have HF : Hid (woR L = s) := Lib.hid (HT.out.trans HS.out)
        clear HS HT
        go_wp2
        go_ret3
        exact ⟨by rw [HF.out]; rfl, HB.out⟩
end Go.Proofs.Ytcdeecigiijabaa

