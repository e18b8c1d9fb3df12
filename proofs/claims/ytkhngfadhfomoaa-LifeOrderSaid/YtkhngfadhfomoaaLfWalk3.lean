/-
  Layer 18: Rising; the walk of the statement on the order of delivery (LifeOrder). Every input; no condition. Written by gen_lfwalk3.py.
-/
import Derived.Test.YtkhngfadhfomoaaLfEnv
import Derived.Test.YtkhngfadhfomoaaLfOrd
import Derived.Deep.LoopGhost
import Derived.LoopTactic
namespace Go.Proofs.Ytkhngfadhfomoaa
open Go.ChangeShapes Go.WideShapes Go.ChangeAt Go.RowKit
set_option linter.unusedVariables false

set_option maxRecDepth 100000 in
set_option maxHeartbeats 4000000 in
theorem rising_any {v : Value} {l : List Int} {w : World} (hn : l.length ≤ 100000) (h : LsA csI 1 3 v l w) (hp : l.Pairwise (· < ·)) : Calls Try.prog 28 #[v] w (Calm (.bool true) w) := by
  obtain ⟨A, c, rfl, g1, g2⟩ := h.shape
  have HL := Lib.hid (fun k (hk : k < l.length) => h.el hk)
  have HP := Lib.hid hp
  clear h g1 g2 hp
  obtain ⟨n, hN⟩ : ∃ n, l.length = n := ⟨_, rfl⟩
  have HN := Lib.hid hN
  rw [hN]
  have hn' : n ≤ 100000 := by omega
  clear hN hn
  unfold Calm
  go_enter Try.func28, Try.ntmps28
  go_wp2
  go_loopw [3] (fun s3 wr => ∃ k i : Nat, Hid (k = i + 1) ∧ Hid (k ≤ n ∨ i = 0) ∧ s3 = .int .i64 k ∧ Hid (Below w.heap.size w wr)) (fun s3 _ => n - (intOf s3).toNat)
  case atStart => exact ⟨1, 0, Lib.hid rfl, Lib.hid (.inr rfl), rfl, Lib.hid (Below.refl _ _)⟩
  case round =>
    obtain ⟨k, i, HK, HI, rfl, HB⟩ := hrel
    have hki := HK.out
    have hi9 := HI.out
    by_cases hlt : k < n
    · have hlt' : (k : Int) < n := by omega
      have hk0 : (0 : Int) ≤ k := by omega
      have hi0 : (0 : Int) ≤ i := by omega
      have hi2 : (i : Int) < n := by omega
      have hkl : k < l.length := by have := HN.out; omega
      have hil : i < l.length := by omega
      have hwk : IntKind.i64.wrap ((k : Int) - 1) = (i : Int) := by rw [IntWalk.i64_in _ (by omega)]; omega
      obtain ⟨b, o, c', e1, _, hb, _, _, f1⟩ := HL.out k hkl
      rw [HN.out] at e1
      obtain ⟨rfl, rfl⟩ : A = some ⟨b, o, none⟩ ∧ c = c' := by simpa using e1
      have d0 : w.cell? ⟨b, o + i * 1 + 0, none⟩ = some (.int .i64 l[i]) := f1 i hil 0 (by omega)
      have d1 : w.cell? ⟨b, o + k * 1 + 0, none⟩ = some (.int .i64 l[k]) := f1 k hkl 0 (by omega)
      rw [Nat.mul_one, Nat.add_zero] at d0 d1
      have hxy : ¬ l[k] ≤ l[i] := by have := List.pairwise_iff_getElem.1 HP.out i k hil hkl (by omega); omega
      generalize l[i] = x at *
      generalize l[k] = y at *
      have HC := Lib.hid (fun (W : World) (hw : Below wr.drew.heap.size wr.drew W) => (by
        have hbb := HB.out.trans (((Below.refl _ wr).drew.trans hw).mono HB.out.size)
        exact ⟨(hbb.cell (p := ⟨b, o + i, none⟩) hb).trans d0, (hbb.cell (p := ⟨b, o + k, none⟩) hb).trans d1⟩ : W.cell? ⟨b, o + i, none⟩ = some (.int .i64 x) ∧ W.cell? ⟨b, o + k, none⟩ = some (.int .i64 y)))
      have hdec : decide (y ≤ x) = false := by simpa using hxy
      clear HL HP HN f1 e1 d0 d1 hki hi9 hil hkl HI hb
      go_wp2_with fail
      refine wp_region_looseS 20 (by kernel_rfl) (by kernel_rfl) (StB wr.drew (fun vI => [.slice (some ⟨b, o, none⟩) n c, .int .i64 (k : Nat), .int .i64 (i : Nat), .pointer (some ⟨b, o + i, none⟩), .int .i64 x, .slice (some ⟨b, o, none⟩) n c, .int .i64 (k : Nat), .pointer (some ⟨b, o + k, none⟩), .int .i64 y, .bool false].getD vI undef)) rfl StB.start ?_ ?_
      · simp only [OblAllS]
        refine ⟨?_, ?_, ?_, ?_, ?_, ?_, ?_, ?_, ?_, ?_, trivial⟩
        · intro L wx vals hi hu hcl hC
          have HCx := Lib.hid hC
          clear hC hcl hu hi
          simp only [fillA, if_true, Act.put]
          simp
          go_wp2
          exact ⟨rfl, HCx.out.quiet 0 rfl⟩
        · intro L wx vals hi hu hcl hC
          have HCx := Lib.hid hC
          clear hC hcl hu hi
          simp only [fillA, if_true, Act.put]
          simp
          go_wp2
          exact ⟨rfl, HCx.out.quiet 1 rfl⟩
        · intro L wx vals hi hu hcl hC
          simp [predL, predE, Region.binds, UpL] at hu
          have e1 : vals 1 = .int .i64 (k : Nat) := hC.v 1 (by simp [hu])
          have HCx := Lib.hid hC
          clear hC hcl hu hi
          simp only [fillA, if_true, Act.put]
          simp
          simp only [e1]
          clear e1
          go_wp2
          exact ⟨rfl, HCx.out.quiet 2 rfl⟩
        · intro L wx vals hi hu hcl hC
          simp [predL, predE, Region.binds, UpL] at hu
          have e0 : vals 0 = .slice (some ⟨b, o, none⟩) n c := hC.v 0 (by simp [hu])
          have e2 : vals 2 = .int .i64 (i : Nat) := hC.v 2 (by simp [hu])
          have HCx := Lib.hid hC
          clear hC hcl hu hi
          simp only [fillA, if_true, Act.put]
          simp
          simp only [e0, e2]
          clear e0 e2
          go_wp2
          exact ⟨rfl, HCx.out.quiet 3 rfl⟩
        · intro L wx vals hi hu hcl hC
          simp [predL, predE, Region.binds, UpL] at hu
          have e3 : vals 3 = .pointer (some ⟨b, o + i, none⟩) := hC.v 3 (by simp [hu])
          have h0 := (HC.out wx hC.b).1
          have HCx := Lib.hid hC
          clear hC hcl hu hi
          simp only [fillA, if_true, Act.put]
          simp
          simp only [e3]
          clear e3
          go_wp2
          exact ⟨rfl, HCx.out.quiet 4 rfl⟩
        · intro L wx vals hi hu hcl hC
          have HCx := Lib.hid hC
          clear hC hcl hu hi
          simp only [fillA, if_true, Act.put]
          simp
          go_wp2
          exact ⟨rfl, HCx.out.quiet 5 rfl⟩
        · intro L wx vals hi hu hcl hC
          have HCx := Lib.hid hC
          clear hC hcl hu hi
          simp only [fillA, if_true, Act.put]
          simp
          go_wp2
          exact ⟨rfl, HCx.out.quiet 6 rfl⟩
        · intro L wx vals hi hu hcl hC
          simp [predL, predE, Region.binds, UpL] at hu
          have e5 : vals 5 = .slice (some ⟨b, o, none⟩) n c := hC.v 5 (by simp [hu])
          have e6 : vals 6 = .int .i64 (k : Nat) := hC.v 6 (by simp [hu])
          have HCx := Lib.hid hC
          clear hC hcl hu hi
          simp only [fillA, if_true, Act.put]
          simp
          simp only [e5, e6]
          clear e5 e6
          go_wp2
          exact ⟨rfl, HCx.out.quiet 7 rfl⟩
        · intro L wx vals hi hu hcl hC
          simp [predL, predE, Region.binds, UpL] at hu
          have e7 : vals 7 = .pointer (some ⟨b, o + k, none⟩) := hC.v 7 (by simp [hu])
          have h0 := (HC.out wx hC.b).2
          have HCx := Lib.hid hC
          clear hC hcl hu hi
          simp only [fillA, if_true, Act.put]
          simp
          simp only [e7]
          clear e7
          go_wp2
          exact ⟨rfl, HCx.out.quiet 8 rfl⟩
        · intro L wx vals hi hu hcl hC
          simp [predL, predE, Region.binds, UpL] at hu
          have e4 : vals 4 = .int .i64 x := hC.v 4 (by simp [hu])
          have e8 : vals 8 = .int .i64 y := hC.v 8 (by simp [hu])
          have HCx := Lib.hid hC
          clear hC hcl hu hi
          simp only [fillA, if_true, Act.put]
          simp
          simp only [e4, e8]
          clear e4 e8
          go_wp2
          exact ⟨rfl, HCx.out.quiet 9 rfl⟩
      · intro wz vals U hC hall
        have e9 : vals 9 = .bool false := hC.v 9 (hall 9 (by simp))
        have HB2 := Lib.hid (HB.out.trans (((Below.refl _ wr).drew.trans hC.b).mono HB.out.size))
        simp only [fillA, if_true, Act.put]
        simp
        simp only [e9]
        clear hC hall e9 HC HB
        generalize vals 0 = t_0 at *
        generalize vals 1 = t_1 at *
        generalize vals 2 = t_2 at *
        generalize vals 3 = t_3 at *
        generalize vals 4 = t_4 at *
        generalize vals 5 = t_5 at *
        generalize vals 6 = t_6 at *
        generalize vals 7 = t_7 at *
        generalize vals 8 = t_8 at *
        go_wp2
        go_roundw
        case rel => exact ⟨k + 1, k, Lib.hid rfl, Lib.hid (.inl (by omega)), by go_num, HB2⟩
        case measure => simp [intOf]; omega
    · clear HL HP HK HI hki hi9
      have hlt' : ¬ (k : Int) < n := by omega
      go_wp2
      go_ret
      exact ⟨rfl, HB.out⟩
set_option maxRecDepth 100000 in
set_option maxHeartbeats 16000000 in
theorem walkOrder18 (A : Option Addr) (len cap : Nat) (w : World) (he : Elems w.heap.size A len w) :
    Calls Try.prog 5 #[.slice A len cap] w (Calm (.bool true) w) := by
  have h0 := GenP.new (w0 := w) (cap := cap) he (Below.refl _ _) he
  have HX := Lib.hid (h0.emp.call (pfnew_any.star GenP.frm))
  have HAW := Lib.hid (fun w => awake18_any w)
  clear h0 he
  unfold Calm at *
  go_enter Try.func5, Try.ntmps5
  go_wp2_with fail
  (with_reducible refine (new_any A len cap _).mono ?_); rintro e w' ⟨rfl, rfl⟩
  go_wp2_with fail
  (with_reducible refine HX.out.mono ?_); rintro e w1 ⟨R, rfl, h1⟩
  have HX := Lib.hid (Inv.nextD h1 LfW.frm (n := 12) (by omega) (by omega) (by omega))
  clear h1
  go_wp2_with fail
  (with_reducible refine HX.out.mono ?_); rintro e w2 ⟨r, r0, r1, rfl, h1, _⟩
  obtain ⟨n, hn⟩ : ∃ n, 1 + r = n := ⟨_, rfl⟩
  have hwn : IntKind.i64.wrap (1 + r) = n := by rw [hn]; exact IntWalk.i64_in _ (by omega)
  have hnb : 1 ≤ n ∧ n ≤ 12 := by omega
  have HNB := Lib.hid hnb
  have HI := Lib.hid h1
  clear h1 HX hn r0 r1
  go_wp2_with fail
  go_loopw [6] (fun s6 wr => ∃ (j : Nat) (s : LfS), (j : Int) ≤ n ∧ s6 = .int .i64 j ∧ Hid (LfO s ∧ LfB s j) ∧ Hid (Inv w.heap.size w (Star (LfW R s) (GenP w.heap.size w.heap.size A len cap (1 + j))) wr)) (fun s6 _ => (n - intOf s6).toNat)
  case atStart => exact ⟨0, LfS.new, by omega, rfl, Lib.hid ⟨LfO.new, LfB.new _⟩, HI⟩
  case round =>
    obtain ⟨j, s, hj, rfl, HO, HS⟩ := hrel
    clear HI
    have hnb := HNB.out
    by_cases hlt : (j : Int) < n
    · have HX := Lib.hid (Inv.nextD HS.out LfW.frm (n := 2) (by omega) (by omega) (by omega))
      clear HS
      go_wp2_with fail
      (with_reducible refine HX.out.mono ?_); rintro e w4 ⟨r, r0, r1, rfl, h1, _⟩
      have HX := Lib.hid (Inv.call1 h1 ((pfacc_any (HO.out.2.up (by omega)) r 1).star GenP.frm))
      have HO2 := Lib.hid (And.intro (HO.out.1.acc r 1) (HO.out.2.acc r 1))
      clear h1
      go_wp2_with fail
      (with_reducible refine HX.out.mono ?_); rintro e w5 ⟨rfl, h1⟩
      have HF := Lib.hid h1
      clear h1 HX
      go_wp2
      go_roundw
      case rel => exact ⟨j + 1, _, by omega, by go_num, HO2, HF⟩
      case measure => simp [intOf]; omega
    · have HO1 := Lib.hid (And.intro HO.out.1 (HO.out.2.up (M := 12 + 0) (by omega)))
      clear HO
      go_wp2_with fail
      go_loopw [7] (fun s7 wr => ∃ (i q' : Nat) (s : LfS), i ≤ 60 ∧ s7 = .int .i64 i ∧ q' ≤ 20 + 2 * i ∧ Hid (LfO s ∧ LfB s (12 + i)) ∧ Hid (Inv w.heap.size w (Star (LfW R s) (GenP w.heap.size w.heap.size A len cap q')) wr)) (fun s7 _ => 60 - (intOf s7).toNat)
      case atStart => exact ⟨0, _, s, by omega, rfl, by omega, HO1, HS⟩
      case round =>
        obtain ⟨i, q', s, hi, rfl, hq', HO, HS⟩ := hrel
        clear HO1
        by_cases hlt2 : i < 60
        · have hlt2' : (i : Int) < 60 := by omega
          have HX := Lib.hid (Inv.nextD HS.out LfW.frm (n := n) (by omega) (by omega) (by omega))
          clear HS
          go_wp2_with fail
          (with_reducible refine HX.out.mono ?_); rintro e w4 ⟨r, r0, r1, rfl, h1, _⟩
          obtain ⟨id, hid⟩ : ∃ id, 1 + r = id := ⟨_, rfl⟩
          have hwid : IntKind.i64.wrap (1 + r) = id := by rw [hid]; exact IntWalk.i64_in _ (by omega)
          have HX := Lib.hid (Inv.nextD h1 LfW.frm (n := 4) (by omega) (by omega) (by omega))
          clear h1 hid
          go_wp2_with fail
          (with_reducible refine HX.out.mono ?_); rintro e w5 ⟨r2, r20, r21, rfl, h1, _⟩
          have HS3 := Lib.hid (show Inv w.heap.size w (Star (LfW R s) (GenP w.heap.size w.heap.size A len cap (q' + 2))) w5 from h1)
          have hB := HO.out.2.up (M := 9999) (by omega)
          clear h1 HX r0 r1
          rcases (by omega : r2 = 0 ∨ r2 = 1 ∨ (¬ r2 = 0 ∧ ¬ r2 = 1)) with rfl | rfl | ⟨n0, n1⟩
          · clear hwid r20 r21
            have HX := Lib.hid (Inv.call1 HS3.out ((pfsnd_any hB id).star GenP.frm))
            have HO2 := Lib.hid (And.intro (HO.out.1.snd id) (LfB.up (HO.out.2.snd id) (M := 12 + (i + 1)) (by omega)))
            clear HS3
            go_wp2_with fail
            (with_reducible refine HX.out.mono ?_); rintro e w6 ⟨rfl, h1⟩
            have HF := Lib.hid h1
            clear h1 HX
            go_wp2
            go_roundw
            case rel => exact ⟨i + 1, q' + 2, _, by omega, by go_num, by omega, HO2, HF⟩
            case measure => simp [intOf]; omega
          · clear hwid r20 r21
            have HX := Lib.hid (Inv.call1 HS3.out ((pfdrp_any hB id 2).star GenP.frm))
            have HO2 := Lib.hid (And.intro (HO.out.1.drp id 2) (LfB.up (HO.out.2.drp id 2) (M := 12 + (i + 1)) (by omega)))
            clear HS3
            go_wp2_with fail
            (with_reducible refine HX.out.mono ?_); rintro e w6 ⟨rfl, h1⟩
            have HF := Lib.hid h1
            clear h1 HX
            go_wp2
            go_roundw
            case rel => exact ⟨i + 1, q' + 2, _, by omega, by go_num, by omega, HO2, HF⟩
            case measure => simp [intOf]; omega
          · have hq0 : (r2 == 0) = false := by simpa using n0
            have hq1 : (r2 == 1) = false := by simpa using n1
            clear hwid r20 r21 n0 n1
            have HX := Lib.hid (Inv.call1 HS3.out ((pfdlv_any hB id).star GenP.frm))
            have HO2 := Lib.hid (And.intro (HO.out.1.dlv id) (LfB.up (HO.out.2.dlv id) (M := 12 + (i + 1)) (by omega)))
            clear HS3
            go_wp2_with fail
            (with_reducible refine HX.out.mono ?_); rintro e w6 ⟨rfl, h1⟩
            have HF := Lib.hid h1
            clear h1 HX
            go_wp2
            go_roundw
            case rel => exact ⟨i + 1, q' + 2, _, by omega, by go_num, by omega, HO2, HF⟩
            case measure => simp [intOf]; omega
        · have hlt2' : ¬ (i : Int) < 60 := by omega
          have hB := HO.out.2.up (M := 9999) (by omega)
          have HBB := Lib.hid hB
          clear hB hlt2
          go_wp2_with fail
          go_loopw [9] (fun s9 wr => ∃ (f : Nat), f ≤ 2 ∧ s9 = .int .i64 f ∧ Hid (Inv w.heap.size w (Star (LfW R s) (GenP w.heap.size w.heap.size A len cap q')) wr)) (fun s9 _ => 2 - (intOf s9).toNat)
          case atStart => exact ⟨0, by omega, rfl, HS⟩
          case round =>
            obtain ⟨f, hf, rfl, HS4⟩ := hrel
            clear HS
            by_cases hlf : f < 2
            · have hlf' : (f : Int) < 2 := by omega
              have HX := Lib.hid (Inv.call HS4.out ((Acts.got LfW.frm (fun T w h => pfod_any HBB.out h (f : Int))).star GenP.frm))
              clear HS4
              go_wp2_with fail
              (with_reducible refine HX.out.mono ?_); rintro e w6 ⟨v, rfl, h1⟩
              have h2 := h1.imp fun T => Star.assoc
              have hLA := LsP.any h2
              obtain ⟨A9, c9, rfl, _⟩ := hLA.shape
              have hlen : (lfOd s (f : Int)).length ≤ 100000 := by
                have h3 := List.length_filter_le (fun k => lfFl s k == (f : Int)) s.d
                have h4 := HBB.out.d
                unfold lfOd
                omega
              have HX := Lib.hid (Inv.calm h2 (LsP.frm.star (LfW.frm.star GenP.frm)) (rising_any hlen hLA (HO.out.1.p f)))
              have hcn := HO.out.1.c (f : Int)
              have HT := Lib.hid (fun k (hk : k < (lfOd s (f : Int)).length) => HO.out.1.t _ (List.mem_filter.1 (List.getElem_mem hk)).1)
              clear h1 h2 hLA
              generalize lfOd s (f : Int) = L at *
              obtain ⟨m, hm⟩ : ∃ m, L.length = m := ⟨_, rfl⟩
              have HM := Lib.hid hm
              rw [hm] at hcn hlen HX ⊢
              clear hm
              go_wp2_with fail
              (with_reducible refine HX.out.mono ?_); rintro e w7 ⟨rfl, h2⟩
              obtain ⟨T9, hp9⟩ := h2.drop.getL
              have hx := Inv.calm h2 (LsP.frm.star (LfW.frm.star GenP.frm)) (pfcn_any HBB.out hp9 (f : Int) 3)
              rw [← hcn] at hx
              have HX := Lib.hid hx
              clear h2 hx hp9 hcn
              go_wp2_with fail
              (with_reducible refine HX.out.mono ?_); rintro e w8 ⟨rfl, h2⟩
              have HS5 := Lib.hid h2
              clear h2 HX
              go_wp2_with fail
              go_loopw [11] (fun s11 wr => ∃ (k : Nat), k ≤ m ∧ s11 = .int .i64 k ∧ Hid (Inv w.heap.size w (Star (LsP csI 1 3 (.slice A9 m c9) L) (Star (LfW R s) (GenP w.heap.size w.heap.size A len cap q'))) wr)) (fun s11 _ => m - (intOf s11).toNat)
              case atStart => exact ⟨0, Nat.zero_le _, rfl, HS5⟩
              case round =>
                obtain ⟨k, hk, rfl, HS6⟩ := hrel
                clear HS5
                by_cases hlk : k < m
                · have hlk' : (k : Int) < m := by omega
                  have hk0 : (0 : Int) ≤ k := by omega
                  have hkl : k < L.length := by have := HM.out; omega
                  obtain ⟨b, o, c', e1, _, hb, _, _, f1⟩ := (LsP.any HS6.out).el hkl
                  rw [HM.out] at e1
                  obtain ⟨rfl, rfl⟩ : A9 = some ⟨b, o, none⟩ ∧ c9 = c' := by simpa using e1
                  have d0 : wr.cell? ⟨b, o + k * 1 + 0, none⟩ = some (.int .i64 L[k]) := f1 k hkl 0 (by omega)
                  rw [Nat.mul_one, Nat.add_zero] at d0
                  obtain ⟨T9, hp9⟩ := HS6.out.drop.getL
                  have hx := Inv.calm HS6.out (LsP.frm.star (LfW.frm.star GenP.frm)) (pfst_any HBB.out hp9 L[k])
                  rw [HT.out k hkl] at hx
                  have HX := Lib.hid hx
                  generalize L[k] = y at *
                  clear f1 e1 hx hp9 HS6
                  go_wp2_with fail
                  (with_reducible refine HX.out.mono ?_); rintro e w9 ⟨rfl, h2⟩
                  have HF := Lib.hid h2
                  clear h2 HX
                  go_wp2
                  go_roundw
                  case rel => exact ⟨k + 1, by omega, by go_num, HF⟩
                  case measure => simp [intOf]; omega
                · obtain rfl : k = m := by omega
                  have HF := Lib.hid HS6.out.drop
                  clear HS6 HT
                  go_wp2
                  go_roundw
                  case rel => exact ⟨f + 1, by omega, by go_num, HF⟩
                  case measure => simp [intOf]; omega
            · obtain rfl : f = 2 := by omega
              have HB := Lib.hid HS4.out.out
              clear HS4 HO HBB
              go_wp2_with fail
              (with_reducible refine (HAW.out _).mono ?_); rintro e w12 ⟨rfl, hb⟩
              have HF := Lib.hid (HB.out.trans (hb.mono HB.out.size))
              clear hb HB
              go_wp2
              go_ret
              exact ⟨rfl, HF.out⟩
end Go.Proofs.Ytkhngfadhfomoaa

