/-
  Layer 18: the walk of the statement on ended packets (LifeEnds). Every input; no condition.
-/
import Derived.Test.YtkhngfadhfomoaaLfEnv
import Derived.Deep.CutBlock
import Derived.Deep.DeepCutAuto
import Derived.Deep.LoopGhost
import Derived.LoopTactic
namespace Go.Proofs.Ytkhngfadhfomoaa
open Go.ChangeShapes Go.WideShapes Go.ChangeAt Go.RowKit
set_option linter.unusedVariables false

theorem lc0 : lfAcE 0 1 = 0 ∧ lfAcV LfS.new 0 1 = 1 ∧ LfS.new.acc 0 1 = ⟨[⟨0, 1, 1, 0⟩], [], fun _ => 0⟩ := ⟨rfl, rfl, rfl⟩
theorem lc1 {y : Int} (h : 1 ≤ y ∧ y ≤ 4) : lfDpE ⟨[⟨0, 1, 2, 0⟩], [], fun _ => 0⟩ 1 y = 0 ∧ LfS.drp ⟨[⟨0, 1, 2, 0⟩], [], fun _ => 0⟩ 1 y = ⟨[⟨0, 1, 4, y⟩], [], fun _ => 0⟩ := by
  have e : lfSt ⟨[⟨0, 1, 2, 0⟩], [], fun _ => 0⟩ 1 = 2 := rfl
  have e3 : lfDpE ⟨[⟨0, 1, 2, 0⟩], [], fun _ => 0⟩ 1 y = 0 := by unfold lfDpE; rw [e, if_neg (by decide), if_neg (by omega), if_neg (by decide)]
  exact ⟨e3, by unfold LfS.drp; rw [e3, if_pos rfl]; rfl⟩
set_option maxRecDepth 100000 in
set_option maxHeartbeats 16000000 in
theorem walkEnds18 (A : Option Addr) (len cap : Nat) (w : World) (he : Elems w.heap.size A len w) :
    Calls Try.prog 6 #[.slice A len cap] w (Calm (.bool true) w) := by
  have h0 := GenP.new (w0 := w) (cap := cap) he (Below.refl _ _) he
  have HX := Lib.hid (h0.emp.call (pfnew_any.star GenP.frm))
  have HAW := Lib.hid (fun w => awake18_any w)
  clear h0 he
  unfold Calm at *
  go_enter Try.func6, Try.ntmps6
  go_wp2_with fail
  (with_reducible refine (new_any A len cap _).mono ?_); rintro e w' ⟨rfl, rfl⟩
  go_wp2_with fail
  (with_reducible refine HX.out.mono ?_); rintro e w1 ⟨R, rfl, h1⟩
  have hx := Inv.call1 h1 ((pfacc_any (LfB.new _) 0 1).star GenP.frm)
  rw [lc0.1, lc0.2.1, lc0.2.2] at hx
  have HX := Lib.hid hx
  clear h1 hx
  go_wp2_with fail
  (with_reducible refine HX.out.mono ?_); rintro e w2 ⟨rfl, h1⟩
  have hx := Inv.call1 h1 ((pfsnd_any (lb1 _ _ (by simp) (by simp)) 1).star GenP.frm)
  rw [(la1 1).1, (la1 1).2] at hx
  have HX := Lib.hid hx
  clear h1 hx
  go_wp2_with fail
  (with_reducible refine HX.out.mono ?_); rintro e w3 ⟨rfl, h1⟩
  have HX := Lib.hid (Inv.nextD h1 LfW.frm (n := 4) (by omega) (by omega) (by omega))
  clear h1
  go_wp2_with fail
  (with_reducible refine HX.out.mono ?_); rintro e w4 ⟨r, r0, r1, rfl, h1, _⟩
  obtain ⟨y, hy⟩ : ∃ y, 1 + r = y := ⟨_, rfl⟩
  have hwy : IntKind.i64.wrap (1 + r) = y := by rw [hy]; exact IntWalk.i64_in _ (by omega)
  have hyb : 1 ≤ y ∧ y ≤ 4 := by omega
  have HX := Lib.hid (Inv.nextD h1 LfW.frm (n := 2) (by omega) (by omega) (by omega))
  clear h1 hy
  go_wp2_with fail
  (with_reducible refine HX.out.mono ?_); rintro e w5 ⟨r2, r20, r21, rfl, h1, _⟩
  have HS := Lib.hid h1
  have HYB := Lib.hid hyb
  clear h1 HX r0 r1 hwy
  go_upto_if 22 with fail
  go_cut [5, 6] (fun s5 s6 wx => ∃ (en wy : Int) (s : LfS), s5 = .int .i64 wy ∧ s6 = .int .i64 en ∧ Hid ((en = 3 ∨ en = 4) ∧ lfSt s 1 = en ∧ lfWy s 1 = wy ∧ LfB s 9999) ∧ Hid (Inv w.heap.size w (Star (LfW R s) (GenP w.heap.size w.heap.size A len cap 2)) wx))
  case first =>
    by_cases hr : r2 = 0
    · subst hr
      have hx := Inv.call1 HS.out ((pfdrp_any (lb1 _ _ (by simp) (by simp)) 1 y).star GenP.frm)
      rw [(lc1 HYB.out).1, (lc1 HYB.out).2] at hx
      have HX := Lib.hid hx
      clear hx HS
      go_wp2_with fail
      (with_reducible refine HX.out.mono ?_); rintro e w6 ⟨rfl, h1⟩
      have HF := Lib.hid h1
      clear h1 HX
      go_wp2
      go_meet
      case rel => exact ⟨4, y, ⟨[⟨0, 1, 4, y⟩], [], fun _ => 0⟩, rfl, rfl, Lib.hid ⟨.inr rfl, rfl, rfl, lb1 _ _ (by simp) (by simp)⟩, HF⟩
    · have hr0 : (r2 == 0) = false := by simpa using hr
      have hx := Inv.call1 HS.out ((pfdlv_any (lb1 _ _ (by simp) (by simp)) 1).star GenP.frm)
      rw [(la2 1).1, (la2 1).2] at hx
      have HX := Lib.hid hx
      clear hx HS
      go_wp2_with fail
      (with_reducible refine HX.out.mono ?_); rintro e w6 ⟨rfl, h1⟩
      have HF := Lib.hid h1
      clear h1 HX
      go_wp2
      go_meet
      case rel => exact ⟨3, 0, ⟨[⟨0, 1, 3, 0⟩], [1], fun _ => 0⟩, rfl, rfl, Lib.hid ⟨.inl rfl, rfl, rfl, lb1 _ _ (by simp) (by simp)⟩, HF⟩
  case rest =>
    obtain ⟨en, wy, s, rfl, rfl, HE, HS2⟩ := hcut
    clear HS r20 r21 hyb HYB
    go_wp2_with fail
    go_loopw [7] (fun s7 wr => ∃ (j : Nat), j ≤ 6 ∧ s7 = .int .i64 j ∧ Hid (Inv w.heap.size w (Star (LfW R s) (GenP w.heap.size w.heap.size A len cap (2 + j))) wr)) (fun s7 _ => 6 - (intOf s7).toNat)
    case atStart => exact ⟨0, by omega, rfl, HS2⟩
    case round =>
      obtain ⟨j, hj, rfl, HS⟩ := hrel
      clear HS2
      by_cases hlt : j < 6
      · have hlt' : (j : Int) < 6 := by omega
        obtain ⟨hen, hst, hwy, hB⟩ := HE.out
        obtain ⟨e1, e2, e3, e4, e5⟩ := lfEnd (s := s) (id := 1) (by rw [hst]; exact hen)
        have HE5 := Lib.hid e5
        have HB := Lib.hid hB
        have HST := Lib.hid hst
        have HWY := Lib.hid hwy
        have hx := Inv.call1 HS.out ((pfsnd_any hB 1).star GenP.frm)
        rw [e1, e2] at hx
        have HX := Lib.hid hx
        have HDV := Lib.hid (And.intro e3 e4)
        clear hx HS e1 e2 e3 e4 e5 hen hst hwy hB
        go_wp2_with fail
        (with_reducible refine HX.out.mono ?_); rintro e w6 ⟨rfl, h1⟩
        have hx := Inv.call1 h1 ((pfdlv_any HB.out 1).star GenP.frm)
        rw [HDV.out.1, HDV.out.2] at hx
        have HX := Lib.hid hx
        clear h1 hx
        go_wp2_with fail
        (with_reducible refine HX.out.mono ?_); rintro e w7 ⟨rfl, h1⟩
        have HX := Lib.hid (Inv.nextD h1 LfW.frm (n := 4) (by omega) (by omega) (by omega))
        clear h1
        go_wp2_with fail
        (with_reducible refine HX.out.mono ?_); rintro e w8 ⟨r, r0, r1, rfl, h1, _⟩
        obtain ⟨y', hy⟩ : ∃ y', 1 + r = y' := ⟨_, rfl⟩
        have hwy : IntKind.i64.wrap (1 + r) = y' := by rw [hy]; exact IntWalk.i64_in _ (by omega)
        obtain ⟨e6, e7⟩ := HE5.out y' (by omega)
        have hx := Inv.call1 h1 ((pfdrp_any HB.out 1 y').star GenP.frm)
        rw [e6, e7] at hx
        have HX := Lib.hid hx
        clear h1 hx hy e6 e7
        go_wp2_with fail
        (with_reducible refine HX.out.mono ?_); rintro e w9 ⟨rfl, h1⟩
        obtain ⟨T9, hp9⟩ := h1.getL
        have hx := Inv.calm h1 (LfW.frm.star GenP.frm) (pfst_any HB.out hp9 1)
        rw [HST.out] at hx
        have HX := Lib.hid hx
        clear h1 hx hp9 hwy r0 r1
        go_wp2_with fail
        (with_reducible refine HX.out.mono ?_); rintro e w10 ⟨rfl, h1⟩
        obtain ⟨T9, hp9⟩ := h1.getL
        have hx := Inv.calm h1 (LfW.frm.star GenP.frm) (pfwy_any HB.out hp9 1)
        rw [HWY.out] at hx
        have HX := Lib.hid hx
        have hnn1 : (en != en) = false := by simp
        have hnn2 : (wy != wy) = false := by simp
        clear h1 hx hp9
        go_wp2_with fail
        (with_reducible refine HX.out.mono ?_); rintro e w11 ⟨rfl, h1⟩
        have HF := Lib.hid h1
        clear h1 HX
        go_wp2
        go_roundw
        case rel => exact ⟨j + 1, by omega, by go_num, HF⟩
        case measure => simp [intOf]; omega
      · obtain rfl : j = 6 := by omega
        have HB := Lib.hid HS.out.out
        clear HS HE
        go_wp2_with fail
        (with_reducible refine (HAW.out _).mono ?_); rintro e w12 ⟨rfl, hb⟩
        have HF := Lib.hid (HB.out.trans (hb.mono HB.out.size))
        clear hb HB
        go_wp2
        go_ret
        exact ⟨rfl, HF.out⟩
end Go.Proofs.Ytkhngfadhfomoaa

