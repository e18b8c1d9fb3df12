/-
  Layer 18: the walk of the statement on sequences of calls (LifeScript). Every input; no condition. Written by gen_lfwalk1.py.
-/
import Derived.Test.YtkhngfadhfomoaaLfNew
import Derived.Test.YtkhngfadhfomoaaLfEq
import Derived.Laws.StructEq
import Derived.Deep.LoopGhost
import Derived.LoopTactic
namespace Go.Proofs.Ytkhngfadhfomoaa
open Go.ChangeShapes Go.WideShapes Go.ChangeAt Go.RowKit
set_option linter.unusedVariables false

def LsC (W0 : World) (fu : Nat) (w : World) : Prop := Below W0.heap.size W0 w
def LsR (w w' : World) : Prop := Below w.heap.size w w'
def LsV (R S g6 i : Nat) (f z0 z1 z2 z3 z4 : Int) (L : List Int) (k : Nat) (v : Value) (w : World) : Prop :=
  match k with
  | 0 => v = .pointer (some ⟨R, 0, none⟩)
  | 1 => v = .slice (some ⟨g6, 0, none⟩) 6 6
  | 2 => v = .int .i64 (i : Nat)
  | 3 => v = .pointer (some ⟨g6, i, none⟩)
  | 4 => v = .int .i64 f
  | 5 => v = .agg #[.int .i64 z0, .int .i64 z1, .int .i64 z2, .int .i64 z3, .int .i64 z4, .int .i64 0]
  | 6 => v = .pointer (some ⟨S, 0, none⟩)
  | 7 => v = .slice (some ⟨g6, 0, none⟩) 6 6
  | 8 => v = .int .i64 (i : Nat)
  | 9 => v = .pointer (some ⟨g6, i, none⟩)
  | 10 => v = .int .i64 f
  | 11 => v = .agg #[.int .i64 z0, .int .i64 z1, .int .i64 z2, .int .i64 z3, .int .i64 z4, .int .i64 0]
  | 12 => v = .bool false
  | 13 => v = .bool false
  | 14 => v = .pointer (some ⟨R, 0, none⟩)
  | 15 => v = .slice (some ⟨g6, 0, none⟩) 6 6
  | 16 => v = .int .i64 (i : Nat)
  | 17 => v = .pointer (some ⟨g6, i, none⟩)
  | 18 => v = .int .i64 f
  | 19 => LsA csI 1 3 v L w
  | 20 => v = .pointer (some ⟨S, 0, none⟩)
  | 21 => v = .slice (some ⟨g6, 0, none⟩) 6 6
  | 22 => v = .int .i64 (i : Nat)
  | 23 => v = .pointer (some ⟨g6, i, none⟩)
  | 24 => v = .int .i64 f
  | 25 => LsA csI 1 3 v L w
  | 26 => v = .bool true
  | 27 => v = .bool false
  | 28 => v = .bool false
  | _ => True
theorem LsV.keep {R S g6 i : Nat} {f z0 z1 z2 z3 z4 : Int} {L : List Int} (k : Nat) (v : Value) (w w' : World) (h : LsR w w') (hv : LsV R S g6 i f z0 z1 z2 z3 z4 L k v w) : LsV R S g6 i f z0 z1 z2 z3 z4 L k v w' := by
  unfold LsV at *
  split at hv <;> first | exact hv | exact hv.later h | trivial
theorem lfOd_len (s : LfS) (f : Int) : (lfOd s f).length ≤ s.d.length := List.length_filter_le _ _
set_option maxRecDepth 100000 in
set_option maxHeartbeats 16000000 in
theorem walkScript18 (A : Option Addr) (len cap : Nat) (fl id : Int) (w : World) (he : Elems w.heap.size A len w) :
    Calls Try.prog 3 #[.slice A len cap, .int .i64 fl, .int .i64 id] w (Calm (.bool true) w) := by
  have h0 := GenP.new (w0 := w) (cap := cap) he (Below.refl _ _) he
  have HX := Lib.hid (h0.emp.call (pfnew_any.star GenP.frm))
  have HAW := Lib.hid (fun w => awake18_any w)
  clear h0 he
  unfold Calm at *
  go_enter Try.func3, Try.ntmps3
  go_wp2_with fail
  (with_reducible refine (new_any A len cap _).mono ?_); rintro e w' ⟨rfl, rfl⟩
  go_wp2_with fail
  (with_reducible refine HX.out.mono ?_); rintro e w1 ⟨R, rfl, h1⟩
  have h2 := ((h1.box (LfW.frm.star GenP.frm) 31 lt34).imp fun T h => Star.map (fun A h => ltnew h) h).emp
  have HI := Lib.hid (show Inv w.heap.size w (LfE2 Emp w.heap.size w.heap.size A len cap R w1.heap.size 0 LfS.new LfS.new) (w1.alloc (.cells lt34 31)) from h2)
  unfold lt34 at HI
  clear h1 h2 HX
  go_wp2_with fail
  generalize w1.heap.size = S at *
  go_loopw [10] (fun s10 wr => ∃ (i q : Nat) (s : LfS), i ≤ 50 ∧ s10 = .int .i64 i ∧ q ≤ 40 * i ∧ Hid (LfB s i) ∧ Hid (Inv w.heap.size w (LfE2 Emp w.heap.size w.heap.size A len cap R S q s s) wr)) (fun s10 _ => 50 - (intOf s10).toNat)
  case atStart => exact ⟨0, 0, LfS.new, by omega, rfl, by omega, Lib.hid (LfB.new _), HI⟩
  case round =>
    obtain ⟨i, q, s, hi, rfl, hq, HB, HS⟩ := hrel
    clear HI
    by_cases hlt : i < 50
    · have hlt' : (i : Int) < 50 := by omega
      have HX := Lib.hid (act18_any Frm.emp HS.out (by omega) HB.out (by omega))
      clear HS
      go_wp2_with fail
      (with_reducible refine HX.out.mono ?_); rintro e w2 ⟨rfl, q1, s2, hq1, ⟨hB2, _⟩, h1⟩
      have HBB := Lib.hid hB2
      have HB9 := Lib.hid (hB2.up (M := 9999) (by omega))
      have HS := Lib.hid h1
      have hml := hB2.l
      clear h1 hB2 HB HX
      obtain ⟨m, hm⟩ : ∃ m, s2.l.length = m := ⟨_, rfl⟩
      have HM := Lib.hid hm
      rw [hm] at hml
      clear hm
      go_wp2_with fail
      go_loopw [11] (fun s11 wr => ∃ (k : Nat), k ≤ m + 2 ∧ s11 = .int .i64 k ∧ Hid (Inv w.heap.size w (LfE2 Emp w.heap.size w.heap.size A len cap R S q1 s2 s2) wr)) (fun s11 _ => m + 2 - (intOf s11).toNat)
      case atStart => exact ⟨0, by omega, rfl, HS⟩
      case round =>
        obtain ⟨k, hk, rfl, HS3⟩ := hrel
        clear HS
        obtain ⟨AL, cL, dd0⟩ := LfE2.l0 HS3.out
        rw [HM.out] at dd0
        have wm1 : IntKind.i64.wrap ((m : Int) + 1) = (m : Int) + 1 := IntWalk.i64_in _ (by omega)
        by_cases hlk : k ≤ m + 1
        · have hlk' : (k : Int) ≤ (m : Int) + 1 := by omega
          obtain ⟨T9, hp9⟩ := LfE2.pget HS3.out
          have HPS := Lib.hid (Inv.calm HS3.out (LfE2.frm Frm.emp) (pfst_any HB9.out hp9 (k : Int)))
          have HRS := Lib.hid (fun (W : World) (h : Inv w.heap.size w (LfE2 Emp w.heap.size w.heap.size A len cap R S q1 s2 s2) W) => (by
            obtain ⟨T7, hr7⟩ := LfE2.rget h
            exact rstate_any HB9.out.l hr7 (k : Int)))
          have HPW := Lib.hid (fun (W : World) (h : Inv w.heap.size w (LfE2 Emp w.heap.size w.heap.size A len cap R S q1 s2 s2) W) => (by
            obtain ⟨T7, hp7⟩ := LfE2.pget h
            exact Inv.calm h (LfE2.frm Frm.emp) (pfwy_any HB9.out hp7 (k : Int))))
          obtain ⟨st, hst⟩ : ∃ st, lfSt s2 k = st := ⟨_, rfl⟩
          rw [hst] at HPS HRS
          have hss : (st != st) = false := by simp
          by_cases hin : lfIn s2 k
          · obtain ⟨T8, hr8⟩ := LfE2.rget HS3.out
            obtain ⟨_, _, ⟨AL', cL', dd1, HR⟩, _, _⟩ := hr8.rd
            rw [HM.out, dd0] at dd1
            obtain ⟨rfl, rfl⟩ : AL = AL' ∧ cL = cL' := by simpa using dd1
            have hil := lfI_lt hin
            obtain ⟨g, rfl, hSg, _, hg, _, c0, c1, c2, c3⟩ := HR _ hil
            have hwy : lfWy s2 k = s2.l[lfI k].y := by unfold lfWy; rw [dif_pos hin]
            rw [← hwy] at c3
            have hsub := lfI_is hin
            rw [HM.out] at hil
            have hin2 : 1 ≤ (k : Int) ∧ (k : Int) ≤ m := by unfold lfIn at hin; rw [HM.out] at hin; exact hin
            obtain ⟨y, hy⟩ : ∃ y, lfWy s2 k = y := ⟨_, rfl⟩
            rw [hy] at c3 HPW
            clear c0 c1 c2 hwy HR hr8 dd1 hin hp9 hst hy
            generalize lfI (k : Int) = j at *
            have hwk : IntKind.i64.wrap ((k : Int) - 1) = (j : Int) := by rw [IntWalk.i64_in _ (by omega)]; omega
            have hj2 : (j : Int) < m := by omega
            have hj0 : (0 : Int) ≤ j := by omega
            have hk1 : (1 : Int) ≤ k := hin2.1
            have hk2 : (k : Int) ≤ m := hin2.2
            have hyy : (y != y) = false := by simp
            clear hsub hil hin2
            go_wp2_with fail
            (with_reducible refine HPS.out.mono ?_); rintro e w3 ⟨rfl, h1⟩
            have HX := Lib.hid (HRS.out _ h1)
            have HY := Lib.hid (HPW.out _ h1)
            clear h1 HPS HRS HPW HS3 dd0 c3
            go_wp2_with fail
            (with_reducible refine HX.out.mono ?_); rintro e w4 ⟨rfl, rfl⟩
            go_wp2_with fail
            (with_reducible refine HY.out.mono ?_); rintro e w5 ⟨rfl, h1⟩
            have HF := Lib.hid h1
            clear h1 HX HY
            go_wp2
            go_roundw
            case rel => exact ⟨k + 1, by omega, by go_num, HF⟩
            case measure => simp [intOf]; omega
          · have hy : lfWy s2 k = 0 := by unfold lfWy; rw [dif_neg hin]
            rw [hy] at HPW
            have hin2 : (k : Int) = 0 ∨ (1 ≤ (k : Int) ∧ (m : Int) < k) := by unfold lfIn at hin; rw [HM.out] at hin; omega
            have h00 : ((0 : Int) != 0) = false := by simp
            clear hin hp9 hst hy
            rcases hin2 with hk00 | ⟨hk1, hk2⟩
            · have hk1i : ¬ (1 : Int) ≤ (k : Int) := by omega
              have hd1 : decide ((1 : Int) ≤ (k : Int)) = false := by simp; omega
              have hd2 : decide (1 ≤ k) = false := by simp; omega
              have hd3 : decide (0 < k) = false := by simp; omega
              clear hk00
              go_wp2_with fail
              (with_reducible refine HPS.out.mono ?_); rintro e w3 ⟨rfl, h1⟩
              have HX := Lib.hid (HRS.out _ h1)
              have HY := Lib.hid (HPW.out _ h1)
              clear h1 HPS HRS HPW HS3 dd0
              go_wp2_with fail
              (with_reducible refine HX.out.mono ?_); rintro e w4 ⟨rfl, rfl⟩
              go_wp2_with fail
              (with_reducible refine HY.out.mono ?_); rintro e w5 ⟨rfl, h1⟩
              have HF := Lib.hid h1
              clear h1 HX HY
              go_wp2
              go_roundw
              case rel => exact ⟨k + 1, by omega, by go_num, HF⟩
              case measure => simp [intOf]; omega
            · have hk1n : 1 ≤ k := by omega
              have hk2n : ¬ k ≤ m := by omega
              have hk2i : ¬ (k : Int) ≤ (m : Int) := by omega
              have hd2 : decide ((k : Int) ≤ (m : Int)) = false := by simp; omega
              have hd3 : decide (k ≤ m) = false := by simp; omega
              go_wp2_with fail
              (with_reducible refine HPS.out.mono ?_); rintro e w3 ⟨rfl, h1⟩
              have HX := Lib.hid (HRS.out _ h1)
              have HY := Lib.hid (HPW.out _ h1)
              clear h1 HPS HRS HPW HS3 dd0
              go_wp2_with fail
              (with_reducible refine HX.out.mono ?_); rintro e w4 ⟨rfl, rfl⟩
              go_wp2_with fail
              (with_reducible refine HY.out.mono ?_); rintro e w5 ⟨rfl, h1⟩
              have HF := Lib.hid h1
              clear h1 HX HY
              go_wp2
              go_roundw
              case rel => exact ⟨k + 1, by omega, by go_num, HF⟩
              case measure => simp [intOf]; omega
        · have hlk' : ¬ (k : Int) ≤ (m : Int) + 1 := by omega
          clear hlk
          go_wp2
          go_roundw
          case rel => exact ⟨i + 1, q1, s2, by omega, by go_num, by omega, HBB, HS3⟩
          case measure => simp [intOf]; omega
    · have hlt' : ¬ (i : Int) < 50 := by omega
      have hB9 := HB.out.up (M := 9999) (by omega)
      have HB9 := Lib.hid hB9
      have h2 := HS.out.drop.box (LtP.frm.star (LfW.frm.star GenP.frm)) 3 #[.int .i64 0, .int .i64 1, .int .i64 2, .int .i64 (-1), .int .i64 32, .int .i64 fl]
      have HS6 := Lib.hid (show Inv w.heap.size w (LfE2 (BoxP wr.heap.size 3 #[.int .i64 0, .int .i64 1, .int .i64 2, .int .i64 (-1), .int .i64 32, .int .i64 fl]) w.heap.size w.heap.size A len cap R S q s s) _ from h2)
      clear h2 hB9 HS hlt HB
      go_wp2_with fail
      generalize wr.heap.size = g6 at *
      go_loopw [14] (fun s14 wr => ∃ (i : Nat), i ≤ 6 ∧ s14 = .int .i64 i ∧ Hid (Inv w.heap.size w (LfE2 (BoxP g6 3 #[.int .i64 0, .int .i64 1, .int .i64 2, .int .i64 (-1), .int .i64 32, .int .i64 fl]) w.heap.size w.heap.size A len cap R S q s s) wr)) (fun s14 _ => 6 - (intOf s14).toNat)
      case atStart => exact ⟨0, by omega, rfl, HS6⟩
      case round =>
        obtain ⟨i, hi, rfl, HS7⟩ := hrel
        clear HS6
        by_cases hl6 : i < 6
        · have hl6' : (i : Int) < 6 := by omega
          have hi0 : (0 : Int) ≤ i := by omega
          obtain ⟨f, hf⟩ : ∃ f : Int, (#[Value.int .i64 0, .int .i64 1, .int .i64 2, .int .i64 (-1), .int .i64 32, .int .i64 fl])[i]? = some (.int .i64 f) := by
            rcases (by omega : i = 0 ∨ i = 1 ∨ i = 2 ∨ i = 3 ∨ i = 4 ∨ i = 5) with rfl | rfl | rfl | rfl | rfl | rfl
            · exact ⟨0, rfl⟩
            · exact ⟨1, rfl⟩
            · exact ⟨2, rfl⟩
            · exact ⟨-1, rfl⟩
            · exact ⟨32, rfl⟩
            · exact ⟨fl, rfl⟩
          have HCF := Lib.hid (fun (W : World) (h : Inv w.heap.size w (LfE2 (BoxP g6 3 #[.int .i64 0, .int .i64 1, .int .i64 2, .int .i64 (-1), .int .i64 32, .int .i64 fl]) w.heap.size w.heap.size A len cap R S q s s) W) => ((h.boxed.read i).trans hf : W.cell? ⟨g6, i, none⟩ = some (.int .i64 f)))
          have HFR := Lib.hid (fun (W : World) (hw : Below wr.drew.heap.size wr.drew W) => HS7.out.step (LfE2.frm BoxP.frm) ((Below.refl _ wr).drew.trans hw))
          have HCE := Lib.hid (fun (W : World) (hw : Below wr.drew.heap.size wr.drew W) => HCF.out W (HFR.out W hw))
          have HPSS := Lib.hid (fun (W : World) (hw : Below wr.drew.heap.size wr.drew W) => (by
            obtain ⟨T7, hp7⟩ := LfE2.pget (HFR.out W hw)
            exact pfss_any HB9.out hp7 f))
          have HRSS := Lib.hid (fun (W : World) (hw : Below wr.drew.heap.size wr.drew W) => (by
            obtain ⟨T7, hr7⟩ := LfE2.rget (HFR.out W hw)
            exact rsta_any HB9.out hr7 f))
          have HPOD := Lib.hid (fun (W : World) (hw : Below wr.drew.heap.size wr.drew W) => (by
            obtain ⟨T7, hp7⟩ := LfE2.pget (HFR.out W hw)
            exact pfod_any HB9.out hp7 f))
          have HROD := Lib.hid (fun (W : World) (hw : Below wr.drew.heap.size wr.drew W) => (by
            obtain ⟨T7, hr7⟩ := LfE2.rget (HFR.out W hw)
            exact rord_any HB9.out hr7 f))
          have HLN := Lib.hid (show (lfOd s f).length ≤ 9999 from Nat.le_trans (lfOd_len s f) HB9.out.d)
          have HC0 := Lib.hid (show LsC wr.drew 29 wr.drew from Below.refl _ _)
          unfold lfSs stA at HPSS HRSS
          unfold Calm at HPSS HRSS
          generalize lfS0 f = z0 at *
          generalize lfS1 s f = z1 at *
          generalize lfS2 s f = z2 at *
          generalize lfS3 s f = z3 at *
          generalize lfS4 s f = z4 at *
          generalize lfOd s f = L at *
          clear hf
          go_wp2_with fail
          refine wp_region_loose 142 (by kernel_rfl) (by kernel_rfl) (LsC wr.drew) LsR (LsV R S g6 i f z0 z1 z2 z3 z4 L) rfl (fun i v w w' h hv => LsV.keep i v w w' h hv) HC0.out ?_ ?_
          · simp only [OblAll]
            refine ⟨?_, ?_, ?_, ?_, ?_, ?_, ?_, ?_, ?_, ?_, ?_, ?_, ?_, ?_, ?_, ?_, ?_, ?_, ?_, ?_, ?_, ?_, ?_, ?_, ?_, ?_, ?_, ?_, ?_, trivial⟩
            all_goals
              intro fu wx vals hC hp
              simp [predL, predE, Region.binds, PreV, LsV] at hp
              simp only [fillA, if_true, Act.put]
              simp
              have HCx := Lib.hid hC
            · clear hp hC
              go_wp2
              exact ⟨rfl, HCx.out, Below.refl _ _, rfl⟩
            · clear hp hC
              go_wp2
              exact ⟨rfl, HCx.out, Below.refl _ _, rfl⟩
            · clear hp hC
              go_wp2
              exact ⟨rfl, HCx.out, Below.refl _ _, rfl⟩
            · simp only [hp]
              clear hp hC
              go_wp2
              exact ⟨rfl, HCx.out, Below.refl _ _, rfl⟩
            · have x1 := HCE.out wx hC
              simp only [hp]
              clear hp hC
              go_wp2
              exact ⟨rfl, HCx.out, Below.refl _ _, rfl⟩
            · have HX := Lib.hid (HPSS.out wx hC)
              simp only [hp]
              clear hp hC
              go_wp2_with fail
              (with_reducible refine HX.out.mono ?_); rintro e w9 ⟨rfl, hb⟩
              have HB := Lib.hid hb
              clear hb
              go_wp2
              exact ⟨rfl, HCx.out.trans (HB.out.mono HCx.out.size), HB.out, rfl⟩
            · clear hp hC
              go_wp2
              exact ⟨rfl, HCx.out, Below.refl _ _, rfl⟩
            · clear hp hC
              go_wp2
              exact ⟨rfl, HCx.out, Below.refl _ _, rfl⟩
            · clear hp hC
              go_wp2
              exact ⟨rfl, HCx.out, Below.refl _ _, rfl⟩
            · simp only [hp]
              clear hp hC
              go_wp2
              exact ⟨rfl, HCx.out, Below.refl _ _, rfl⟩
            · have x1 := HCE.out wx hC
              simp only [hp]
              clear hp hC
              go_wp2
              exact ⟨rfl, HCx.out, Below.refl _ _, rfl⟩
            · have HX := Lib.hid (HRSS.out wx hC)
              simp only [hp]
              clear hp hC
              go_wp2_with fail
              (with_reducible refine HX.out.mono ?_); rintro e w9 ⟨rfl, hb⟩
              have HB := Lib.hid hb
              clear hb
              go_wp2
              exact ⟨rfl, HCx.out.trans (HB.out.mono HCx.out.size), HB.out, rfl⟩
            · simp only [hp]
              clear hp hC
              go_wp2
              exact ⟨rfl, HCx.out, Below.refl _ _, rfl⟩
            · simp only [hp]
              clear hp hC
              go_wp2
              exact ⟨rfl, HCx.out, Below.refl _ _, rfl⟩
            · simp only [hp]
              clear hp hC
              go_wp2
              exact ⟨rfl, HCx.out, Below.refl _ _, rfl⟩
            · simp only [hp]
              clear hp hC
              go_wp2
              exact ⟨rfl, HCx.out, Below.refl _ _, rfl⟩
            · simp only [hp]
              clear hp hC
              go_wp2
              exact ⟨rfl, HCx.out, Below.refl _ _, rfl⟩
            · simp only [hp]
              clear hp hC
              go_wp2
              exact ⟨rfl, HCx.out, Below.refl _ _, rfl⟩
            · have x1 := HCE.out wx hC
              simp only [hp]
              clear hp hC
              go_wp2
              exact ⟨rfl, HCx.out, Below.refl _ _, rfl⟩
            · have HX := Lib.hid (HPOD.out wx hC)
              simp only [hp]
              clear hp hC
              go_wp2_with fail
              (with_reducible refine HX.out.mono ?_); intro e w9 hg
              obtain ⟨v9, rfl, hr9, hb⟩ := GotLs.any hg
              have HB := Lib.hid hb
              have HR9 := Lib.hid hr9
              clear hb hr9 hg
              go_wp2
              exact ⟨rfl, HCx.out.trans (HB.out.mono HCx.out.size), HB.out, HR9.out⟩
            · simp only [hp]
              clear hp hC
              go_wp2
              exact ⟨rfl, HCx.out, Below.refl _ _, rfl⟩
            · simp only [hp]
              clear hp hC
              go_wp2
              exact ⟨rfl, HCx.out, Below.refl _ _, rfl⟩
            · simp only [hp]
              clear hp hC
              go_wp2
              exact ⟨rfl, HCx.out, Below.refl _ _, rfl⟩
            · simp only [hp]
              clear hp hC
              go_wp2
              exact ⟨rfl, HCx.out, Below.refl _ _, rfl⟩
            · have x1 := HCE.out wx hC
              simp only [hp]
              clear hp hC
              go_wp2
              exact ⟨rfl, HCx.out, Below.refl _ _, rfl⟩
            · have HX := Lib.hid (HROD.out wx hC)
              simp only [hp]
              clear hp hC
              go_wp2_with fail
              (with_reducible refine HX.out.mono ?_); intro e w9 hg
              obtain ⟨v9, rfl, hr9, hb⟩ := GotLs.any hg
              have HB := Lib.hid hb
              have HR9 := Lib.hid hr9
              clear hb hr9 hg
              go_wp2
              exact ⟨rfl, HCx.out.trans (HB.out.mono HCx.out.size), HB.out, HR9.out⟩
            · have hp1 : LsA csI 1 3 (vals 19) L wx := by simp [hp]
              have hp2 : LsA csI 1 3 (vals 25) L wx := by simp [hp]
              have hx := eqI_any (by have := HLN.out; omega) hp1 hp2
              unfold Calm at hx
              have HX := Lib.hid hx
              simp only [hp]
              clear hp hC hx hp1 hp2
              generalize vals 19 = v19 at *
              generalize vals 25 = v25 at *
              go_wp2_with fail
              (with_reducible refine HX.out.mono ?_); rintro e w9 ⟨rfl, hb⟩
              have HB := Lib.hid hb
              clear hb
              go_wp2
              exact ⟨rfl, HCx.out.trans (HB.out.mono HCx.out.size), HB.out, rfl⟩
            · simp only [hp]
              clear hp hC
              go_wp2
              exact ⟨rfl, HCx.out, Below.refl _ _, rfl⟩
            · simp only [hp]
              clear hp hC
              go_wp2
              exact ⟨rfl, HCx.out, Below.refl _ _, rfl⟩
          · intro wz vals hC hV
            have e28 := hV 28 (by simp)
            simp only [LsV] at e28
            have HS8 := Lib.hid (HFR.out wz hC)
            simp only [fillA, if_true, Act.put]
            simp
            simp only [e28]
            clear e28 hV hC HC0 HPSS HRSS HPOD HROD HFR HCE HS7 HLN
            generalize vals 0 = t_0 at *
            generalize vals 1 = t_1 at *
            generalize vals 2 = t_2 at *
            generalize vals 3 = t_3 at *
            generalize vals 4 = t_4 at *
            generalize vals 5 = t_5 at *
            generalize vals 6 = t_6 at *
            generalize vals 7 = t_7 at *
            generalize vals 8 = t_8 at *
            generalize vals 9 = t_9 at *
            generalize vals 10 = t_10 at *
            generalize vals 11 = t_11 at *
            generalize vals 12 = t_12 at *
            generalize vals 13 = t_13 at *
            generalize vals 14 = t_14 at *
            generalize vals 15 = t_15 at *
            generalize vals 16 = t_16 at *
            generalize vals 17 = t_17 at *
            generalize vals 18 = t_18 at *
            generalize vals 19 = t_19 at *
            generalize vals 20 = t_20 at *
            generalize vals 21 = t_21 at *
            generalize vals 22 = t_22 at *
            generalize vals 23 = t_23 at *
            generalize vals 24 = t_24 at *
            generalize vals 25 = t_25 at *
            generalize vals 26 = t_26 at *
            generalize vals 27 = t_27 at *
            go_wp2_with fail
            go_loopw [15] (fun s15 wr => ∃ (j : Nat), j ≤ 7 ∧ s15 = .int .i64 ((j : Int) - 1) ∧ Hid (Inv w.heap.size w (LfE2 (BoxP g6 3 #[.int .i64 0, .int .i64 1, .int .i64 2, .int .i64 (-1), .int .i64 32, .int .i64 fl]) w.heap.size w.heap.size A len cap R S q s s) wr)) (fun s15 _ => (6 - intOf s15).toNat)
            case atStart => exact ⟨0, by omega, rfl, HS8⟩
            case round =>
              obtain ⟨j, hj, rfl, HS9⟩ := hrel
              clear HS8
              obtain ⟨x, hx⟩ : ∃ x : Int, (j : Int) - 1 = x := ⟨_, rfl⟩
              rw [hx]
              by_cases hlx : x < 6
              · have HFR := Lib.hid (fun (W : World) (hw : Below wr.drew.heap.size wr.drew W) => HS9.out.step (LfE2.frm BoxP.frm) ((Below.refl _ wr).drew.trans hw))
                have HCE := Lib.hid (fun (W : World) (hw : Below wr.drew.heap.size wr.drew W) => HCF.out W (HFR.out W hw))
                have HCP := Lib.hid (fun (W : World) (hw : Below wr.drew.heap.size wr.drew W) => (by
                  obtain ⟨T7, hp7⟩ := LfE2.pget (HFR.out W hw)
                  exact pfcn_any HB9.out hp7 f x))
                have HCR := Lib.hid (fun (W : World) (hw : Below wr.drew.heap.size wr.drew W) => (by
                  obtain ⟨T7, hr7⟩ := LfE2.rget (HFR.out W hw)
                  exact (rcnt_any HB9.out hr7 f x).mono fun e w' k => Calm.same k : Calls Try.prog 19 #[.pointer (some ⟨S, 0, none⟩), .int .i64 f, .int .i64 x] W (Calm (.int .i64 (lfCn s f x)) W)))
                unfold Calm at HCP HCR
                generalize lfCn s f x = cn at *
                have hcc : (cn != cn) = false := by simp
                have hwx : IntKind.i64.wrap (x + 1) = x + 1 := IntWalk.i64_in _ (by omega)
                have HXJ := Lib.hid hx
                clear hx
                go_wp2_with fail
                refine wp_region_looseS 142 (by kernel_rfl) (by kernel_rfl) (StB wr.drew (fun vI => [.pointer (some ⟨R, 0, none⟩), .slice (some ⟨g6, 0, none⟩) 6 6, .int .i64 (i : Nat), .pointer (some ⟨g6, i, none⟩), .int .i64 f, .int .i64 x, .int .i64 cn, .pointer (some ⟨S, 0, none⟩), .slice (some ⟨g6, 0, none⟩) 6 6, .int .i64 (i : Nat), .pointer (some ⟨g6, i, none⟩), .int .i64 f, .int .i64 x, .int .i64 cn, .bool false].getD vI undef)) rfl StB.start ?_ ?_
                · simp only [OblAllS]
                  refine ⟨?_, ?_, ?_, ?_, ?_, ?_, ?_, ?_, ?_, ?_, ?_, ?_, ?_, ?_, ?_, trivial⟩
                  · intro L wx vals hi hu hcl hC
                    have HCx := Lib.hid hC
                    clear hC hcl hu hi
                    simp only [fillA, if_true, Act.put]
                    simp
                    go_wp2
                    exact ⟨rfl, HCx.out.quiet 0 rfl⟩
                  · intro L wx vals hi hu hcl hC
                    have HCx := Lib.hid hC
                    clear hC hcl hu hi
                    simp only [fillA, if_true, Act.put]
                    simp
                    go_wp2
                    exact ⟨rfl, HCx.out.quiet 1 rfl⟩
                  · intro L wx vals hi hu hcl hC
                    have HCx := Lib.hid hC
                    clear hC hcl hu hi
                    simp only [fillA, if_true, Act.put]
                    simp
                    go_wp2
                    exact ⟨rfl, HCx.out.quiet 2 rfl⟩
                  · intro L wx vals hi hu hcl hC
                    simp [predL, predE, Region.binds, UpL] at hu
                    have e1 : vals 1 = .slice (some ⟨g6, 0, none⟩) 6 6 := hC.v 1 (by simp [hu])
                    have e2 : vals 2 = .int .i64 (i : Nat) := hC.v 2 (by simp [hu])
                    have HCx := Lib.hid hC
                    clear hC hcl hu hi
                    simp only [fillA, if_true, Act.put]
                    simp
                    simp only [e1, e2]
                    clear e1 e2
                    go_wp2
                    exact ⟨rfl, HCx.out.quiet 3 rfl⟩
                  · intro L wx vals hi hu hcl hC
                    simp [predL, predE, Region.binds, UpL] at hu
                    have e3 : vals 3 = .pointer (some ⟨g6, i, none⟩) := hC.v 3 (by simp [hu])
                    have h0 := (HCE.out wx hC.b)
                    have HCx := Lib.hid hC
                    clear hC hcl hu hi
                    simp only [fillA, if_true, Act.put]
                    simp
                    simp only [e3]
                    clear e3
                    go_wp2
                    exact ⟨rfl, HCx.out.quiet 4 rfl⟩
                  · intro L wx vals hi hu hcl hC
                    have HCx := Lib.hid hC
                    clear hC hcl hu hi
                    simp only [fillA, if_true, Act.put]
                    simp
                    go_wp2
                    exact ⟨rfl, HCx.out.quiet 5 rfl⟩
                  · intro L wx vals hi hu hcl hC
                    simp [predL, predE, Region.binds, UpL] at hu
                    have e0 : vals 0 = .pointer (some ⟨R, 0, none⟩) := hC.v 0 (by simp [hu])
                    have e4 : vals 4 = .int .i64 f := hC.v 4 (by simp [hu])
                    have e5 : vals 5 = .int .i64 x := hC.v 5 (by simp [hu])
                    have HL := Lib.hid (HCP.out wx hC.b)
                    have HCx := Lib.hid hC
                    clear hC hcl hu hi
                    simp only [fillA, if_true, Act.put]
                    simp
                    simp only [e0, e4, e5]
                    clear e0 e4 e5
                    go_wp2_with fail
                    (with_reducible refine HL.out.mono ?_); rintro e w9 ⟨rfl, hb⟩
                    have HX := Lib.hid (HCx.out.step 6 (x := .int .i64 cn) rfl (HCx.out.b.trans (hb.mono HCx.out.b.size)))
                    clear hb
                    go_wp2
                    exact ⟨rfl, HX.out⟩
                  · intro L wx vals hi hu hcl hC
                    have HCx := Lib.hid hC
                    clear hC hcl hu hi
                    simp only [fillA, if_true, Act.put]
                    simp
                    go_wp2
                    exact ⟨rfl, HCx.out.quiet 7 rfl⟩
                  · intro L wx vals hi hu hcl hC
                    have HCx := Lib.hid hC
                    clear hC hcl hu hi
                    simp only [fillA, if_true, Act.put]
                    simp
                    go_wp2
                    exact ⟨rfl, HCx.out.quiet 8 rfl⟩
                  · intro L wx vals hi hu hcl hC
                    have HCx := Lib.hid hC
                    clear hC hcl hu hi
                    simp only [fillA, if_true, Act.put]
                    simp
                    go_wp2
                    exact ⟨rfl, HCx.out.quiet 9 rfl⟩
                  · intro L wx vals hi hu hcl hC
                    simp [predL, predE, Region.binds, UpL] at hu
                    have e8 : vals 8 = .slice (some ⟨g6, 0, none⟩) 6 6 := hC.v 8 (by simp [hu])
                    have e9 : vals 9 = .int .i64 (i : Nat) := hC.v 9 (by simp [hu])
                    have HCx := Lib.hid hC
                    clear hC hcl hu hi
                    simp only [fillA, if_true, Act.put]
                    simp
                    simp only [e8, e9]
                    clear e8 e9
                    go_wp2
                    exact ⟨rfl, HCx.out.quiet 10 rfl⟩
                  · intro L wx vals hi hu hcl hC
                    simp [predL, predE, Region.binds, UpL] at hu
                    have e10 : vals 10 = .pointer (some ⟨g6, i, none⟩) := hC.v 10 (by simp [hu])
                    have h0 := (HCE.out wx hC.b)
                    have HCx := Lib.hid hC
                    clear hC hcl hu hi
                    simp only [fillA, if_true, Act.put]
                    simp
                    simp only [e10]
                    clear e10
                    go_wp2
                    exact ⟨rfl, HCx.out.quiet 11 rfl⟩
                  · intro L wx vals hi hu hcl hC
                    have HCx := Lib.hid hC
                    clear hC hcl hu hi
                    simp only [fillA, if_true, Act.put]
                    simp
                    go_wp2
                    exact ⟨rfl, HCx.out.quiet 12 rfl⟩
                  · intro L wx vals hi hu hcl hC
                    simp [predL, predE, Region.binds, UpL] at hu
                    have e7 : vals 7 = .pointer (some ⟨S, 0, none⟩) := hC.v 7 (by simp [hu])
                    have e11 : vals 11 = .int .i64 f := hC.v 11 (by simp [hu])
                    have e12 : vals 12 = .int .i64 x := hC.v 12 (by simp [hu])
                    have HL := Lib.hid (HCR.out wx hC.b)
                    have HCx := Lib.hid hC
                    clear hC hcl hu hi
                    simp only [fillA, if_true, Act.put]
                    simp
                    simp only [e7, e11, e12]
                    clear e7 e11 e12
                    go_wp2_with fail
                    (with_reducible refine HL.out.mono ?_); rintro e w9 ⟨rfl, hb⟩
                    have HX := Lib.hid (HCx.out.step 13 (x := .int .i64 cn) rfl (HCx.out.b.trans (hb.mono HCx.out.b.size)))
                    clear hb
                    go_wp2
                    exact ⟨rfl, HX.out⟩
                  · intro L wx vals hi hu hcl hC
                    simp [predL, predE, Region.binds, UpL] at hu
                    have e6 : vals 6 = .int .i64 cn := hC.v 6 (by simp [hu])
                    have e13 : vals 13 = .int .i64 cn := hC.v 13 (by simp [hu])
                    have HCx := Lib.hid hC
                    clear hC hcl hu hi
                    simp only [fillA, if_true, Act.put]
                    simp
                    simp only [e6, e13]
                    clear e6 e13
                    go_wp2
                    exact ⟨rfl, HCx.out.quiet 14 rfl⟩
                · intro wz vals U hC hall
                  have e14 : vals 14 = .bool false := hC.v 14 (hall 14 (by simp))
                  have HF := Lib.hid (HFR.out wz hC.b)
                  simp only [fillA, if_true, Act.put]
                  simp
                  simp only [e14]
                  clear hC hall e14 HCE HCP HCR HFR HS9
                  generalize vals 0 = t_0 at *
                  generalize vals 1 = t_1 at *
                  generalize vals 2 = t_2 at *
                  generalize vals 3 = t_3 at *
                  generalize vals 4 = t_4 at *
                  generalize vals 5 = t_5 at *
                  generalize vals 6 = t_6 at *
                  generalize vals 7 = t_7 at *
                  generalize vals 8 = t_8 at *
                  generalize vals 9 = t_9 at *
                  generalize vals 10 = t_10 at *
                  generalize vals 11 = t_11 at *
                  generalize vals 12 = t_12 at *
                  generalize vals 13 = t_13 at *
                  go_wp2
                  go_roundw
                  case rel => exact ⟨j + 1, by have := HXJ.out; omega, by (have h9 := HXJ.out; have h8 : x + 1 = ((j + 1 : Nat) : Int) - 1 := (by push_cast; omega); rw [h8]), HF⟩
                  case measure => simp [intOf]; omega
              · have hlx' : ¬ x < 6 := hlx
                clear hx HCF
                go_wp2
                go_roundw
                case rel => exact ⟨i + 1, by omega, by go_num, HS9⟩
                case measure => simp [intOf]; omega
        · have hl6' : ¬ (i : Int) < 6 := by omega
          obtain ⟨T7, hp7⟩ := LfE2.pget HS7.out
          have HX := Lib.hid (Inv.calm HS7.out (LfE2.frm BoxP.frm) (pfst_any HB9.out hp7 id))
          have HRS := Lib.hid (fun (W : World) (h : Inv w.heap.size w (LfE2 (BoxP g6 3 #[.int .i64 0, .int .i64 1, .int .i64 2, .int .i64 (-1), .int .i64 32, .int .i64 fl]) w.heap.size w.heap.size A len cap R S q s s) W) => (by
            obtain ⟨T7, hr7⟩ := LfE2.rget h
            exact rstate_any HB9.out.l hr7 id))
          obtain ⟨st, hst⟩ : ∃ st, lfSt s id = st := ⟨_, rfl⟩
          rw [hst] at HX HRS
          have hss : (st == st) = true := by simp
          clear hp7 hst HS7 hl6
          go_wp2_with fail
          (with_reducible refine HX.out.mono ?_); rintro e w3 ⟨rfl, h1⟩
          have HY := Lib.hid (HRS.out _ h1)
          have HBZ := Lib.hid h1.out
          clear h1 HX HRS
          go_wp2_with fail
          (with_reducible refine HY.out.mono ?_); rintro e w4 ⟨rfl, rfl⟩
          go_wp2_with fail
          (with_reducible refine (HAW.out _).mono ?_); rintro e w12 ⟨rfl, hb⟩
          have HF := Lib.hid (HBZ.out.trans (hb.mono HBZ.out.size))
          clear hb HBZ HY
          go_wp2
          go_ret
          exact ⟨rfl, HF.out⟩
end Go.Proofs.Ytkhngfadhfomoaa

