/-
  Layer 17: the walk of the statement on sequences of packets (ReceiverScript). Every input; no condition. Written by gen_rcwalk1.py.
-/
import Derived.Test.YthmncipenjhknaaRcWalk3
import Derived.Test.YthmncipenjhknaaInvR
import Derived.Deep.CutBlock
import Derived.Deep.DeepCutAuto
namespace Go.Proofs.Ythmncipenjhknaa
open Go.ChangeShapes Go.WideShapes Go.ChangeAt Go.RowKit
set_option linter.unusedVariables false

theorem RcE2.nD {base B : Nat} {a : Option Addr} {len cap R S q : Nat} {s t : RcS} {w0 w : World} (h : Inv base w0 (RcE2 base B a len cap R S q s t) w) {n : Int} (n0 : 1 ≤ n) (n1 : n ≤ 1000000000) (hq : q ≤ 1000000000) :
    Calls Try.prog 8 #[.pointer (some ⟨B, 0, none⟩), .int .i64 n] w fun e w' => ∃ r : Int, 0 ≤ r ∧ r < n ∧ e = .returned (.int .i64 r) ∧ Inv base w0 (RcE2 base B a len cap R S (q + 1) s t) w' ∧ DrR B w w' :=
  (Inv.nextD (h.imp fun T => Star.unassoc) (RrP.frm.star RcP.frm) n0 n1 hq).mono fun e w' ⟨r, r0, r1, e1, h2, h3⟩ => ⟨r, r0, r1, e1, h2.imp fun T => Star.assoc, h3⟩
theorem RcE2.nx {base B : Nat} {a : Option Addr} {len cap R S q : Nat} {s t : RcS} {w0 w : World} (h : Inv base w0 (RcE2 base B a len cap R S q s t) w) : RcOk t ∧ S < w.heap.size ∧ w.cell? ⟨S, 1, none⟩ = some (.int .i64 t.nx) := by
  obtain ⟨T, h0, h1, h2, vL, h3, _⟩ := RcE2.rget h
  exact ⟨h0, h1 S h2, (h3.read 1).trans rfl⟩
/-- The environment while the drawn base is computed. -/
def RcC (base B : Nat) (a : Option Addr) (len cap R S K : Nat) (s : RcS) (w0 : World) (fu : Nat) (w : World) : Prop := ∃ q, q + fu ≤ K ∧ Inv base w0 (RcE2 base B a len cap R S q s s) w
theorem RcC.step {base B : Nat} {a : Option Addr} {len cap R S K fu : Nat} {s : RcS} {w0 w : World} (h : RcC base B a len cap R S K s w0 (fu + 1) w) : RcC base B a len cap R S K s w0 fu w := by
  obtain ⟨q, hq, h1⟩ := h; exact ⟨q, by omega, h1⟩
theorem RcC.below {base B : Nat} {a : Option Addr} {len cap R S K fu : Nat} {s : RcS} {w0 w w' : World} (h : RcC base B a len cap R S K s w0 (fu + 1) w) (hb : Below w.heap.size w w') : RcC base B a len cap R S K s w0 fu w' := by
  obtain ⟨q, hq, h1⟩ := h; exact ⟨q, by omega, h1.step RcE2.frm hb⟩
def RcV (B S : Nat) (nx : Int) (i : Nat) (v : Value) (w : World) : Prop :=
  match i with
  | 0 => v = .pointer (some ⟨S, 0, none⟩)
  | 1 => v = .pointer (some ⟨S, 0, none⟩)
  | 2 => v = .pointer (some ⟨S, 1, none⟩)
  | 3 => v = .int .i64 nx
  | 4 => RwV B 0 65535 6 v w
  | 5 => v = .pointer (some ⟨B, 0, none⟩)
  | 6 => InV 0 5 v
  | 7 => PtV B 0 65535 v w
  | 8 => InV 0 65535 v
  | 9 => InV 0 131070 v
  | 10 => InV 0 65535 v
  | 11 => InV 0 65535 v
  | _ => True
theorem RcV.keep {B S : Nat} {nx : Int} (i : Nat) (v : Value) (w w' : World) (h : DrR B w w') (hv : RcV B S nx i v w) : RcV B S nx i v w' := by
  unfold RcV at *
  split at hv <;> first | exact hv | exact h.row hv | exact h.ptr hv | trivial
theorem rcNE_any (wi : Int) : ∃ z : Int, (∀ w : World, Calls Try.prog 9 #[.int .i64 wi] w fun e w' => ∃ p, e = .returned (.tuple #[.pointer p, .int .i64 z]) ∧ Below w.heap.size w w') ∧ ∀ w : World, Calls Try.prog 10 #[.int .i64 wi] w fun e w' => ∃ p, e = .returned (.tuple #[.pointer p, .int .i64 z]) ∧ Below w.heap.size w w' := by
  cases hp : rcB wi
  · exact ⟨1, fun w => (prnew_no hp w).mono fun e w' ⟨h1, h2⟩ => ⟨none, h1, h2⟩, fun w => (rrnew_no hp w).mono fun e w' ⟨h1, h2⟩ => ⟨none, h1, h2⟩⟩
  · refine ⟨0, fun w => ?_, fun w => ?_⟩
    · have hE : Inv w.heap.size w Emp w := Inv.start (T := fun _ => False) (fun k h => h) (fun k h => h.elim) (Below.refl _ _)
      exact (hE.call (prnew_any hp)).mono fun e w' ⟨R, h1, h2⟩ => ⟨_, h1, h2.out⟩
    · have hE : Inv w.heap.size w Emp w := Inv.start (T := fun _ => False) (fun k h => h) (fun k h => h.elim) (Below.refl _ _)
      exact (hE.call (rrnew_any hp)).mono fun e w' ⟨R, h1, h2⟩ => ⟨_, h1, h2.out⟩
set_option maxRecDepth 100000 in
set_option maxHeartbeats 16000000 in
theorem walkScript17 (A : Option Addr) (len cap : Nat) (x y : Int) (w : World) (he : Elems w.heap.size A len w) :
    Calls Try.prog 3 #[.slice A len cap, .int .i64 x, .int .i64 y] w (Calm (.bool true) w) := by
  have h0 := (GenP.new (w0 := w) (cap := cap) he (Below.refl _ _) he).box GenP.frm 3 #[.int .i64 1, .int .i64 2, .int .i64 5, .int .i64 64]
  have HX := Lib.hid (h0.call (Acts.right BoxP.frm (GenP.next (n := 4) (by omega) (by omega) (by omega))))
  have HAW := Lib.hid (fun w => awake17_any w)
  obtain ⟨nz, hn1, hn2⟩ := rcNE_any x
  have HN1 := Lib.hid hn1
  have HN2 := Lib.hid hn2
  clear h0 he hn1 hn2
  unfold Calm at *
  go_enter Try.func3, Try.ntmps3
  go_wp2_with fail
  (with_reducible refine (new_any A len cap _).mono ?_); rintro e w' ⟨rfl, rfl⟩
  go_wp2_with fail
  (with_reducible refine HX.out.mono ?_); rintro e w1 ⟨⟨r, r0, r1⟩, rfl, h1⟩
  obtain ⟨n, rfl⟩ := Int.eq_ofNat_of_zero_le r0
  have hbx : Whole w1 (w.heap.size + 1) 3 #[.int .i64 1, .int .i64 2, .int .i64 5, .int .i64 64] := by have h9 := h1.boxed; simpa using h9
  obtain ⟨wi, hwi, hc⟩ : ∃ wi : Int, (1 ≤ wi ∧ wi ≤ 64) ∧ w1.cell? ⟨w.heap.size + 1, n, none⟩ = some (.int .i64 wi) := by
    rcases (by omega : n = 0 ∨ n = 1 ∨ n = 2 ∨ n = 3) with rfl | rfl | rfl | rfl
    · exact ⟨1, by omega, (hbx.read 0).trans rfl⟩
    · exact ⟨2, by omega, (hbx.read 1).trans rfl⟩
    · exact ⟨5, by omega, (hbx.read 2).trans rfl⟩
    · exact ⟨64, by omega, (hbx.read 3).trans rfl⟩
  have HX := Lib.hid (h1.drop.emp.call ((prnew_any (wi := wi) (rcB_of hwi)).star GenP.frm))
  have HWI := Lib.hid hwi
  have hn4 : (n : Int) < 4 := r1
  clear h1 hbx hwi
  go_wp2_with fail
  (with_reducible refine HX.out.mono ?_); rintro e w2 ⟨R, rfl, h1⟩
  have HX := Lib.hid (h1.emp.call ((rrnew_any (wi := wi) (rcB_of HWI.out)).star (RcP.frm.star GenP.frm)))
  clear h1 hc hn4
  go_wp2_with fail
  (with_reducible refine HX.out.mono ?_); rintro e w3 ⟨S, rfl, h1⟩
  have HI := Lib.hid (show Inv w.heap.size w (RcE2 w.heap.size w.heap.size A len cap R S 1 (RcS.new wi) (RcS.new wi)) w3 from h1)
  clear h1 HX
  go_wp2_with fail
  go_loopw [13, 14] (fun s13 s14 wr => ∃ (j q' : Nat) (ba : Int) (s : RcS), 1 ≤ j ∧ j ≤ 40 ∧ s14 = .int .i64 j ∧ s13 = .int .i64 ba ∧ q' ≤ 30 * j ∧ Hid (0 ≤ ba ∧ ba < 65536) ∧ Hid (s.l.length ≤ j) ∧ Hid (Inv w.heap.size w (RcE2 w.heap.size w.heap.size A len cap R S q' s s) wr)) (fun _ s14 _ => 40 - (intOf s14).toNat)
  case atStart => exact ⟨1, 1, 0, RcS.new wi, by omega, by omega, rfl, rfl, by omega, Lib.hid ⟨by omega, by omega⟩, Lib.hid (by simp [RcS.new]), HI⟩
  case round =>
    obtain ⟨j, q', ba, s, hj1, hj, rfl, rfl, hq', HBA, HL, HS⟩ := hrel
    clear HI
    by_cases hlt : j < 40
    · have hlt' : (j : Int) < 40 := by omega
      have hba := HBA.out
      have hwi := HWI.out
      have hsl : s.l.length ≤ 40 := by have := HL.out; omega
      have HX := Lib.hid (RcE2.nD HS.out (n := 12) (by omega) (by omega) (by omega))
      clear HS
      go_wp2_with fail
      (with_reducible refine HX.out.mono ?_); rintro e w4 ⟨r, r0, r1, rfl, h1, _⟩
      obtain ⟨d, hd⟩ : ∃ d, Int.tdiv r 9 = d := ⟨_, rfl⟩
      have hd2 : 0 ≤ d ∧ d ≤ 1 := by rw [← hd, Int.tdiv_eq_ediv_of_nonneg r0]; omega
      have wd : IntKind.i64.wrap d = d := IntWalk.i64_in _ (by omega)
      have wa1 : IntKind.i64.wrap (ba + d) = ba + d := IntWalk.i64_in _ (by omega)
      have wa2 : IntKind.i64.wrap (ba + d + 65536) = ba + d + 65536 := IntWalk.i64_in _ (by omega)
      obtain ⟨b1, hb1⟩ : ∃ b1, (ba + d + 65536) % 65536 = b1 := ⟨_, rfl⟩
      have wa3 : Int.tmod (ba + d + 65536) 65536 = b1 := by rw [← hb1]; exact Int.tmod_eq_emod_of_nonneg (by omega)
      have hb2 : 0 ≤ b1 ∧ b1 < 65536 := by omega
      have wa4 : IntKind.i64.wrap b1 = b1 := IntWalk.i64_in _ (by omega)
      have wz : IntKind.i64.wrap (wi + 1) = wi + 1 := IntWalk.i64_in _ (by omega)
      have HX := Lib.hid (RcE2.nD h1 (n := wi + 1) (by omega) (by omega) (by omega))
      clear h1 hb1
      go_wp2_with fail
      (with_reducible refine HX.out.mono ?_); rintro e w5 ⟨r2, r20, r21, rfl, h1, _⟩
      clear hd wa1 wa2 wa3 wd
      have wb1 : IntKind.i64.wrap (b1 + r2) = b1 + r2 := IntWalk.i64_in _ (by omega)
      obtain ⟨y0, hy0⟩ : ∃ y0, (b1 + r2) % 65536 = y0 := ⟨_, rfl⟩
      have wb2 : Int.tmod (b1 + r2) 65536 = y0 := by rw [← hy0]; exact Int.tmod_eq_emod_of_nonneg (by omega)
      have wb3 : IntKind.i64.wrap y0 = y0 := IntWalk.i64_in _ (by omega)
      have HX := Lib.hid (RcE2.nD h1 (n := 20) (by omega) (by omega) (by omega))
      clear h1 hy0
      go_wp2_with fail
      (with_reducible refine HX.out.mono ?_); rintro e w6 ⟨r3, r30, r31, rfl, h1, _⟩
      have HS := Lib.hid h1
      clear h1 HX wb1 wb2 wb3 wz
      have HB1 := Lib.hid hb2
      go_upto_block 2 with fail
      go_cut [15, 16] (fun s15 s16 wx => ∃ (q2 : Nat) (x9 y9 : Int), q2 ≤ q' + 16 ∧ s15 = .int .i64 x9 ∧ s16 = .int .i64 y9 ∧ Hid (Inv w.heap.size w (RcE2 w.heap.size w.heap.size A len cap R S q2 s s) wx))
      case first =>
        rcases (by omega : r3 = 0 ∨ r3 = 1 ∨ (¬ r3 = 0 ∧ ¬ r3 = 1)) with rfl | rfl | ⟨hr0, hr1⟩
        · obtain ⟨nx, hnx⟩ : ∃ nx, s.nx = nx := ⟨_, rfl⟩
          have HNX := Lib.hid (show 0 ≤ nx ∧ nx < 65536 by rw [← hnx]; exact (RcE2.nx HS.out).1.nx)
          have HC0 := Lib.hid (show RcC w.heap.size w.heap.size A len cap R S (q' + 15) s w 12 w6.drew from ⟨q' + 1 + 1 + 1, by omega, HS.out.step RcE2.frm (Below.refl _ _).drew⟩)
          clear HS
          go_wp2_with fail
          refine wp_region_loose 172 (by kernel_rfl) (by kernel_rfl) (RcC w.heap.size w.heap.size A len cap R S (q' + 15) s w) (DrR w.heap.size) (RcV w.heap.size S nx) rfl (fun i v w w' h hv => RcV.keep i v w w' h hv) HC0.out ?_ ?_
          · simp only [OblAll]
            refine ⟨?_, ?_, ?_, ?_, ?_, ?_, ?_, ?_, ?_, ?_, ?_, ?_, trivial⟩
            all_goals
              intro fu wx vals hC hp
              simp [predL, predE, Region.binds, PreV, RcV] at hp
              simp only [fillA, if_true, Act.put]
              simp
              have HCx := Lib.hid hC
            · clear hp
              go_wp2
              exact ⟨rfl, HCx.out.step, DrR.refl _ _, rfl⟩
            · simp only [hp]
              clear hp
              go_wp2
              exact ⟨rfl, HCx.out.step, DrR.refl _ _, rfl⟩
            · simp only [hp]
              clear hp
              go_wp2
              exact ⟨rfl, HCx.out.step, DrR.refl _ _, rfl⟩
            · obtain ⟨qq, hqq, hI⟩ := hC
              have hcx := (RcE2.nx hI).2.2
              rw [hnx] at hcx
              simp only [hp]
              clear hp hI hqq
              go_wp2
              exact ⟨rfl, HCx.out.step, DrR.refl _ _, rfl⟩
            · have hB : w.heap.size < wx.heap.size := by
                obtain ⟨qq, hqq, hI⟩ := hC
                obtain ⟨T, _, _, _, _, _, A2, B2, _, _, _, hg⟩ := hI.get
                exact hg.2.1.lt
              clear hp
              go_wp2
              exact ⟨rfl, HCx.out.below ((Below.refl _ _).alloc (Nat.le_refl _) _), DrR.below ((Below.refl _ _).alloc (Nat.le_refl _) _), RwV.new hB (L := [32767, 32768, 65535, 65472, 65471, 40000]) rfl (by decide) rfl _⟩
            · clear hp
              go_wp2
              exact ⟨rfl, HCx.out.step, DrR.refl _ _, rfl⟩
            · simp only [hp]
              clear hp
              obtain ⟨qq, hqq, hI⟩ := hC
              have HX := Lib.hid (RcE2.nD hI (n := 6) (by omega) (by omega) (by omega))
              clear hI
              go_wp2_with fail
              (with_reducible refine HX.out.mono ?_)
              rintro e w' ⟨r, r0, r1, rfl, hs, ho⟩
              have HF := Lib.hid (And.intro (show RcC w.heap.size w.heap.size A len cap R S (q' + 15) s w fu w' from ⟨qq + 1, by omega, hs⟩) ho)
              clear hs ho
              go_wp2
              exact ⟨rfl, HF.out.1, HF.out.2, r, ⟨r0, by omega⟩, rfl⟩
            · obtain ⟨hrow, r, hr, e3⟩ := hp
              obtain ⟨n, rfl⟩ := Int.eq_ofNat_of_zero_le hr.1
              have hn' : n ≤ 5 := by omega
              obtain ⟨g, g1, g2, e1, hpt⟩ := hrow.at_ (i := n) (by omega)
              have HX := Lib.hid hpt
              simp only [e1, e3]
              clear e1 e3 hC hrow hpt hr
              go_wp2
              exact ⟨rfl, HCx.out.step, DrR.refl _ _, HX.out⟩
            · obtain ⟨g, o, g1, g2, e1, z, hz, hc⟩ := hp
              have HX := Lib.hid hz
              simp only [e1]
              clear e1 hC hz
              go_wp2
              exact ⟨rfl, HCx.out.step, DrR.refl _ _, z, HX.out, rfl⟩
            · obtain ⟨e3, z, hz, e1⟩ := hp
              have HX := Lib.hid (show 0 ≤ nx + z ∧ nx + z ≤ 131070 by have := HNX.out; omega)
              have hw1 : IntKind.i64.wrap (nx + z) = nx + z := IntWalk.i64_in _ (by have := HNX.out; omega)
              simp only [e1, e3]
              clear e1 e3 hC hz
              go_wp2
              exact ⟨rfl, HCx.out.step, DrR.refl _ _, nx + z, HX.out, rfl⟩
            · obtain ⟨z, hz, e1⟩ := hp
              obtain ⟨u, hu⟩ : ∃ u, z % 65536 = u := ⟨_, rfl⟩
              have hw1 : Int.tmod z 65536 = u := by rw [← hu]; exact Int.tmod_eq_emod_of_nonneg hz.1
              have hu2 : 0 ≤ u ∧ u ≤ 65535 := by omega
              have hw2 : IntKind.i64.wrap u = u := IntWalk.i64_in _ (by omega)
              have HX := Lib.hid hu2
              simp only [e1]
              clear e1 hC hz hu hu2
              go_wp2
              exact ⟨rfl, HCx.out.step, DrR.refl _ _, u, HX.out, rfl⟩
            · obtain ⟨z, hz, e1⟩ := hp.1
              have HX := Lib.hid hz
              simp only [e1]
              clear e1 hC hz
              go_wp2
              exact ⟨rfl, HCx.out.step, DrR.refl _ _, z, HX.out, rfl⟩
          · intro wz vals hC hV
            have e11 := hV 11 (by simp)
            simp only [RcV] at e11
            obtain ⟨x0, hx0, e11⟩ := e11
            obtain ⟨q3, hq3, h3⟩ := hC
            have HX := Lib.hid (RcE2.nD h3 (n := wi) (by omega) (by omega) (by omega))
            have wc1 : ∀ r, 0 ≤ r → r < wi → IntKind.i64.wrap (x0 + r) = x0 + r := fun r a b => IntWalk.i64_in _ (by omega)
            have HWC := Lib.hid wc1
            simp only [fillA, if_true, Act.put]
            simp
            simp only [e11]
            clear e11 hV h3 HC0 wc1
            generalize vals 0 = u_0 at *
            generalize vals 1 = u_1 at *
            generalize vals 2 = u_2 at *
            generalize vals 3 = u_3 at *
            generalize vals 4 = u_4 at *
            generalize vals 5 = u_5 at *
            generalize vals 6 = u_6 at *
            generalize vals 7 = u_7 at *
            generalize vals 8 = u_8 at *
            generalize vals 9 = u_9 at *
            generalize vals 10 = u_10 at *
            go_wp2_with fail
            (with_reducible refine HX.out.mono ?_); rintro e w7 ⟨r, r0, r1, rfl, h1, _⟩
            have HF := Lib.hid h1
            have wc1 := HWC.out r r0 r1
            obtain ⟨u, hu⟩ : ∃ u, (x0 + r) % 65536 = u := ⟨_, rfl⟩
            have wc2 : Int.tmod (x0 + r) 65536 = u := by rw [← hu]; exact Int.tmod_eq_emod_of_nonneg (by omega)
            have wc3 : IntKind.i64.wrap u = u := IntWalk.i64_in _ (by omega)
            clear h1 HX hu
            go_wp2
            go_meet
            case rel => exact ⟨q3 + 1, x0, u, by omega, rfl, rfl, HF⟩
        · go_wp2
          go_meet
          case rel => exact ⟨q' + 1 + 1 + 1, x, y, by omega, rfl, rfl, HS⟩
        · have hq0 : (r3 == 0) = false := by simpa using hr0
          have hq1 : (r3 == 1) = false := by simpa using hr1
          go_wp2
          go_meet
          case rel => exact ⟨q' + 1 + 1 + 1, b1, y0, by omega, rfl, rfl, HS⟩
      case rest =>
        obtain ⟨q2, x9, y9, hq2, rfl, rfl, HS2⟩ := hcut
        clear HS r30 r31 r20 r21 r0 r1
        have HX := Lib.hid (RcE2.nD HS2.out (n := 8) (by omega) (by omega) (by omega))
        clear HS2
        go_wp2_with fail
        (with_reducible refine HX.out.mono ?_); rintro e w7 ⟨r4, r40, r41, rfl, h1, _⟩
        have HS2 := Lib.hid h1
        clear h1 HX
        by_cases hr4 : r4 = 0
        · subst hr4
          have HX := Lib.hid (Inv.call HS2.out (RcE2.pskp (by omega) x9))
          clear HS2
          go_wp2_with fail
          (with_reducible refine HX.out.mono ?_); rintro e w8 ⟨v1, rfl, h1⟩
          have HX := Lib.hid (Inv.call h1 (Acts.right LsP.frm (RcE2.rskp (by omega) x9)))
          clear h1
          go_wp2_with fail
          (with_reducible refine HX.out.mono ?_); rintro e w9 ⟨v2, rfl, h1⟩
          have h2 := h1.imp fun T => Star.pick2
          have hln : (rcSkL s x9).length ≤ 100000 := by have := skl_len s x9; omega
          have hsn : (s.skp x9).l.length ≤ j + 1 := by have := HL.out; have := skp_len s x9; omega
          have HSN := Lib.hid hsn
          obtain ⟨e8, he8⟩ : ∃ e8, rcSkE s x9 = e8 := ⟨_, rfl⟩
          rw [he8]
          have he88 : (e8 != e8) = false := by simp
          have HX := Lib.hid (Inv.calm h2 (LsP.frm.star (LsP.frm.star RcE2.frm)) (eqI_any hln (LsP.any h2.drop) (LsP.any h2)))
          clear h1 h2 he8 hln
          go_wp2_with fail
          (with_reducible refine HX.out.mono ?_); rintro e w10 ⟨rfl, h1⟩
          have HF := Lib.hid h1.drop.drop
          clear h1 HX
          go_wp2
          go_roundw
          case rel => exact ⟨j + 1, _, b1, _, by omega, by omega, by go_num, rfl, by omega, HB1, HSN, HF⟩
          case measure => simp [intOf]; omega
        · have hr40 : (r4 == 0) = false := by simpa using hr4
          have HX := Lib.hid (Inv.call HS2.out (RcE2.prcv (by omega) x9 y9 (j : Int)))
          clear HS2
          go_wp2_with fail
          (with_reducible refine HX.out.mono ?_); rintro e w8 ⟨v1, rfl, h1⟩
          have HX := Lib.hid (Inv.call h1 (Acts.right LsP.frm (RcE2.rrcv (by omega) x9 y9 (j : Int))))
          clear h1
          go_wp2_with fail
          (with_reducible refine HX.out.mono ?_); rintro e w9 ⟨v2, rfl, h1⟩
          have h2 := h1.imp fun T => Star.pick2
          have hln : (rcRvL s x9 y9 (j : Int)).length ≤ 100000 := by have := rvl_len s x9 y9 (j : Int); omega
          have hsn : (s.rcv x9 y9 (j : Int)).l.length ≤ j + 1 := by have := HL.out; have := rcv_len s x9 y9 (j : Int); omega
          have HSN := Lib.hid hsn
          obtain ⟨e8, he8⟩ : ∃ e8, rcRvE s x9 y9 (j : Int) = e8 := ⟨_, rfl⟩
          rw [he8]
          have he88 : (e8 != e8) = false := by simp
          have HX := Lib.hid (Inv.calm h2 (LsP.frm.star (LsP.frm.star RcE2.frm)) (eqI_any hln (LsP.any h2.drop) (LsP.any h2)))
          clear h1 h2 he8 hln
          go_wp2_with fail
          (with_reducible refine HX.out.mono ?_); rintro e w10 ⟨rfl, h1⟩
          have wj : IntKind.i64.wrap ((j : Int) + 1) = (j : Int) + 1 := IntWalk.i64_in _ (by omega)
          have HX := Lib.hid (RcE2.nD h1.drop.drop (n := (j : Int) + 1) (by omega) (by omega) (by omega))
          clear h1
          go_wp2_with fail
          (with_reducible refine HX.out.mono ?_); rintro e w11 ⟨r6, r60, r61, rfl, h1, _⟩
          obtain ⟨T5, hp5⟩ := RcE2.pget h1
          obtain ⟨T6, hp6⟩ := RcE2.rget h1
          have HX := Lib.hid (Inv.calm h1 RcE2.frm (same_any (by have := HSN.out; omega) hp5 hp6 r6))
          clear h1 hp5 hp6
          go_wp2_with fail
          (with_reducible refine HX.out.mono ?_); rintro e w12 ⟨rfl, h1⟩
          have HF := Lib.hid h1
          clear h1 HX
          go_wp2
          go_roundw
          case rel => exact ⟨j + 1, _, b1, _, by omega, by omega, by go_num, rfl, by omega, HB1, HSN, HF⟩
          case measure => simp [intOf]; omega
    · obtain rfl : j = 40 := by omega
      have HB := Lib.hid HS.out.out
      clear HS HL
      go_wp2_with fail
      (with_reducible refine (HN1.out _).mono ?_); rintro e w4 ⟨p4, rfl, hb4⟩
      have H4 := Lib.hid (HB.out.trans (hb4.mono HB.out.size))
      clear hb4 HB
      have hzz : (nz == nz) = true := by simp
      go_wp2_with fail
      (with_reducible refine (HN2.out _).mono ?_); rintro e w5 ⟨p5, rfl, hb5⟩
      have H5 := Lib.hid (H4.out.trans (hb5.mono H4.out.size))
      clear hb5 H4
      go_wp2_with fail
      (with_reducible refine (HAW.out _).mono ?_); rintro e w8 ⟨rfl, hb8⟩
      have HF := Lib.hid (H5.out.trans (hb8.mono H5.out.size))
      clear hb8
      go_wp2
      go_ret
      exact ⟨rfl, HF.out⟩
end Go.Proofs.Ythmncipenjhknaa

