/-
  Layer 17: the walk of the statement on the order of release (ReceiverOrder). Every input; no condition.
-/
import Derived.Test.YthmncipenjhknaaRcHas
import Derived.Test.YthmncipenjhknaaRcBits
import Derived.Test.YthmncipenjhknaaInvR
import Derived.Deep.CutBlock
import Derived.Deep.DeepCutAuto
import Derived.Deep.LoopGhost
import Derived.LoopTactic
namespace Go.Proofs.Ythmncipenjhknaa
open Go.ChangeShapes Go.WideShapes Go.ChangeAt Go.RowKit
set_option linter.unusedVariables false

/-- The receiver, the base and the last id released, after j rounds. -/
structure OrdR (wi : Int) (j : Nat) (ba la : Int) (s : RcS) : Prop where
  w1 : 1 ≤ wi ∧ wi ≤ 6
  a : RcAs s (ba + wi)
  w : s.w = wi
  b : 0 ≤ ba ∧ ba ≤ 6 * j
  n : s.nx - ba ≤ wi - 1
  la : 0 ≤ la ∧ la ≤ s.nx
  len : s.l.length ≤ j
theorem OrdR.new {wi : Int} (hw : 1 ≤ wi ∧ wi ≤ 6) : OrdR wi 0 0 0 (RcS.new wi) :=
  ⟨hw, RcAs.new ⟨hw.1, by omega⟩ (by omega), rfl, by omega, by show (0 : Int) - 0 ≤ wi - 1; omega, by show (0 : Int) ≤ 0 ∧ (0 : Int) ≤ 0; omega, by simp [RcS.new]⟩
/-- A list that ascends between two numbers is no longer than they are apart. -/
theorem asc_len : ∀ (l : List Int) (a b : Int), l.Pairwise (· < ·) → (∀ i ∈ l, a < i ∧ i ≤ b) → a ≤ b → (l.length : Int) ≤ b - a
  | [], a, b, _, _, h => by simp; omega
  | x :: l, a, b, hp, hl, h => by
    have hx := hl x (by simp)
    have hc := List.pairwise_cons.1 hp
    have h1 := asc_len l x b hc.2 (fun i hi => ⟨hc.1 i hi, (hl i (by simp [hi])).2⟩) hx.2
    simp only [List.length_cons]
    push_cast
    omega
/-- One packet. -/
theorem OrdR.call {wi : Int} {j : Nat} {ba la b q : Int} {s : RcS} (h : OrdR wi j ba la s) (hj : j < 60) (hb : ba ≤ b ∧ b < ba + wi) (hq : b ≤ q ∧ q < b + wi) :
    rcRvE s b q (q + 1) = 0 ∧ (0 ≤ la ∧ la ≤ (s.rcv b q (q + 1)).nx) ∧ 0 ≤ (s.rcv b q (q + 1)).nx ∧ (s.rcv b q (q + 1)).nx ≤ b + wi ∧ b ≤ (s.rcv b q (q + 1)).nx ∧ (s.rcv b q (q + 1)).l.length ≤ j + 1 ∧ (∀ i ∈ rcRvL s b q (q + 1), la < i ∧ i ≤ (s.rcv b q (q + 1)).nx) ∧ (rcRvL s b q (q + 1)).Pairwise (· < ·) ∧
      (rcHo (s.rcv b q (q + 1)).l (q + 1) = true → (rcRvL s b q (q + 1)).any (fun y => y == q + 1) = false) ∧
      ∀ ba' la', ba' = max b ((s.rcv b q (q + 1)).nx - wi + 1) → 0 ≤ la' → la' ≤ (s.rcv b q (q + 1)).nx → OrdR wi (j + 1) ba' la' (s.rcv b q (q + 1)) := by
  have hw := h.w1
  have hbb := h.b
  have hn := h.n
  have hla := h.la
  have hwe := h.w
  obtain ⟨r1, r2, r3, r4, r5, r6, r7, r8⟩ := (h.a.up (V := b + wi) (by omega) (by omega)).rcv (b := b) (q := q) (by omega) (by omega) (by omega)
  have hnx := r2.nx
  have hl := rcv_len s b q (q + 1)
  have hlen := h.len
  refine ⟨r1, ⟨hla.1, by omega⟩, hnx.1, hnx.2.1, r4, by omega, fun i hi => by have := r6 i hi; omega, r7, fun hho => ?_, fun ba' la' e l0 l1 => ?_⟩
  · unfold rcHo at hho
    obtain ⟨x, hx, hxi⟩ := List.any_eq_true.1 hho
    have hx2 := r2.e x hx
    have hx3 : x.i = q + 1 := by simpa using hxi
    rw [List.any_eq_false]
    intro y hy
    have := r6 y hy
    have hne : y ≠ q + 1 := by omega
    simpa using hne
  · exact ⟨hw, r2.up (by omega) (by omega), by omega, by omega, by omega, ⟨l0, l1⟩, by omega⟩
set_option maxRecDepth 100000 in
set_option maxHeartbeats 16000000 in
theorem walkOrder17 (A : Option Addr) (len cap : Nat) (w : World) (he : Elems w.heap.size A len w) :
    Calls Try.prog 4 #[.slice A len cap] w (Calm (.bool true) w) := by
  have h0 := GenP.new (w0 := w) (cap := cap) he (Below.refl _ _) he
  have HX := Lib.hid (h0.call (GenP.next (n := 6) (by omega) (by omega) (by omega)))
  have HAW := Lib.hid (fun w => awake17_any w)
  clear h0 he
  unfold Calm at *
  go_enter Try.func4, Try.ntmps4
  go_wp2_with fail
  (with_reducible refine (new_any A len cap _).mono ?_); rintro e w' ⟨rfl, rfl⟩
  go_wp2_with fail
  (with_reducible refine HX.out.mono ?_); rintro e w1 ⟨⟨r, r0, r1⟩, rfl, h1⟩
  have hwr : IntKind.i64.wrap (1 + r) = 1 + r := IntWalk.i64_in _ (by omega)
  obtain ⟨wi, hwi⟩ : ∃ wi, 1 + r = wi := ⟨_, rfl⟩
  rw [hwi] at hwr
  have HW1 := Lib.hid (show 1 ≤ wi ∧ wi ≤ 6 by omega)
  have HX := Lib.hid (h1.emp.call ((prnew_any (wi := wi) (rcB_of (by omega))).star GenP.frm))
  clear h1
  go_wp2_with fail
  clear hwi r0 r1 hwr
  (with_reducible refine HX.out.mono ?_); rintro e w2 ⟨R, rfl, h1⟩
  have HI := Lib.hid (show Inv w.heap.size w (Star (RcP R (RcS.new wi)) (GenP w.heap.size w.heap.size A len cap 1)) w2 from h1)
  clear h1 HX
  go_wp2_with fail
  go_loopw [7, 8, 9] (fun s7 s8 s9 wr => ∃ (j q' : Nat) (ba la : Int) (s : RcS), j ≤ 60 ∧ s9 = .int .i64 j ∧ s7 = .int .i64 ba ∧ s8 = .int .i64 la ∧ q' ≤ 1 + 3 * j ∧ Hid (OrdR wi j ba la s) ∧ Hid (Inv w.heap.size w (Star (RcP R s) (GenP w.heap.size w.heap.size A len cap q')) wr)) (fun _ _ s9 _ => 60 - (intOf s9).toNat)
  case atStart => exact ⟨0, 1, 0, 0, RcS.new wi, by omega, rfl, rfl, rfl, by omega, Lib.hid (OrdR.new HW1.out), HI⟩
  case round =>
    obtain ⟨j, q', ba, la, s, hj, rfl, rfl, rfl, hq', HR, HS⟩ := hrel
    clear HI
    by_cases hlt : j < 60
    · have hlt' : (j : Int) < 60 := by omega
      have HX := Lib.hid (HS.out.nextD RcP.frm (n := 5) (by omega) (by omega) (by omega))
      have hbb := HR.out.b
      have hww := HW1.out
      clear HS
      go_wp2_with fail
      (with_reducible refine HX.out.mono ?_); rintro e w3 ⟨r, r0, r1, rfl, h1, _⟩
      have HS := Lib.hid h1
      clear h1 HX
      go_upto_if 36 with fail
      go_cut [7] (fun s7 wx => ∃ (q2 : Nat) (b : Int), q2 ≤ q' + 2 ∧ s7 = .int .i64 b ∧ Hid (ba ≤ b ∧ b < ba + wi) ∧ Hid (Inv w.heap.size w (Star (RcP R s) (GenP w.heap.size w.heap.size A len cap q2)) wx))
      case first =>
        by_cases hr : r = 0
        · subst hr
          have HX := Lib.hid (HS.out.nextD RcP.frm (n := wi) (by omega) (by omega) (by omega))
          clear HS
          go_wp2_with fail
          (with_reducible refine HX.out.mono ?_); rintro e w4 ⟨x, x0, x1, rfl, h1, _⟩
          have HF := Lib.hid h1
          have hwx : IntKind.i64.wrap (ba + x) = ba + x := IntWalk.i64_in _ (by omega)
          clear h1 HX
          go_wp2
          go_meet
          case rel => exact ⟨q' + 1 + 1, ba + x, by omega, rfl, Lib.hid (by omega), HF⟩
        · have hr0 : (r == 0) = false := by simpa using hr
          go_wp2
          go_meet
          case rel => exact ⟨q' + 1, ba, by omega, rfl, Lib.hid (by omega), HS⟩
      case rest =>
        obtain ⟨q2, b, hq2, rfl, HBB, HS2⟩ := hcut
        clear HS r0 r1
        have hb1 := HBB.out
        have hsl : s.l.length ≤ 9999 := by have := HR.out.len; omega
        have HX := Lib.hid (HS2.out.nextD RcP.frm (n := wi) (by omega) (by omega) (by omega))
        clear HS2
        go_wp2_with fail
        (with_reducible refine HX.out.mono ?_); rintro e w4 ⟨x, x0, x1, rfl, h1, _⟩
        have hcall := HR.out.call hlt HBB.out (q := b + x) (by omega)
        have HX := Lib.hid (Inv.call h1 ((prrcv_any hsl b (b + x) (b + x + 1)).star GenP.frm))
        rw [hcall.1] at HX
        have hbx : 0 ≤ b + x ∧ b + x ≤ 1000 := by omega
        clear h1 HR
        obtain ⟨q, hq⟩ : ∃ q, b + x = q := ⟨_, rfl⟩
        rw [hq] at hcall HX hbx
        have wx1 : IntKind.i64.wrap (b + x) = q := by rw [hq]; exact IntWalk.i64_in _ (by omega)
        have wx2 : IntKind.i64.wrap (q + 1) = q + 1 := IntWalk.i64_in _ (by omega)
        clear hq x0 x1
        go_wp2_with fail
        (with_reducible refine HX.out.mono ?_); rintro e w5 ⟨v5, rfl, h1⟩
        have h2 := h1.imp fun T => Star.assoc
        obtain ⟨_, nl, n0, n1, n2, n3, n4, n5, n6, n7⟩ := hcall
        clear h1 HX
        generalize s.rcv b q (q + 1) = s' at *
        generalize rcRvL s b q (q + 1) = L at *
        have hLA := LsP.any h2
        obtain ⟨A5, c5, rfl, _⟩ := hLA.shape
        have HLA := Lib.hid hLA
        have HI2 := Lib.hid h2
        have HN7 := Lib.hid n7
        have HN6 := Lib.hid n6
        have HPW := Lib.hid n5
        have HUP := Lib.hid n4
        have hLl : L.length ≤ 9999 := by have := asc_len L la s'.nx n5 n4 nl.2; omega
        clear h2 hLA n7 n6 n5 n4
        have hsl' : s'.l.length ≤ 9999 := by omega
        obtain ⟨n, hn_⟩ : ∃ n, L.length = n := ⟨_, rfl⟩
        have HNL := Lib.hid hn_
        rw [hn_] at hLl HI2 HLA ⊢
        clear hn_ n3 hsl
        obtain ⟨E, hE⟩ : ∃ E, s'.nx = E := ⟨_, rfl⟩
        have HE := Lib.hid hE
        rw [hE] at n0 n1 n2 nl HUP HN7
        clear hE
        have HNN := Lib.hid nl
        clear nl
        go_wp2_with fail
        obtain ⟨wo, hwo⟩ : ∃ wo : World, wo = w5 := ⟨_, rfl⟩
        subst hwo
        go_loopw [8, 13] (fun s8 s13 wr => ∃ (k : Nat) (la' : Int), k ≤ n ∧ s13 = .int .i64 k ∧ s8 = .int .i64 la' ∧ Hid (0 ≤ la' ∧ la' ≤ E ∧ ∀ i (hi : i < L.length), k ≤ i → la' < L[i]) ∧ Hid (wr = wo)) (fun _ s13 _ => n - (intOf s13).toNat)
        case atStart => exact ⟨0, la, Nat.zero_le _, rfl, rfl, Lib.hid ⟨HNN.out.1, HNN.out.2, fun i hi _ => (HUP.out _ (List.getElem_mem hi)).1⟩, Lib.hid rfl⟩
        case round =>
          obtain ⟨k, la', hk, rfl, rfl, HLT, HW⟩ := hrel
          obtain rfl := HW.out
          by_cases hlk : k < n
          · have hlk' : (k : Int) < n := by omega
            have hk0 : (0 : Int) ≤ k := by omega
            have hkl : k < L.length := by have := HNL.out; omega
            obtain ⟨bb, off, c', e1, _, hbw, _, _, f1⟩ := HLA.out.el hkl
            rw [HNL.out] at e1
            obtain ⟨rfl, rfl⟩ : A5 = some ⟨bb, off, none⟩ ∧ c5 = c' := by simpa using e1
            have d0 : wr.cell? ⟨bb, off + k * 1 + 0, none⟩ = some (.int .i64 L[k]) := f1 k hkl 0 (by omega)
            rw [Nat.mul_one, Nat.add_zero] at d0
            have hgt := HLT.out.2.2 k hkl (Nat.le_refl _)
            have HLT2 := Lib.hid (show 0 ≤ L[k] ∧ L[k] ≤ E ∧ ∀ i (hi : i < L.length), k + 1 ≤ i → L[k] < L[i] from ⟨by have := HLT.out.1; omega, (HUP.out _ (List.getElem_mem hkl)).2, fun i hi h9 => List.pairwise_iff_getElem.1 HPW.out k i hkl hi (by omega)⟩)
            generalize L[k] = y at *
            have hle : ¬ y ≤ la' := by omega
            clear f1 e1 HLT
            go_wp2
            go_roundw
            case rel => exact ⟨k + 1, y, by omega, by go_num, rfl, HLT2, by first | exact Lib.hid rfl | exact Lib.hid trivial⟩
            case measure => simp [intOf]; omega
          · obtain rfl : k = n := by omega
            have hl9 : 0 ≤ la' ∧ la' ≤ E := ⟨HLT.out.1, HLT.out.2.1⟩
            clear HLT HUP HPW
            obtain ⟨T9, hp9⟩ : ∃ T, RcP R s' T wr := by
              obtain ⟨T, _, _, _, _, _, A2, B2, _, _, hp, _⟩ := HI2.out.get
              exact ⟨A2, hp⟩
            have HX := Lib.hid (Inv.calm HI2.out (LsP.frm.star (RcP.frm.star GenP.frm)) (prexp_any hp9))
            rw [HE.out] at HX
            clear HI2 hp9
            go_wp2_with fail
            (with_reducible refine HX.out.mono ?_); rintro e w6 ⟨rfl, h1⟩
            have hEb : ¬ E < b := by omega
            obtain ⟨T9, hp9⟩ : ∃ T, RcP R s' T w6 := by
              obtain ⟨T, _, _, _, _, _, A2, B2, _, _, hp, _⟩ := h1.get
              exact ⟨A2, hp⟩
            have HX := Lib.hid (Inv.calm h1 (LsP.frm.star (RcP.frm.star GenP.frm)) (prholds_any hsl' hp9 (q + 1)))
            clear h1 hp9
            go_wp2_with fail
            (with_reducible refine HX.out.mono ?_); rintro e w7 ⟨rfl, h1⟩
            have HOR := Lib.hid (HN7.out (max b (E - wi + 1)) la' rfl hl9.1 hl9.2)
            have HEND := Lib.hid (fun (W : World) (h : Inv w.heap.size w (Star (LsP csI 1 3 (.slice A5 k c5) L) (Star (RcP R s') (GenP w.heap.size w.heap.size A len cap (q2 + 1)))) W) => (by
              obtain ⟨T9, hp9⟩ : ∃ T, RcP R s' T W := by
                obtain ⟨T, _, _, _, _, _, A2, B2, _, _, hp, _⟩ := h.get
                exact ⟨A2, hp⟩
              have h9 := Inv.calm h.drop (RcP.frm.star GenP.frm) (prexp_any hp9)
              rw [HE.out] at h9
              exact h9 : Calls Try.prog 18 #[.pointer (some ⟨R, 0, none⟩)] W fun e w' => e = .returned (.int .i64 E) ∧ Inv w.heap.size w (Star (RcP R s') (GenP w.heap.size w.heap.size A len cap (q2 + 1))) w'))
            have wy1 : IntKind.i64.wrap (E - wi) = E - wi := IntWalk.i64_in _ (by omega)
            have wy2 : IntKind.i64.wrap (E - wi + 1) = E - wi + 1 := IntWalk.i64_in _ (by omega)
            cases hho : rcHo s'.l (q + 1)
            · have HX := Lib.hid (HEND.out w7 h1)
              clear h1 HEND hho HN6 HN7
              go_wp2_with fail
              (with_reducible refine HX.out.mono ?_); rintro e w9 ⟨rfl, h1⟩
              have HS9 := Lib.hid h1
              clear h1 HX
              go_wp2
              go_roundw
              case rel => exact ⟨j + 1, q2 + 1, max b (E - wi + 1), la', s', by omega, by go_num, by (have hmx : (if b < E - wi + 1 then E - wi + 1 else b) = max b (E - wi + 1) := by (split <;> omega)); simp [hmx], rfl, by omega, HOR, HS9⟩
              case measure => simp [intOf]; omega
            · have HXH := Lib.hid (Inv.calm h1 (LsP.frm.star (RcP.frm.star GenP.frm)) (hasI_any (by have := HNL.out; omega) (LsP.any h1) (q + 1)))
              rw [HN6.out hho] at HXH
              clear h1 hho HN6 HN7
              go_wp2_with fail
              (with_reducible refine HXH.out.mono ?_); rintro e w8 ⟨rfl, h1⟩
              have HX := Lib.hid (HEND.out w8 h1)
              clear h1 HEND HXH
              go_wp2_with fail
              (with_reducible refine HX.out.mono ?_); rintro e w9 ⟨rfl, h1⟩
              have HS9 := Lib.hid h1
              clear h1 HX
              go_wp2
              go_roundw
              case rel => exact ⟨j + 1, q2 + 1, max b (E - wi + 1), la', s', by omega, by go_num, by (have hmx : (if b < E - wi + 1 then E - wi + 1 else b) = max b (E - wi + 1) := by (split <;> omega)); simp [hmx], rfl, by omega, HOR, HS9⟩
              case measure => simp [intOf]; omega
    · obtain rfl : j = 60 := by omega
      have HB := Lib.hid HS.out.out
      clear HS HR
      go_wp2_with fail
      (with_reducible refine (HAW.out _).mono ?_); rintro e w11 ⟨rfl, hb⟩
      have HF := Lib.hid (HB.out.trans (hb.mono HB.out.size))
      clear hb HB
      go_wp2
      go_ret
      exact ⟨rfl, HF.out⟩
end Go.Proofs.Ythmncipenjhknaa

