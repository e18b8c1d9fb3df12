/-
  Layer 5: the walk of the statement about both ends (RingBothEnds). Every input; no condition.
-/
import Derived.Test.YtpdoommjmmlhfaaRgLaws
namespace Go.Proofs.Ytpdoommjmmlhfaa
open Go.ChangeShapes Go.WideShapes Go.ChangeAt Go.RowKit
set_option linter.unusedVariables false

set_option maxRecDepth 100000 in
set_option maxHeartbeats 8000000 in
theorem walkBothEnds (a : Option Addr) (len cap : Nat) (x y : Int) (w : World) (he : Elems w.heap.size a len w) :
    Calls Try.prog 5 #[.slice a len cap, .int .i64 x, .int .i64 y] w fun e w' => e = .returned (.bool true) ∧ Below w.heap.size w w' := by
  have hg := Has.new (cap := cap) he
  have HN := Lib.hid (fun W => show Calls Try.prog 9 #[.int .i64 8] W (RgNew 8 W) from rgnew_ok 8 W (by decide) (by decide))
  have HG1 := Lib.hid hg
  clear he hg
  go_enter Try.func5, Try.ntmps5
  go_wp2_with (go_at_call 7; (with_reducible refine (new_any a len cap _).mono ?_); rintro e w' ⟨rfl, rfl⟩)
  (with_reducible refine (HN.out _).mono ?_)
  intro e w2 ha
  obtain ⟨H, g, rfl, h2⟩ := GR.start HG1.out ha
  have HX := Lib.hid (h2.next (N := 6) (by omega) (by omega) (by omega))
  generalize (w.alloc _).heap.size = C at HX
  clear ha h2 HN HG1
  have d0 : ((0 : Int) != 0) = false := rfl
  go_wp2_with fail
  (with_reducible refine HX.out.mono ?_)
  rintro e w3 ⟨r, r0, r1, rfl, h3, _⟩
  obtain ⟨m0, rfl⟩ := Int.eq_ofNat_of_zero_le r0
  have H3 := Lib.hid h3
  have hm0 : m0 ≤ 5 := by omega
  clear h3 HX r0 r1
  go_wp2_with fail
  go_loopw [10] (fun i wr => ∃ (m n q : Nat) (L : Nat → Int), m + n ≤ 5 ∧ i = .int .i64 m ∧ q ≤ 1 + n ∧ Hid (GR w.heap.size a len cap q w C H g 8 n L wr)) (fun i _ => (intOf i).toNat)
  case atStart => exact ⟨m0, 0, 0 + 1, _, by omega, rfl, by omega, H3⟩
  case round =>
    obtain ⟨m, n, q, L, hmn, rfl, hq, HJ⟩ := hrel
    clear H3
    by_cases hlt : 0 < m
    · have hlt' : 0 < (m : Int) := by omega
      have HX := Lib.hid (HJ.out.next (N := 9) (by omega) (by omega) (by omega))
      clear HJ
      go_wp2_with fail
      (with_reducible refine HX.out.mono ?_)
      rintro e w4 ⟨s, s0, s1, rfl, h4, _⟩
      have HP := Lib.hid (h4.call (fun hS => rgpush_ok hS (by omega) s))
      clear h4 HX
      go_wp2_with fail
      (with_reducible refine HP.out.mono ?_)
      rintro e w5 ⟨rfl, h5, _⟩
      have H5 := Lib.hid h5
      clear h5 HP
      go_wp2
      go_roundw
      case rel => exact ⟨m - 1, n + 1, q + 1, _, by omega, by go_num, by omega, H5⟩
      case measure => simp [intOf]; omega
    · have hm : ¬ 0 < (m : Int) := by omega
      have HI := Lib.hid (rgitems_any HJ.out.2.2)
      go_wp2_with fail
      (with_reducible refine HI.out.mono ?_)
      rintro e w4 ⟨A, d, rfl, hd, hn4, hb4⟩
      clear hd
      have h4 := HJ.out.below hb4
      have HFT := Lib.hid HJ.out.foot
      have HSZ := Lib.hid hb4.size
      have HN4 := Lib.hid hn4
      have HP1 := Lib.hid (h4.call (fun hS => rgfront_ok hS (by omega) x))
      clear HI hn4 hb4 h4 HJ
      go_wp2_with fail
      (with_reducible refine HP1.out.mono ?_)
      rintro e w5 ⟨rfl, h5, k5⟩
      have HP2 := Lib.hid (h5.call (fun hS => rgpush_ok hS (by omega) y))
      have K5 := Lib.hid k5
      clear h5 k5 HP1
      go_wp2_with fail
      (with_reducible refine HP2.out.mono ?_)
      rintro e w6 ⟨rfl, h6, k6⟩
      have K6 := Lib.hid (K5.out.trans k6)
      have h6a := h6.at_ 0
      rw [show inR (n + 1 + 1) 0 = true from inR_yes (Int.le_refl _) (by omega)] at h6a
      have e0 : takV (upd (consN x L) (n + 1) y) (n + 1 + 1) 0 = x := by
        unfold takV; rw [inR_yes (Int.le_refl _) (by omega)]; rfl
      rw [e0] at h6a
      have HA := Lib.hid h6a
      clear h6 k6 h6a K5 HP2 e0
      go_wp2_with fail
      (with_reducible refine HA.out.mono ?_)
      rintro e w7 ⟨rfl, h7, b7⟩
      have K7 := Lib.hid (K6.out.trans (Chg.of_below b7))
      have HL := Lib.hid (rlen_any h7.2.2)
      have H7 := Lib.hid h7
      clear h7 b7 K6 HA
      go_wp2_with fail
      (with_reducible refine HL.out.mono ?_)
      rintro e w8 ⟨rfl, rfl⟩
      have h7a := H7.out.at_ ((n : Int) + 1)
      rw [show inR (n + 1 + 1) ((n : Int) + 1) = true from inR_yes (by omega) (by omega)] at h7a
      have e0 : takV (upd (consN x L) (n + 1) y) (n + 1 + 1) ((n : Int) + 1) = y := by
        unfold takV; rw [inR_yes (by omega) (by omega), show ((n : Int) + 1).toNat = n + 1 by omega]; exact upd_at _ _ _
      rw [e0] at h7a
      have HA := Lib.hid h7a
      clear h7a e0 H7 HL
      go_wp2_with fail
      (with_reducible refine HA.out.mono ?_)
      rintro e w8 ⟨rfl, h8, b8⟩
      have K8 := Lib.hid (K7.out.trans (Chg.of_below b8))
      have HP3 := Lib.hid (h8.call (fun hS => show Calls Try.prog 21 #[.pointer (some ⟨H, 0, none⟩)] w8 (RgAns C H g 8 (n + 1) (upd (consN x L) (n + 1) y) (.tuple #[.int .i64 y, .int .i64 0]) w8) from by
        have := rgback_ok hS; rw [upd_at] at this; exact this))
      clear h8 b8 K7 HA
      go_wp2_with fail
      (with_reducible refine HP3.out.mono ?_)
      rintro e w9 ⟨rfl, h9, k9⟩
      have K9 := Lib.hid (K8.out.trans k9)
      have HP4 := Lib.hid (h9.call (fun hS => show Calls Try.prog 18 #[.pointer (some ⟨H, 0, none⟩)] w9 (RgAns C H g 8 n (rmvN (upd (consN x L) (n + 1) y) 0) (.tuple #[.int .i64 x, .int .i64 0]) w9) from rgpop_ok hS))
      clear h9 k9 K8 HP3
      go_wp2_with fail
      (with_reducible refine HP4.out.mono ?_)
      rintro e w10 ⟨rfl, h10, k10⟩
      have h10 := h10.same (L' := L) (fun i hi => by
        show upd (consN x L) (n + 1) y (i + 1) = L i
        rw [upd_ne (by omega)]; rfl)
      have HN10 := Lib.hid (Cells.chg HN4.out (K9.out.trans k10) (Nat.le_refl _) HFT.out)
      have HS10 : Hid (w4.heap.size ≤ w10.heap.size) := Lib.hid (K9.out.trans k10).size
      have HI := Lib.hid (rgitems_any h10.2.2)
      have HE := Lib.hid h10.end_
      have hBl := h10.lt
      clear h10 k10 K9 HP4 HN4
      go_wp2_with fail
      (with_reducible refine HI.out.mono ?_)
      rintro e w11 ⟨A2, d2, rfl, hd2, hn11, hb11⟩
      clear hd2
      have HQ := Lib.hid (equalInt_any A A2 n d d2 L _ _ _ _ w11 (by omega) (Cells.below HN10.out hb11 HS10.out) hn11)
      have HE11 := Lib.hid (HE.out.trans (hb11.mono (by omega)))
      have hs11 := hb11.size
      clear hn11 hb11 HI HE HN10
      go_wp2_with fail
      (with_reducible refine HQ.out.mono ?_)
      rintro e w12 ⟨rfl, hb12⟩
      have HE12 := Lib.hid (HE11.out.trans (hb12.mono (by omega)))
      have hs12 := hb12.size
      have HAW := Lib.hid (rgawake_any w12)
      clear hb12 HE11 HQ
      go_wp2_with fail
      (with_reducible refine HAW.out.mono ?_)
      rintro e w13 ⟨rfl, hb13⟩
      have HE13 := Lib.hid (HE12.out.trans (hb13.mono (by omega)))
      clear hb13 HE12 HAW
      have t1 : (x == x) = true := by simp
      have t2 : (y == y) = true := by simp
      go_wp2
      go_ret
      exact ⟨rfl, HE13.out⟩
end Go.Proofs.Ytpdoommjmmlhfaa

