/-
  Layer 10: the walk of the statement on how much a table takes (FlowsFull). Every input; no condition.
-/
import Derived.Test.YtgojbomdkdlclaaFlKeep
import Derived.Test.YtgojbomdkdlclaaFlFlows
import Derived.Laws.BytesArg
namespace Go.Proofs.Ytgojbomdkdlclaa
open Go.ChangeShapes Go.WideShapes Go.ChangeAt Go.RowKit
set_option linter.unusedVariables false

def ltr (k : Nat) : ByteArray := ⟨#[UInt8.ofNat (97 + k)]⟩
def nm10 (k : Nat) : ByteArray := ⟨#[115]⟩ ++ ltr k
def fuS (k : Nat) : List Sta := (List.range k).map fun (i : Nat) => ⟨(i : Int), nm10 i, 1, 0⟩
def fuT (k : Nat) : Tb := ⟨512, 1, fuS k, [], []⟩
theorem fuS_len (k : Nat) : (fuS k).length = k := by unfold fuS; simp
theorem fu_facts : (∀ k, k < 16 → asE (fuT k) (nm10 k) 1 0 = 0) ∧ asE (fuT 16) ⟨#[116]⟩ 1 0 = 4 := by decide +kernel
theorem fu_step {k : Nat} (hk : k < 16) : asE (fuT k) (nm10 k) 1 0 = 0 ∧ asX (fuT k) (nm10 k) 1 0 = k ∧ asT (fuT k) (nm10 k) 1 0 = fuT (k + 1) := by
  have e := fu_facts.1 k hk
  refine ⟨e, ?_, ?_⟩
  · unfold asX; rw [if_pos e]; show ((fuS k).length : Int) = k; rw [fuS_len]
  · unfold asT; rw [if_pos e]
    show (⟨512, 1, fuS k ++ [⟨((fuS k).length : Int), nm10 k, 1, 0⟩], [], []⟩ : Tb) = ⟨512, 1, fuS (k + 1), [], []⟩
    rw [fuS_len]; unfold fuS; rw [List.range_succ, List.map_append]; rfl
theorem fu_last : asE (fuT 16) ⟨#[116]⟩ 1 0 = 4 ∧ asT (fuT 16) ⟨#[116]⟩ 1 0 = fuT 16 := by
  have e := fu_facts.2
  exact ⟨e, by unfold asT; rw [if_neg (by rw [e]; decide)]⟩
/-- A table of sixteen stations whose j flows are all gone. -/
structure FuJ (t : Tb) (j : Nat) : Prop where
  cap : t.cap = 512
  sta : t.S.length = 16
  flo : t.F.length = j
  tot : t.tot = 0
  non : flwL t.F t.G = []
theorem fu_start : FuJ (fuT 16) 0 := ⟨rfl, fuS_len 16, rfl, rfl, rfl⟩
theorem fu_more {t : Tb} {j : Nat} (h : FuJ t j) (ho : TbOk t) (hj : j < 32) {s x : Int} (s0 : 0 ≤ s) (s1 : s < 16) (x0 : 1 ≤ x) (x1 : x ≤ 16) :
    afE t s x = 0 ∧ afX t s x = j ∧ rmE (afT t s x) j = 0 ∧ FuJ (rmT (afT t s x) j) (j + 1) := by
  have h1 : hsB t s = true := by unfold hsB; rw [h.sta]; simp; omega
  have h2 : gwB x = true := by unfold gwB; simp; omega
  obtain ⟨e1, e2, e3⟩ := af_0 h1 h2 (by rw [h.flo]; omega) (by rw [h.cap, h.tot]; omega)
  have hlG : t.G.length = j := by rw [← ho.len, h.flo]
  have hthr : thrB (t.F ++ [newF t s x]) (t.G ++ [false]) j = true := by
    rw [thr_nat (by simp [ho.len]) (by simp [h.flo])]
    rw [List.getElem_append_right (by omega)]; simp
  have r := rm_0 (t := { t with F := t.F ++ [newF t s x], G := t.G ++ [false] }) (k := j) hthr
  rw [e3]
  refine ⟨e1, by rw [e2, h.flo], r.1, ?_⟩
  rw [r.2]
  have hset : (t.G ++ [false]).set j true = t.G ++ [true] := by rw [List.set_append_right _ _ (by omega), hlG, Nat.sub_self]; rfl
  refine ⟨h.cap, h.sta, by simp [h.flo], ?_, ?_⟩
  · show totF (t.F ++ [newF t s x]) ((t.G ++ [false]).set j true) = 0
    rw [hset, tot_snoc _ _ _ _ ho.len]
    have := h.tot; unfold Tb.tot at this; rw [this]; rfl
  · show flwL (t.F ++ [newF t s x]) ((t.G ++ [false]).set j true) = []
    rw [hset, flw_snoc _ _ _ _ ho.len, h.non]; rfl
theorem fu_end {t : Tb} (h : FuJ t 32) {x : Int} (x0 : 1 ≤ x) (x1 : x ≤ 16) : afE t 0 x = 4 ∧ afT t 0 x = t := by
  have h1 : hsB t 0 = true := by unfold hsB; rw [h.sta]; decide
  have h2 : gwB x = true := by unfold gwB; simp; omega
  obtain ⟨e1, _, e3⟩ := af_4 h1 h2 (by rw [h.flo]; omega)
  exact ⟨e1, e3⟩
theorem conv_ltr {w : World} (k : Nat) (hk : k < 16) (g : Nat) (hc : w.cell? ⟨g, 0, none⟩ = some (.int .u8 ((97 + k : Nat) : Int))) :
    (convert 43 9 (.slice (some ⟨g, 0, none⟩) 1 1)).run Try.prog w = .ok (.string (ltr k)) w := by
  have := run_convert_bytes_arg (P := Try.prog) w 43 5 Try.underlying43 Try.underlying5 g 0 1 1 [((97 + k : Nat) : Int)] rfl (fun i hi => by
    obtain rfl : i = 0 := by omega
    exact hc) 9 Try.underlying9
  rw [this]
  congr 2
theorem KP.below {C H : Nat} {t : Tb} {w0 w w' : World} (h : KP C H t w0 w) (hb : Below w.heap.size w w') : KP C H t w0 w' := by
  obtain ⟨h0, h1, S, h2⟩ := h
  exact ⟨Nat.le_trans h0 hb.size, h1.trans (hb.mono h0), S, h2.below hb⟩
theorem KP.got {C H : Nat} {t : Tb} {w0 w : World} (h : KP C H t w0 w) : Calls Try.prog 19 #[.pointer (some ⟨H, 0, none⟩)] w fun e w' => (∃ A c, e = .returned (.slice A (flwL t.F t.G).length c)) ∧ KP C H t w0 w' := by
  obtain ⟨h0, h1, S, h2⟩ := h
  refine (flows_any h2).mono ?_
  rintro e w' ⟨A, c, e1, _, h3⟩
  exact ⟨⟨A, c, e1⟩, Nat.le_trans h0 h3.size, h1.trans (h3.mono h0), S, h2.below h3⟩
set_option maxRecDepth 100000 in
set_option maxHeartbeats 8000000 in
theorem walkFull (x : Int) (x0 : 0 ≤ x) (x1 : x ≤ 255) (w : World) :
    Calls Try.prog 5 #[.int .u8 x] w fun e w' => e = .returned (.bool true) ∧ Below w.heap.size w w' := by
  have HN := Lib.hid (pnew_any (c := 512) (r := 1) (by omega) w)
  go_enter Try.func5, Try.ntmps5
  go_wp2_with fail
  (with_reducible refine HN.out.mono ?_); intro e w1 h
  obtain ⟨H, rfl, h1⟩ := KP.new h
  have H1 := Lib.hid (show KP w.heap.size H (fuT 0) w w1 from h1)
  clear h h1 HN
  go_wp2_with fail
  go_loopw [5] (fun i wr => ∃ (k : Nat), k ≤ 16 ∧ i = .int .i64 k ∧ Hid (KP w.heap.size H (fuT k) w wr)) (fun i _ => 16 - (intOf i).toNat)
  case atStart => exact ⟨0, Nat.zero_le _, rfl, H1⟩
  case round =>
    obtain ⟨k, hk, rfl, HJ⟩ := hrel
    clear H1
    by_cases hlt : k < 16
    · have hlt' : (k : Int) < 16 := by omega
      have hw1 : IntKind.i64.wrap (97 + (k : Int)) = 97 + k := IntWalk.i64_in _ (by omega)
      obtain ⟨e1, e2, e3⟩ := fu_step hlt
      have hal := (HJ.out.below ((Below.refl _ _).alloc (Nat.le_refl _) (.cells #[.int .u8 (97 + (k : Int))] 5))).call (fun S hS => addStation_any hS (nm10 k) 1 0)
      have hcv := conv_ltr (w := wr.alloc (.cells #[.int .u8 (97 + (k : Int))] 5)) k hlt wr.heap.size (by rw [(Whole.fresh wr 5 _).read]; simp)
      have hsz : (ltr k).size = 1 := rfl
      rw [e1, e2, e3] at hal
      unfold nm10 at hal
      have HX := Lib.hid hal
      clear e1 e2 e3 hal HJ
      have hdk : ((k : Int) != (k : Int)) = false := by simp
      go_wp2_with fail
      (with_reducible refine HX.out.mono ?_)
      rintro e w2 ⟨rfl, h2⟩
      have H2 := Lib.hid h2
      clear h2 HX hcv
      go_wp2
      go_roundw
      case rel => exact ⟨k + 1, by omega, by go_num, H2⟩
      case measure => simp [intOf]; omega
    · obtain rfl : k = 16 := by omega
      have hc := HJ.out.call (fun S hS => addStation_any hS ⟨#[116]⟩ 1 0)
      rw [fu_last.1, fu_last.2] at hc
      generalize asX (fuT 16) ⟨#[116]⟩ 1 0 = vx at hc
      have HX := Lib.hid hc
      clear hc HJ
      go_wp2_with fail
      (with_reducible refine HX.out.mono ?_)
      rintro e w2 ⟨rfl, h2⟩
      have H2 := Lib.hid h2
      clear h2 HX
      go_wp2_with fail
      go_loopw [10] (fun i wr => ∃ (j : Nat) (t : Tb), j ≤ 32 ∧ i = .int .i64 j ∧ Hid (FuJ t j) ∧ Hid (KP w.heap.size H t w wr)) (fun i _ => 32 - (intOf i).toNat)
      case atStart => exact ⟨0, fuT 16, Nat.zero_le _, rfl, Lib.hid fu_start, H2⟩
      case round =>
        obtain ⟨j, t, hj, rfl, HF, HJ⟩ := hrel
        clear H2
        by_cases hlt : j < 32
        · have hlt' : (j : Int) < 32 := by omega
          obtain ⟨m1, m2, m3, m4⟩ := fu_more HF.out HJ.out.ok hlt (s := (j : Int) % 16) (x := 1 + x % 16) (by omega) (by omega) (by omega) (by omega)
          have hal := HJ.out.call (fun S hS => addFlow_any hS ((j : Int) % 16) (1 + x % 16))
          rw [m1, m2] at hal
          generalize afT t ((j : Int) % 16) (1 + x % 16) = t' at *
          have HX := Lib.hid hal
          have HF2 := Lib.hid m4
          have HM := Lib.hid m3
          have hdk : ((j : Int) != (j : Int)) = false := by simp
          clear hal m1 m2 m3 m4 HJ HF
          go_wp2_with fail
          (with_reducible refine HX.out.mono ?_)
          rintro e w3 ⟨rfl, h3⟩
          have hrm := h3.call (fun S hS => remove_any hS j)
          rw [HM.out] at hrm
          have HX := Lib.hid hrm
          clear h3 hrm
          go_wp2_with fail
          (with_reducible refine HX.out.mono ?_)
          rintro e w4 ⟨rfl, h4⟩
          have H4 := Lib.hid h4
          clear h4 HX
          go_wp2
          go_roundw
          case rel => exact ⟨j + 1, _, by omega, by go_num, HF2, H4⟩
          case measure => simp [intOf]; omega
        · obtain rfl : j = 32 := by omega
          have hal := HJ.out.call (fun S hS => addFlow_any hS 0 1)
          obtain ⟨m1, m2⟩ := fu_end HF.out (x := 1) (by omega) (by omega)
          rw [m1, m2] at hal
          generalize afX t 0 1 = vy at hal
          have HX := Lib.hid hal
          have HNo := Lib.hid HF.out.non
          have HW := Lib.hid (fun w => awake10_any w)
          unfold Quiet at HW
          clear hal m1 m2 HJ HF
          go_wp2_with fail
          (with_reducible refine HX.out.mono ?_)
          rintro e w3 ⟨rfl, h3⟩
          have hgt := h3.got
          rw [HNo.out] at hgt
          have HX := Lib.hid hgt
          clear h3 hgt
          go_wp2_with fail
          (with_reducible refine HX.out.mono ?_)
          rintro e w4 ⟨⟨A4, c4, rfl⟩, h4⟩
          have HB := Lib.hid h4.2.1
          have hsz := Lib.hid h4.1
          clear h4 HX
          go_wp2_with fail
          (with_reducible refine (HW.out _).mono ?_); rintro e w5 ⟨rfl, hb⟩
          have HF := Lib.hid (HB.out.trans (hb.mono hsz.out))
          clear hb
          go_wp2
          go_ret
          exact ⟨rfl, HF.out⟩
end Go.Proofs.Ytgojbomdkdlclaa

