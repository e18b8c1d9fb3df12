/-
  Layer 16: the walk of the statement on transmissions (SenderTries). Every input; no condition.
-/
import Derived.Test.YtglhaclehdkagaaSnAwake
import Derived.Deep.LoopGhost
import Derived.LoopTactic
namespace Go.Proofs.Ytglhaclehdkagaa
open Go.ChangeShapes Go.WideShapes Go.ChangeAt Go.RowKit
set_option linter.unusedVariables false

def stT (t id k : Int) : SnS := ⟨4, t, 1, [⟨0, id, k⟩]⟩
theorem stT_k (t id k : Int) : snK (stT t id k).l 0 = 0 := by simp [snK, stT, List.findIdx_cons]
theorem tr_asg {t id : Int} (h : 1 ≤ id) : snAsE (SnS.new 4 t) id = 0 ∧ snAsV (SnS.new 4 t) id = 0 ∧ (SnS.new 4 t).asg id = stT t id 0 := by
  have hE : snAsE (SnS.new 4 t) id = 0 := by
    unfold snAsE
    rw [if_neg (by omega), if_pos (show snOpen (SnS.new 4 t) = true from (show decide ((0 : Int) < 4 - dsV 0 0) = true by decide))]
  refine ⟨hE, by unfold snAsV; rw [if_pos hE]; rfl, ?_⟩
  unfold SnS.asg
  rw [if_pos hE]; rfl
theorem tr_bad {t id : Int} (h : id < 1) : snAsE (SnS.new 4 t) id = 1 ∧ snAsV (SnS.new 4 t) id = 0 := by
  have hE : snAsE (SnS.new 4 t) id = 1 := by unfold snAsE; rw [if_pos h]
  exact ⟨hE, by unfold snAsV; rw [hE]; rfl⟩
theorem tr_tr (t id k : Int) : snTr (stT t id k).l 0 = k := by
  have h := stT_k t id k
  have hl : snK (stT t id k).l 0 < (stT t id k).l.length := by rw [h]; simp [stT]
  unfold snTr
  rw [dif_pos hl]
  simp only [h]
  rfl
theorem tr_up (t id k : Int) : snUp (stT t id k).l (snK (stT t id k).l 0) = [⟨0, id, k + 1⟩] := by
  rw [stT_k]; unfold snUp; rw [dif_pos (by simp [stT])]; rfl
theorem tr_snd {t id k : Int} (h : k < t) : snSdE (stT t id k) 0 = 0 ∧ snSdV (stT t id k) 0 = k + 1 ∧ (stT t id k).snd 0 = stT t id (k + 1) := by
  have h1 := stT_k t id k
  have h2 := tr_tr t id k
  have hE : snSdE (stT t id k) 0 = 0 := by
    unfold snSdE
    rw [if_pos (by rw [h1]; simp [stT]), h2, if_neg (by simp [stT]; omega)]
  refine ⟨hE, by unfold snSdV; rw [if_pos hE, h2], ?_⟩
  unfold SnS.snd
  rw [if_pos hE, tr_up]; rfl
theorem tr_full (t id : Int) : snSdE (stT t id t) 0 = 14 ∧ snSdV (stT t id t) 0 = 0 ∧ (stT t id t).snd 0 = stT t id t := by
  have h1 := stT_k t id t
  have h2 := tr_tr t id t
  have hE : snSdE (stT t id t) 0 = 14 := by
    unfold snSdE
    rw [if_pos (by rw [h1]; simp [stT]), h2, if_pos (by simp [stT])]
  refine ⟨hE, by unfold snSdV; rw [hE]; rfl, ?_⟩
  unfold SnS.snd
  rw [if_neg (by rw [hE]; decide)]
theorem tr_drp (t id k : Int) : snDrE (stT t id k) 0 = 0 ∧ snDrV (stT t id k) 0 = id ∧ (stT t id k).drp 0 = ⟨4, t, 1, []⟩ := by
  have h1 := stT_k t id k
  have hl : snK (stT t id k).l 0 < (stT t id k).l.length := by rw [h1]; simp [stT]
  refine ⟨by unfold snDrE; rw [if_pos hl], ?_, ?_⟩
  · unfold snDrV snId; rw [dif_pos hl]; simp only [h1]; rfl
  · unfold SnS.drp; rw [if_pos hl, h1]; rfl
theorem tr_none (t : Int) : snSdE ⟨4, t, 1, []⟩ 0 = 6 ∧ snSdV ⟨4, t, 1, []⟩ 0 = 0 := by
  have hE : snSdE ⟨4, t, 1, []⟩ 0 = 6 := by unfold snSdE; rw [if_neg (by simp)]
  exact ⟨hE, by unfold snSdV; rw [hE]; rfl⟩
theorem tr_exh1 {t id k : Int} (h : k = t) : (snExh (stT t id k)).length = 1 := by subst h; simp [snExh, stT]
theorem tr_exh0 {t id k : Int} (h : k < t) : (snExh (stT t id k)).length = 0 := by
  have : ¬ t ≤ k := by omega
  simp [snExh, stT, this]
section
variable {R : Nat} {s s' : SnS} {base : Nat} {w0 w : World} {q v e : Int}
theorem psndV (h : Inv base w0 (SnP R s) w) (hn : s.l.length ≤ 9999) (hv : snSdV s q = v) (he : snSdE s q = e) (hs : s.snd q = s') :
    Calls Try.prog 24 #[.pointer (some ⟨R, 0, none⟩), .int .i64 q] w fun en w' => en = .returned (.tuple #[.int .i64 v, .int .i64 e]) ∧ Inv base w0 (SnP R s') w' := by
  subst hv he hs
  exact Inv.call1 h (pssnd_any hn q)
theorem pdrpV (h : Inv base w0 (SnP R s) w) (hn : s.l.length ≤ 9999) (hv : snDrV s q = v) (he : snDrE s q = e) (hs : s.drp q = s') :
    Calls Try.prog 22 #[.pointer (some ⟨R, 0, none⟩), .int .i64 q] w fun en w' => en = .returned (.tuple #[.int .i64 v, .int .i64 e]) ∧ Inv base w0 (SnP R s') w' := by
  subst hv he hs
  exact Inv.call1 h (psdrp_any hn q)
theorem pexhV (h : Inv base w0 (SnP R s) w) (hn : s.l.length ≤ 9999) {m : Nat} (hm : (snExh s).length = m) :
    Calls Try.prog 18 #[.pointer (some ⟨R, 0, none⟩)] w fun en w' => ∃ A c, en = .returned (.slice A m c) ∧ Inv base w0 (SnP R s) w' := by
  obtain ⟨T, hp⟩ := h.get
  refine (psexh_any hn hp).mono ?_
  rintro e w' ⟨v, e1, hl, hb⟩
  obtain ⟨A, c, rfl, _⟩ := hl.shape
  rw [hm] at e1
  exact ⟨A, c, e1, h.step SnP.frm hb⟩
end
set_option maxRecDepth 100000 in
set_option maxHeartbeats 8000000 in
theorem walkTries16 (x id : Int) (w : World) (x0 : 0 ≤ x) (x1 : x ≤ 255) :
    Calls Try.prog 5 #[.int .u8 x, .int .i64 id] w (Calm (.bool true) w) := by
  obtain ⟨r, hr⟩ : ∃ r, x % 16 = r := ⟨_, rfl⟩
  have r0 : 0 ≤ r ∧ r < 16 := by omega
  have wa : Int.tmod x 16 = r := by rw [Int.tmod_eq_emod_of_nonneg x0]; exact hr
  have wb : IntKind.u8.wrap r = r := by rw [IntKind.wrap_u8]; omega
  have wc : IntKind.i64.wrap r = r := IntWalk.i64_in _ (by omega)
  have wd : IntKind.i64.wrap (1 + r) = 1 + r := IntWalk.i64_in _ (by omega)
  obtain ⟨t, ht⟩ : ∃ t : Nat, 1 + r = t := ⟨(1 + r).toNat, by omega⟩
  have t0 : 1 ≤ t ∧ t ≤ 16 := by omega
  rw [ht] at wd
  have hE : Inv w.heap.size w Emp w := Inv.start (T := fun _ => False) (fun k h => h) (fun k h => h.elim) (Below.refl _ _)
  have HX := Lib.hid (hE.call (psnew_any (wi := 4) (tr := (t : Int)) (snB_of ⟨by omega, by omega, by omega, by omega⟩)))
  have HW := Lib.hid (fun w => awake16_any w)
  clear hE
  unfold Calm at *
  go_enter Try.func5, Try.ntmps5
  go_wp2_with fail
  (with_reducible refine HX.out.mono ?_); rintro e w1 ⟨R, rfl, h1⟩
  clear hr ht wa wb wc wd HX x0 x1 r0
  by_cases hid : id < 1
  · have HX := Lib.hid (pasgV h1 (by simp [SnS.new]) (tr_bad hid).2 (tr_bad hid).1 rfl)
    clear h1
    go_wp2_with fail
    (with_reducible refine HX.out.mono ?_); rintro e w2 ⟨rfl, h1⟩
    have HB := Lib.hid h1.out
    clear h1 HX
    go_wp2_with fail
    (with_reducible refine (HW.out _).mono ?_); rintro e w3 ⟨rfl, hb⟩
    have HF := Lib.hid (HB.out.trans (hb.mono HB.out.size))
    clear hb HB
    go_wp2
    go_ret
    exact ⟨rfl, HF.out⟩
  · have hid' : 1 ≤ id := by omega
    have HX := Lib.hid (pasgV h1 (by simp [SnS.new]) (tr_asg hid').2.1 (tr_asg hid').1 (tr_asg hid').2.2)
    clear h1 hid
    go_wp2_with fail
    (with_reducible refine HX.out.mono ?_); rintro e w2 ⟨rfl, h1⟩
    have HI := Lib.hid h1
    clear h1 HX
    go_wp2_with fail
    go_loopw [10] (fun s10 wr => ∃ j : Nat, 1 ≤ j ∧ j ≤ t + 1 ∧ s10 = .int .i64 j ∧ Hid (Inv w.heap.size w (SnP R (stT t id ((j : Int) - 1))) wr)) (fun s10 _ => t + 1 - (intOf s10).toNat)
    case atStart => exact ⟨1, by omega, by omega, rfl, HI⟩
    case round =>
      obtain ⟨j, hj1, hj, rfl, HS⟩ := hrel
      clear HI
      by_cases hlt : j ≤ t
      · have hlt' : (j : Int) ≤ t := by omega
        obtain ⟨g1, g2, g3⟩ := tr_snd (t := t) (id := id) (k := (j : Int) - 1) (by omega)
        rw [show (j : Int) - 1 + 1 = j by omega] at g2 g3
        have HX := Lib.hid (psndV (q := 0) HS.out (by simp [stT]) g2 g1 g3)
        clear HS g1 g2 g3
        rcases (by omega : t = j ∨ j < t) with hjt | hjt
        · obtain rfl := hjt
          go_wp2_with fail
          (with_reducible refine HX.out.mono ?_); rintro e w3 ⟨rfl, h1⟩
          have HX2 := Lib.hid (pexhV h1 (by simp [stT]) (tr_exh1 rfl))
          clear h1 HX
          go_wp2_with fail
          (with_reducible refine HX2.out.mono ?_); rintro e w4 ⟨A, c, rfl, h1⟩
          have HF := Lib.hid (show Inv w.heap.size w (SnP R (stT t id (((t + 1 : Nat) : Int) - 1))) w4 by rw [show (((t + 1 : Nat) : Int) - 1) = ((t : Nat) : Int) by omega]; exact h1)
          clear h1 HX2
          go_wp2
          go_roundw
          case rel => exact ⟨t + 1, by omega, by omega, by go_num, HF⟩
          case measure => simp [intOf] <;> omega
        · have hne : ((j : Int) == t) = false := by simp; omega
          go_wp2_with fail
          (with_reducible refine HX.out.mono ?_); rintro e w3 ⟨rfl, h1⟩
          have HX2 := Lib.hid (pexhV h1 (by simp [stT]) (tr_exh0 (by omega)))
          clear h1 HX
          go_wp2_with fail
          (with_reducible refine HX2.out.mono ?_); rintro e w4 ⟨A, c, rfl, h1⟩
          have HF := Lib.hid (show Inv w.heap.size w (SnP R (stT t id (((j + 1 : Nat) : Int) - 1))) w4 by rw [show (((j + 1 : Nat) : Int) - 1) = ((j : Nat) : Int) by omega]; exact h1)
          clear h1 HX2
          go_wp2
          go_roundw
          case rel => exact ⟨j + 1, by omega, by omega, by go_num, HF⟩
          case measure => simp [intOf] <;> omega
      · obtain rfl : j = t + 1 := by omega
        have hgt : (t : Int) < ((t + 1 : Nat) : Int) := by omega
        rw [show (((t + 1 : Nat) : Int) - 1) = (t : Int) by omega] at HS
        have HX := Lib.hid (psndV (q := 0) HS.out (by simp [stT]) (tr_full _ _).2.1 (tr_full _ _).1 (tr_full _ _).2.2)
        clear HS
        go_wp2_with fail
        (with_reducible refine HX.out.mono ?_); rintro e w3 ⟨rfl, h1⟩
        have HX := Lib.hid (pdrpV (q := 0) h1 (by simp [stT]) (tr_drp _ _ _).2.1 (tr_drp _ _ _).1 (tr_drp _ _ _).2.2)
        clear h1
        go_wp2_with fail
        (with_reducible refine HX.out.mono ?_); rintro e w4 ⟨rfl, h1⟩
        have HX := Lib.hid (psndV (q := 0) h1 (by simp) (tr_none _).2 (tr_none _).1 rfl)
        clear h1
        go_wp2_with fail
        (with_reducible refine HX.out.mono ?_); rintro e w5 ⟨rfl, h1⟩
        have HB := Lib.hid h1.out
        have hii : (id == id) = true := by simp
        clear h1 HX
        go_wp2_with fail
        (with_reducible refine (HW.out _).mono ?_); rintro e w6 ⟨rfl, hb⟩
        have HF := Lib.hid (HB.out.trans (hb.mono HB.out.size))
        clear hb HB
        go_wp2
        go_ret
        exact ⟨rfl, HF.out⟩
end Go.Proofs.Ytglhaclehdkagaa

