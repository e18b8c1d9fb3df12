/-
  Layer 16: contract of the program's Ack. Written by gen_snp4.py.
-/
import Derived.Test.YtglhaclehdkagaaSnP3
namespace Go.Proofs.Ytglhaclehdkagaa
open Go.ChangeShapes Go.WideShapes Go.ChangeAt Go.RowKit
set_option linter.unusedVariables false

/-- What the two lists are once the loop is through. -/
theorem psack_end {R : Nat} {s : SnS} {b m : Int} {T : Nat → Prop} {w wr : World} {base : Nat} {A1 A2 : Option Addr} {c1 c2 m1 m2 : Nat} {vL : Value} (hbs : w.heap.size ≤ base) (hok : SnIv s) (h1 : ∀ k, T k → k < w.heap.size) (h2 : T R) (hS : Whole wr R 56 (snC s vL)) (hE : snAkB s b = true)
    (hro : wr.ownsRow base 3 1 (.slice A1 m1 c1) m1 (srs csI ((s.l.filter (snGone b m)).map (·.i)))) (hrl : wr.ownsRow base 38 3 (.slice A2 m2 c2) m2 (srs csN (s.l.filter (fun x => !snGone b m x))))
    (hl1 : (s.l.filter (snGone b m)).length = m1) (hl2 : (s.l.filter (fun x => !snGone b m x)).length = m2) (hb : Below w.heap.size w wr) :
    (∃ T', Star (LsP csI 1 3 (.slice A1 m1 c1) (snAkL s b m)) (SnP R (s.ack b m)) T' (wr.setCell ⟨R, 3, none⟩ (.slice A2 m2 c2)) ∧ ∀ j, T' j → T j ∨ w.heap.size ≤ j) ∧ Chg T w (wr.setCell ⟨R, 3, none⟩ (.slice A2 m2 c2)) := by
  have hRw := h1 R h2
  have eL : snAkL s b m = (s.l.filter (snGone b m)).map (·.i) := by unfold snAkL; rw [if_pos hE]
  have eA : s.ack b m = { s with l := s.l.filter (fun x => !snGone b m x) } := by unfold SnS.ack; rw [if_pos hE]
  have hokA := hok.ack b m
  rw [eA] at hokA ⊢
  rw [eL]
  have ho1 := fun k e => own_lt hro (k := k) e
  have ho2 := fun k e => own_lt hrl (k := k) e
  have keep : ∀ k, k ≠ R → (wr.setCell ⟨R, 3, none⟩ (.slice A2 m2 c2)).heap[k]? = wr.heap[k]? := fun k hk => Below.heap_setCell _ _ _ _ (by simpa using hk)
  have lsO := (intElt.row_ls1 hro (by rw [List.length_map, hl1])).keep (w' := wr.setCell ⟨R, 3, none⟩ (.slice A2 m2 c2)) fun k hk => keep k (by have := ho1 k hk; omega)
  have hrl' : (wr.setCell ⟨R, 3, none⟩ (.slice A2 m2 c2)).ownsRow 0 38 3 (.slice A2 m2 c2) (s.l.filter (fun x => !snGone b m x)).length (srs csN (s.l.filter (fun x => !snGone b m x))) := by
    rw [hl2]
    exact owk (oww hrl (Nat.zero_le _)) fun k hk => keep k (by have := ho2 k hk; omega)
  have hsz : (wr.setCell ⟨R, 3, none⟩ (.slice A2 m2 c2)).heap.size = wr.heap.size := by simp [World.setCell]
  refine ⟨⟨fun k => (Value.slice A1 m1 c1).ownBlock = some k ∨ (k = R ∨ (Value.slice A2 m2 c2).ownBlock = some k), ⟨fun k => (Value.slice A1 m1 c1).ownBlock = some k, fun k => k = R ∨ (Value.slice A2 m2 c2).ownBlock = some k, fun k => Iff.rfl, fun k h3 h4 => ?_, ⟨fun k hk => by rw [hsz]; exact (ho1 k hk).2, lsO⟩, hokA, fun k hk => ?_, .inl rfl, .slice A2 m2 c2, hS.put 3 (.slice A2 m2 c2), hrl', fun k hk => .inr hk⟩, fun k hk => ?_⟩, (Chg.of_below hb).setCell h2 3 _⟩
  · rcases h4 with rfl | h4
    · have := ho1 k h3; omega
    · exact own_other hro hrl (by decide) h3 h4
  · rw [hsz]
    rcases hk with rfl | hk
    · exact hS.size_lt
    · exact (ho2 k hk).2
  · rcases hk with hk | rfl | hk
    · have := ho1 k hk; exact .inr (by omega)
    · exact .inl h2
    · have := ho2 k hk; exact .inr (by omega)
set_option maxRecDepth 100000 in
set_option maxHeartbeats 16000000 in
theorem psack_any {R : Nat} {s : SnS} (hn : s.l.length ≤ 9999) {base : Nat} (b m : Int) (hm : Wd m) : Acts 21 #[.pointer (some ⟨R, 0, none⟩), .agg #[.int .i64 b, .int .u64 m]] base (SnP R s) (fun v : Value => v) fun v => Star (LsP csI 1 3 v (snAkL s b m)) (SnP R (s.ack b m)) := by
  intro T w hP hb hs
  have hba := (Below.refl w.heap.size w).alloc (Nat.le_refl _) (.cells #[.int .i64 b, .int .u64 m] 47)
  have HAC := Lib.hid (psacc_any (hP.later hba) b)
  have hP' := hP
  have hop := hP.open_
  obtain ⟨h0, hRw, vL, h3, h4⟩ := hop
  have hTw : ∀ k, T k → k < w.heap.size := hP.2.1
  have hTR : T R := hP.2.2.1
  have HS3 := Lib.hid h3
  have d3 := h3.read 3
  simp [snC] at d3
  have HA1 := Lib.hid (fun (W : World) (hw : Below (w.alloc (.cells #[.int .i64 b, .int .u64 m] 47)).heap.size (w.alloc (.cells #[.int .i64 b, .int .u64 m] 47)) W) => hba.trans (hw.mono (by simp)))
  have hfr := Whole.fresh w 47 #[.int .i64 b, .int .u64 m]
  have HBM := Lib.hid (fun (W : World) (hw : Below (w.alloc (.cells #[.int .i64 b, .int .u64 m] 47)).heap.size (w.alloc (.cells #[.int .i64 b, .int .u64 m] 47)) W) => (by
    have h9 := hfr.later hw
    exact ⟨(h9.read 0).trans rfl, (h9.read 1).trans rfl⟩ : W.cell? ⟨w.heap.size, 0, none⟩ = some (.int .i64 b) ∧ W.cell? ⟨w.heap.size, 1, none⟩ = some (.int .u64 m)))
  have HL := Lib.hid (fun k (hk : k < s.l.length) => h4.sn hk)
  obtain ⟨A, c, rfl, hcl, _⟩ := h4.shape
  have HCD := Lib.hid (fun (W : World) (hw : Below w.heap.size w W) => (hw.cell (p := ⟨R, 3, none⟩) hRw).trans d3)
  have HNO0 := Lib.hid (fun (W : World) (hw : Below w.heap.size w W) (hE : snAkB s b = false) => (by
    have e1 : snAkL s b m = [] := by unfold snAkL; rw [hE]; rfl
    have e2 : s.ack b m = s := by unfold SnS.ack; rw [hE]; rfl
    rw [e1, e2]
    exact ⟨⟨T, ⟨fun _ => False, T, fun k => by simp, fun k hk => hk.elim, ⟨fun k hk => hk.elim, LsG.nil _ _⟩, hP'.later hw⟩, fun k hk => .inl hk⟩, Chg.of_below hw⟩ :
    (∃ T', Star (LsP csI 1 3 (.slice none 0 0) (snAkL s b m)) (SnP R (s.ack b m)) T' W ∧ ∀ j, T' j → T j ∨ w.heap.size ≤ j) ∧ Chg T w W))
  have HEND := Lib.hid (fun (wr : World) (A1 A2 : Option Addr) (c1 c2 m1 m2 : Nat) (hS : Whole wr R 56 (snC s (.slice A s.l.length c))) (hE : snAkB s b = true) hro hrl hl1 hl2 hbw => psack_end (R := R) (s := s) (b := b) (m := m) (T := T) (w := w) (wr := wr) (base := w.heap.size + 1) (A1 := A1) (A2 := A2) (c1 := c1) (c2 := c2) (m1 := m1) (m2 := m2) (by omega) h0 hTw hTR hS hE hro hrl hl1 hl2 hbw)
  clear hP hP' h0 h3 h4 d3 hb hs hfr hba hTR hTw hRw
  unfold Calm at *
  cases hE : snAkB s b
  · rw [hE] at HAC
    have HFN := Lib.hid (fun (W : World) (hw : Below (w.alloc (.cells #[.int .i64 b, .int .u64 m] 47)).heap.size (w.alloc (.cells #[.int .i64 b, .int .u64 m] 47)) W) => HNO0.out W (HA1.out W hw) hE)
    clear HNO0 HEND HL HCD HBM HA1 HS3 hcl hE
    go_enter Try.func21, Try.ntmps21
    go_wp2_with fail
    (with_reducible refine HAC.out.mono ?_); rintro e w1 ⟨rfl, hb1⟩
    have HF := Lib.hid (HFN.out w1 hb1)
    clear HFN HAC hb1
    go_wp2
    go_ret
    exact ⟨_, rfl, HF.out⟩
  · rw [hE] at HAC
    have HE := Lib.hid hE
    clear hE HNO0
    obtain ⟨s1, s2, s3, l⟩ := s
    simp only at hn HL hcl HEND HCD HS3 HE
    have HFY := Lib.hid (fun k (hk : k < l.length) (h : snGone b m l[k] = true) => filter_yes (snGone b m) l hk h)
    have HFN := Lib.hid (fun k (hk : k < l.length) (h : snGone b m l[k] = false) => filter_no (snGone b m) l hk h)
    have HGY := Lib.hid (fun k (hk : k < l.length) (h : snGone b m l[k] = false) => filter_yes (fun x => !snGone b m x) l hk (by rw [h]; rfl))
    have HGN := Lib.hid (fun k (hk : k < l.length) (h : snGone b m l[k] = true) => filter_no (fun x => !snGone b m x) l hk (by rw [h]; rfl))
    obtain ⟨n, hN⟩ : ∃ n, l.length = n := ⟨_, rfl⟩
    have HN := Lib.hid hN
    have hnn : n ≤ 99999 := by omega
    rw [hN] at HCD hcl HEND HS3
    clear hN hn hcl
    have HWm := Lib.hid hm
    clear hm
    go_enter Try.func21, Try.ntmps21
    go_wp2_with fail
    (with_reducible refine HAC.out.mono ?_); rintro e w1 ⟨rfl, hb1⟩
    have HY := Lib.hid hb1
    have dd := HCD.out w1 (HA1.out w1 hb1)
    clear HAC hb1
    go_wp2_with fail
    go_loopw [5, 6, 19] (fun s5 s6 s19 wr => ∃ (k m1 m2 : Nat) (A1 A2 : Option Addr) (c1 c2 : Nat), k ≤ n ∧ m1 ≤ k ∧ m2 ≤ k ∧ s19 = .int .i64 k ∧ s5 = .slice A1 m1 c1 ∧ s6 = .slice A2 m2 c2 ∧ Hid (((l.take k).filter (snGone b m)).length = m1 ∧ ((l.take k).filter (fun x => !snGone b m x)).length = m2) ∧
      Hid (wr.ownsRow (w.heap.size + 1) 3 1 (.slice A1 m1 c1) m1 (srs csI (((l.take k).filter (snGone b m)).map (·.i)))) ∧ Hid (wr.ownsRow (w.heap.size + 1) 38 3 (.slice A2 m2 c2) m2 (srs csN ((l.take k).filter (fun x => !snGone b m x)))) ∧ Hid (Below (w.heap.size + 1) (w.alloc (.cells #[.int .i64 b, .int .u64 m] 47)) wr)) (fun _ _ s19 _ => n - (intOf s19).toNat)
    case atStart => exact ⟨0, 0, 0, none, none, 0, 0, Nat.zero_le _, Nat.le_refl _, Nat.le_refl _, rfl, rfl, rfl, Lib.hid (by simp), Lib.hid (World.ownsRow_nil _ _ _ _), Lib.hid (World.ownsRow_nil _ _ _ _), Lib.hid (HY.out.mono (by simp))⟩
    case round =>
      obtain ⟨k, m1, m2, A1, A2, c1, c2, hk, hm1, hm2, rfl, rfl, rfl, HM, HRO, HRL, HW⟩ := hrel
      have HA3 := Lib.hid (fun (W : World) (hw : Below (w.heap.size + 1) (w.alloc (.cells #[.int .i64 b, .int .u64 m] 47)) W) => HA1.out W (hw.mono (by simp)))
      have HA4 := Lib.hid (fun (W : World) (hw : Below (w.heap.size + 1) (w.alloc (.cells #[.int .i64 b, .int .u64 m] 47)) W) => HBM.out W (hw.mono (by simp)))
      by_cases hlt : k < n
      · have hlt' : (k : Int) < n := by omega
        have hk0 : (0 : Int) ≤ k := by omega
        have hkl : k < l.length := by have := HN.out; omega
        obtain ⟨bb, off, c', e1, hlc, _, hbw, q0, q1, q2⟩ := HL.out k hkl
        obtain ⟨rfl, rfl⟩ : A = some ⟨bb, off, none⟩ ∧ c = c' := by simpa using e1
        have hW9 := HA3.out wr HW.out
        have g0 := (hW9.cell (p := ⟨bb, off + k * 3, none⟩) hbw).trans q0
        have g1 := (hW9.cell (p := ⟨bb, off + k * 3 + 1, none⟩) hbw).trans q1
        have g2 := (hW9.cell (p := ⟨bb, off + k * 3 + 2, none⟩) hbw).trans q2
        clear q0 q1 q2
        have hFY := HFY.out k hkl
        have hFN := HFN.out k hkl
        have hGY := HGY.out k hkl
        have hGN := HGN.out k hkl
        have hgone : snGone b m l[k] = (befB l[k].q b || hasB b m l[k].q) := rfl
        have HBF := Lib.hid (fun (W : World) => before_any l[k].q b W)
        have HHS := Lib.hid (fun (W : World) => has_any b m l[k].q HWm.out W)
        generalize l[k] = x at *
        obtain ⟨q0, i0, t0⟩ := x
        simp only at hFY hFN hGY hGN hgone g0 g1 g2 HBF HHS
        have hvb := (Below.refl wr.heap.size wr).alloc (Nat.le_refl _) (.cells #[.int .i64 q0, .int .i64 i0, .int .i64 t0] 38)
        have HVW := Lib.hid (Whole.fresh wr 38 #[.int .i64 q0, .int .i64 i0, .int .i64 t0])
        have HB1 := Lib.hid (HW.out.trans (hvb.mono (by have := HW.out.size; simp at this ⊢; omega)))
        replace HRO := Lib.hid (row_from HRO.out hvb)
        replace HRL := Lib.hid (row_from HRL.out hvb)
        obtain ⟨n0, n1⟩ := HA4.out _ HB1.out
        clear HL e1 HFY HFN HGY HGN HCD hlc HA1 HA3 HA4 HBM HY hvb HW hW9 dd
        generalize befB q0 b = B1 at *
        generalize hasB b m q0 = B2 at *
        cases B1
        · go_wp2_with fail
          (with_reducible refine (HBF.out _).mono ?_); rintro e w9 ⟨rfl, rfl⟩
          clear HBF
          cases B2
          · have HNO := Lib.hid (hFN hgone)
            have HNL := Lib.hid (hGY hgone)
            clear hFY hFN hGY hGN hgone
            go_wp2_with fail
            (with_reducible refine (HHS.out _).mono ?_); rintro e w2 ⟨rfl, hb2⟩
            clear HHS
            have hvw2 := HVW.out.later hb2
            have r0 : w2.cell? ⟨wr.heap.size, 0, none⟩ = some (.int .i64 q0) := (hvw2.read 0).trans rfl
            have r1 : w2.cell? ⟨wr.heap.size, 1, none⟩ = some (.int .i64 i0) := (hvw2.read 1).trans rfl
            have r2 : w2.cell? ⟨wr.heap.size, 2, none⟩ = some (.int .i64 t0) := (hvw2.read 2).trans rfl
            have HB := Lib.hid (HB1.out.trans (hb2.mono (by have := HB1.out.size; simp at this ⊢; omega)))
            have HRO1 := Lib.hid (row_from HRO.out hb2)
            have HRL1 := Lib.hid (row_from HRL.out hb2)
            clear hb2 hvw2 HVW HB1 HRO HRL g0 g1 g2
            obtain ⟨A3, c4, w3, hrun, hv3, hb3, hk3⟩ := snElt.app_new2 ⟨q0, i0, t0⟩ HRL1.out (by omega) (by have := HB.out.size; simp at this; omega)
            have HB2 := Lib.hid (HB.out.trans (hb3.mono (Nat.le_refl _)))
            have HRO2 := Lib.hid (show w3.ownsRow (w.heap.size + 1) 3 1 (.slice A1 m1 c1) m1 (srs csI (((l.take (k + 1)).filter (snGone b m)).map (·.i))) from by rw [HNO.out]; exact own_beside2 HRL1.out HRO1.out (by decide) hk3)
            have HRL2 := Lib.hid (show w3.ownsRow (w.heap.size + 1) 38 3 (.slice A3 (m2 + 1) c4) (m2 + 1) (srs csN ((l.take (k + 1)).filter (fun x => !snGone b m x))) from by rw [HNL.out]; exact hv3)
            have HLN := Lib.hid (show ((l.take (k + 1)).filter (snGone b m)).length = m1 ∧ ((l.take (k + 1)).filter (fun x => !snGone b m x)).length = m2 + 1 by rw [HNO.out, HNL.out, List.length_append, HM.out.2]; exact ⟨HM.out.1, rfl⟩)
            unfold csN at hrun
            clear hv3 hb3 hk3 HB HRO1 HRL1 HEND HNO HNL HM
            go_wp2_with (at_builtin; refine wpList_append_run rfl (.tmp 39) (.tmp 41) 39 rfl rfl rfl hrun ?_)
            go_roundw
            case rel => exact ⟨k + 1, m1, m2 + 1, A1, A3, c1, c4, by omega, by omega, by omega, by go_num, rfl, rfl, HLN, HRO2, HRL2, HB2⟩
            case measure => simp [intOf]; omega
          · have HNO := Lib.hid (hFY hgone)
            have HNL := Lib.hid (hGN hgone)
            clear hFY hFN hGY hGN hgone
            go_wp2_with fail
            (with_reducible refine (HHS.out _).mono ?_); rintro e w2 ⟨rfl, hb2⟩
            clear HHS
            have hvw2 := HVW.out.later hb2
            have r0 : w2.cell? ⟨wr.heap.size, 0, none⟩ = some (.int .i64 q0) := (hvw2.read 0).trans rfl
            have r1 : w2.cell? ⟨wr.heap.size, 1, none⟩ = some (.int .i64 i0) := (hvw2.read 1).trans rfl
            have r2 : w2.cell? ⟨wr.heap.size, 2, none⟩ = some (.int .i64 t0) := (hvw2.read 2).trans rfl
            have HB := Lib.hid (HB1.out.trans (hb2.mono (by have := HB1.out.size; simp at this ⊢; omega)))
            have HRO1 := Lib.hid (row_from HRO.out hb2)
            have HRL1 := Lib.hid (row_from HRL.out hb2)
            clear hb2 hvw2 HVW HB1 HRO HRL g0 g1 g2
            obtain ⟨A3, c4, w3, hrun, hv3, hb3, hk3⟩ := intElt.app_new2 i0 HRO1.out (by omega) (by have := HB.out.size; simp at this; omega)
            have HB2 := Lib.hid (HB.out.trans (hb3.mono (Nat.le_refl _)))
            have HRL2 := Lib.hid (show w3.ownsRow (w.heap.size + 1) 38 3 (.slice A2 m2 c2) m2 (srs csN ((l.take (k + 1)).filter (fun x => !snGone b m x))) from by rw [HNL.out]; exact own_beside2 HRO1.out HRL1.out (by decide) hk3)
            have HRO2 := Lib.hid (show w3.ownsRow (w.heap.size + 1) 3 1 (.slice A3 (m1 + 1) c4) (m1 + 1) (srs csI (((l.take (k + 1)).filter (snGone b m)).map (·.i))) from by rw [HNO.out, List.map_append]; exact hv3)
            have HLN := Lib.hid (show ((l.take (k + 1)).filter (snGone b m)).length = m1 + 1 ∧ ((l.take (k + 1)).filter (fun x => !snGone b m x)).length = m2 by rw [HNO.out, HNL.out, List.length_append, HM.out.1]; exact ⟨rfl, HM.out.2⟩)
            unfold csI at hrun
            clear hv3 hb3 hk3 HB HRO1 HRL1 HEND HNO HNL HM
            go_wp2_with (at_builtin; refine wpList_append_run rfl (.tmp 34) (.tmp 37) 22 rfl rfl rfl hrun ?_)
            go_roundw
            case rel => exact ⟨k + 1, m1 + 1, m2, A3, A2, c4, c2, by omega, by omega, by omega, by go_num, rfl, rfl, HLN, HRO2, HRL2, HB2⟩
            case measure => simp [intOf]; omega
        · have HNO := Lib.hid (hFY (hgone.trans (Bool.true_or _)))
          have HNL := Lib.hid (hGN (hgone.trans (Bool.true_or _)))
          clear hFY hFN hGY hGN hgone HHS
          go_wp2_with fail
          (with_reducible refine (HBF.out _).mono ?_); rintro e w9 ⟨rfl, rfl⟩
          clear HBF
          obtain ⟨w2, hw2⟩ : ∃ w2, wr.alloc (.cells #[.int .i64 q0, .int .i64 i0, .int .i64 t0] 38) = w2 := ⟨_, rfl⟩
          have hb2 : Below (wr.alloc (.cells #[.int .i64 q0, .int .i64 i0, .int .i64 t0] 38)).heap.size (wr.alloc (.cells #[.int .i64 q0, .int .i64 i0, .int .i64 t0] 38)) w2 := by rw [hw2]; exact Below.refl _ _
          clear n0 n1
          rw [hw2]
          clear hw2
          have hvw2 := HVW.out.later hb2
          have r0 : w2.cell? ⟨wr.heap.size, 0, none⟩ = some (.int .i64 q0) := (hvw2.read 0).trans rfl
          have r1 : w2.cell? ⟨wr.heap.size, 1, none⟩ = some (.int .i64 i0) := (hvw2.read 1).trans rfl
          have r2 : w2.cell? ⟨wr.heap.size, 2, none⟩ = some (.int .i64 t0) := (hvw2.read 2).trans rfl
          have HB := Lib.hid (HB1.out.trans (hb2.mono (by have := HB1.out.size; simp at this ⊢; omega)))
          have HRO1 := Lib.hid (row_from HRO.out hb2)
          have HRL1 := Lib.hid (row_from HRL.out hb2)
          clear hb2 hvw2 HVW HB1 HRO HRL g0 g1 g2
          obtain ⟨A3, c4, w3, hrun, hv3, hb3, hk3⟩ := intElt.app_new2 i0 HRO1.out (by omega) (by have := HB.out.size; simp at this; omega)
          have HB2 := Lib.hid (HB.out.trans (hb3.mono (Nat.le_refl _)))
          have HRL2 := Lib.hid (show w3.ownsRow (w.heap.size + 1) 38 3 (.slice A2 m2 c2) m2 (srs csN ((l.take (k + 1)).filter (fun x => !snGone b m x))) from by rw [HNL.out]; exact own_beside2 HRO1.out HRL1.out (by decide) hk3)
          have HRO2 := Lib.hid (show w3.ownsRow (w.heap.size + 1) 3 1 (.slice A3 (m1 + 1) c4) (m1 + 1) (srs csI (((l.take (k + 1)).filter (snGone b m)).map (·.i))) from by rw [HNO.out, List.map_append]; exact hv3)
          have HLN := Lib.hid (show ((l.take (k + 1)).filter (snGone b m)).length = m1 + 1 ∧ ((l.take (k + 1)).filter (fun x => !snGone b m x)).length = m2 by rw [HNO.out, HNL.out, List.length_append, HM.out.1]; exact ⟨rfl, HM.out.2⟩)
          unfold csI at hrun
          clear hv3 hb3 hk3 HB HRO1 HRL1 HEND HNO HNL HM
          go_wp2_with (at_builtin; refine wpList_append_run rfl (.tmp 34) (.tmp 37) 22 rfl rfl rfl hrun ?_)
          go_roundw
          case rel => exact ⟨k + 1, m1 + 1, m2, A3, A2, c4, c2, by omega, by omega, by omega, by go_num, rfl, rfl, HLN, HRO2, HRL2, HB2⟩
          case measure => simp [intOf]; omega
      · obtain rfl : k = n := by omega
        have hSr := HS3.out.later (HA3.out wr HW.out)
        have z3 := hSr.free 3
        have y3 := hSr.read 3
        simp [snC] at y3
        have ht : l.take k = l := List.take_of_length_le (by rw [HN.out]; exact Nat.le_refl _)
        have hro := HRO.out
        have hrl := HRL.out
        have hmm := HM.out
        rw [ht] at hro hrl hmm
        have HF := Lib.hid (HEND.out wr A1 A2 c1 c2 m1 m2 hSr HE.out hro hrl hmm.1 hmm.2 (HA3.out wr HW.out))
        clear hro hrl hmm ht hSr HRO HRL HM HEND HL HFY HFN HGY HGN HCD HBM HA1 HA3 HA4 HY HW dd
        go_wp2
        go_ret
        exact ⟨_, rfl, HF.out⟩
end Go.Proofs.Ytglhaclehdkagaa

