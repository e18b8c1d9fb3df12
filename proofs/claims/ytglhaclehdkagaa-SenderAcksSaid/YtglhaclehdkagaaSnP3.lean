/-
  Layer 16: contracts of slices.Clone and of the program's Pending, Exhausted, Ack. Written by gen_snp3.py.
-/
import Derived.Test.YtglhaclehdkagaaSnP2
import Derived.Deep.LoopGhost
import Derived.LoopTactic
import Derived.Lib.SliceRun
namespace Go.Proofs.Ytglhaclehdkagaa
open Go.ChangeShapes Go.WideShapes Go.ChangeAt Go.RowKit
set_option linter.unusedVariables false

set_option maxHeartbeats 4000000 in
theorem snclone_any {v : Value} {l : List SnE} {T : Nat → Prop} {w : World} (hn : l.length ≤ 100000) (hT : ∀ k, T k → k < w.heap.size) (h : LsG csN 3 38 w T v l) : Calls Try.prog 32 #[v] w (GotLs csN 3 38 l w) := by
  have q1 : ∀ (w : World) (a : Option Addr) (n c n' c' : Nat), (binOp .eql 39 (.slice a n c) (.slice none n' c')).run Try.prog w = .ok (.bool a.isNone) w := fun w a n c n' c' => Lib.run_eql_slice_nil w _ _ a n c n' c' Try.underlying39
  have h' := h
  obtain ⟨A, c, rfl, hlc, hcm, h4⟩ := h
  rcases h4 with ⟨rfl, rfl⟩ | ⟨b, off, cur, rfl, _⟩
  · obtain rfl : l = [] := List.eq_nil_of_length_eq_zero (by omega)
    have HF := Lib.hid (show GotLs csN 3 38 ([] : List SnE) w (.returned (.slice none 0 0)) w from ⟨_, rfl, LsG.nil _ _, Below.refl _ _⟩)
    clear h' hn hT hlc hcm
    rw [List.length_nil]
    go_enter Try.func32, Try.ntmps32
    go_wp2
    go_ret
    exact HF.out
  · obtain ⟨A, c2, w2, hrun, hv2, hb2⟩ := snElt.copy h' hT hn
    have HF := Lib.hid (show GotLs csN 3 38 l w (.returned (.slice A l.length c2)) w2 from ⟨_, rfl, snElt.row_ls hv2 rfl, hb2⟩)
    clear h' hn hT hlc hcm hv2 hb2
    go_enter Try.func32, Try.ntmps32
    go_wp2_with (at_builtin; refine wpList_append_run rfl (.tmp 5) (.tmp 6) 39 rfl rfl rfl hrun ?_)
    go_ret
    exact HF.out
set_option maxHeartbeats 4000000 in
theorem pspend_any {R : Nat} {s : SnS} {T : Nat → Prop} {w : World} (hn : s.l.length ≤ 9999) (h : SnP R s T w) : Calls Try.prog 17 #[.pointer (some ⟨R, 0, none⟩)] w (GotLs csN 3 38 s.l w) := by
  obtain ⟨h0, hR, vL, h3, h4⟩ := h.open_
  have d3 := h3.read 3
  simp [snC] at d3
  have HC := Lib.hid (snclone_any (by omega) (fun k hk => hk.2.1) h4)
  clear h h0 hR h3 h4
  unfold GotLs at *
  generalize s.l = l at *
  go_enter Try.func17, Try.ntmps17
  go_wp2_with fail
  (with_reducible refine HC.out.mono ?_); rintro e w2 ⟨v, rfl, hl, hb⟩
  have HF := Lib.hid (And.intro hl hb)
  clear hl hb HC d3
  go_wp2
  go_ret
  exact ⟨v, rfl, HF.out⟩
/-! ### Exhausted -/
set_option maxRecDepth 100000 in
set_option maxHeartbeats 8000000 in
theorem psexh_any {R : Nat} {s : SnS} {T : Nat → Prop} {w : World} (hn : s.l.length ≤ 9999) (h : SnP R s T w) : Calls Try.prog 18 #[.pointer (some ⟨R, 0, none⟩)] w (GotLs csN 3 38 (snExh s) w) := by
  have HX := Lib.hid (fun (x : SnE) (W : World) (hw : Below w.heap.size w W) => psexd_any (h.later hw) x)
  have HEX := Lib.hid (fun (k : Nat) (hk : k < s.l.length) => h.1.ok.exh (List.getElem_mem hk))
  obtain ⟨h0, hR, vL, h3, h4⟩ := h.open_
  have d3 := h3.read 3
  simp [snC] at d3
  have HL := Lib.hid (fun k (hk : k < s.l.length) => h4.sn hk)
  obtain ⟨A, c, rfl, hcl, _⟩ := h4.shape
  clear h h0 h3 h4
  unfold GotLs snExh
  obtain ⟨s1, tr, s3, l⟩ := s
  simp only at hn d3 HL hcl HX HEX ⊢
  have HY := Lib.hid (fun k (hk : k < l.length) (h : decide (tr ≤ l[k].t) = true) => filter_yes (fun x : SnE => decide (tr ≤ x.t)) l hk h)
  have HNO := Lib.hid (fun k (hk : k < l.length) (h : decide (tr ≤ l[k].t) = false) => filter_no (fun x : SnE => decide (tr ≤ x.t)) l hk h)
  obtain ⟨n, hN⟩ : ∃ n, l.length = n := ⟨_, rfl⟩
  have HN := Lib.hid hN
  rw [hN] at d3
  have hnn : n ≤ 99999 := by omega
  clear hN hn hcl
  unfold Calm at HX
  go_enter Try.func18, Try.ntmps18
  go_wp2_with fail
  go_loopw [3, 11] (fun s3 s11 wr => ∃ (k m : Nat) (A1 : Option Addr) (c1 : Nat), k ≤ n ∧ m ≤ k ∧ s11 = .int .i64 k ∧ s3 = .slice A1 m c1 ∧ Hid (((l.take k).filter (fun x => decide (tr ≤ x.t))).length = m) ∧ Hid (wr.ownsRow w.heap.size 38 3 (.slice A1 m c1) m (srs csN ((l.take k).filter (fun x => decide (tr ≤ x.t))))) ∧ Hid (Below w.heap.size w wr)) (fun _ s11 _ => n - (intOf s11).toNat)
  case atStart => exact ⟨0, 0, none, 0, Nat.zero_le _, Nat.le_refl _, rfl, rfl, Lib.hid (by simp), Lib.hid (show w.ownsRow w.heap.size 38 3 (.slice none 0 0) 0 (srs csN []) from World.ownsRow_nil _ _ _ _), Lib.hid (Below.refl _ _)⟩
  case round =>
    obtain ⟨k, m, A1, c1, hk, hmk, rfl, rfl, HM, HROW, HW⟩ := hrel
    by_cases hlt : k < n
    · have hlt' : (k : Int) < n := by omega
      have hk0 : (0 : Int) ≤ k := by omega
      have hkl : k < l.length := by have := HN.out; omega
      obtain ⟨b, off, c', e1, hlc, _, hbw, q0, q1, q2⟩ := HL.out k hkl
      obtain ⟨rfl, rfl⟩ : A = some ⟨b, off, none⟩ ∧ c = c' := by simpa using e1
      have g0 := (HW.out.cell (p := ⟨b, off + k * 3, none⟩) hbw).trans q0
      have g1 := (HW.out.cell (p := ⟨b, off + k * 3 + 1, none⟩) hbw).trans q1
      have g2 := (HW.out.cell (p := ⟨b, off + k * 3 + 2, none⟩) hbw).trans q2
      have hex := HEX.out k hkl
      have hY := HY.out k hkl
      have hNO := HNO.out k hkl
      generalize l[k] = x at *
      obtain ⟨q0, i0, t0⟩ := x
      simp only at hY hNO g0 g1 g2 hex
      clear q0 q1 q2 HL e1 HY HNO HEX hlc
      have hvb := (Below.refl wr.heap.size wr).alloc (Nat.le_refl _) (.cells #[.int .i64 q0, .int .i64 i0, .int .i64 t0] 38)
      have hvw := Whole.fresh wr 38 #[.int .i64 q0, .int .i64 i0, .int .i64 t0]
      have HB1 := Lib.hid (HW.out.trans (hvb.mono HW.out.size))
      have HR1 := Lib.hid (row_from HROW.out hvb)
      have KX := Lib.hid (HX.out ⟨q0, i0, t0⟩ _ HB1.out)
      rw [hex] at KX
      have HVW := Lib.hid hvw
      clear hvb hvw HROW HW hex HX
      cases hdec : decide (tr ≤ t0)
      · rw [hdec] at KX
        have HNX := Lib.hid (hNO hdec)
        clear hY hNO hdec
        go_wp2_with fail
        (with_reducible refine KX.out.mono ?_); rintro e w2 ⟨rfl, hb2⟩
        have HB2 := Lib.hid (HB1.out.trans (hb2.mono HB1.out.size))
        have HR2 := Lib.hid (show w2.ownsRow w.heap.size 38 3 (.slice A1 m c1) m (srs csN ((l.take (k + 1)).filter (fun x => decide (tr ≤ x.t)))) from by rw [HNX.out]; exact row_from HR1.out hb2)
        have HLN := Lib.hid (show ((l.take (k + 1)).filter (fun x => decide (tr ≤ x.t))).length = m by rw [HNX.out, HM.out])
        clear hb2 KX HB1 HR1 HVW g0 g1 g2
        go_wp2
        go_roundw
        case rel => exact ⟨k + 1, m, A1, c1, by omega, by omega, by go_num, rfl, HLN, HR2, HB2⟩
        case measure => simp [intOf]; omega
      · rw [hdec] at KX
        have HNX := Lib.hid (hY hdec)
        clear hY hNO hdec
        go_wp2_with fail
        (with_reducible refine KX.out.mono ?_); rintro e w2 ⟨rfl, hb2⟩
        have HB2 := Lib.hid (HB1.out.trans (hb2.mono HB1.out.size))
        have hvw2 := HVW.out.later hb2
        have r0 : w2.cell? ⟨wr.heap.size, 0, none⟩ = some (.int .i64 q0) := (hvw2.read 0).trans rfl
        have r1 : w2.cell? ⟨wr.heap.size, 1, none⟩ = some (.int .i64 i0) := (hvw2.read 1).trans rfl
        have r2 : w2.cell? ⟨wr.heap.size, 2, none⟩ = some (.int .i64 t0) := (hvw2.read 2).trans rfl
        obtain ⟨A2, c2, w3, hrun, hv2, hb3⟩ := snElt.app_new ⟨q0, i0, t0⟩ (row_from HR1.out hb2) (by omega) HB2.out.size
        have HB3 := Lib.hid (HB2.out.trans hb3)
        have HR2 := Lib.hid (show w3.ownsRow w.heap.size 38 3 (.slice A2 (m + 1) c2) (m + 1) (srs csN ((l.take (k + 1)).filter (fun x => decide (tr ≤ x.t)))) from by rw [HNX.out]; exact hv2)
        have HLN := Lib.hid (show ((l.take (k + 1)).filter (fun x => decide (tr ≤ x.t))).length = m + 1 by rw [HNX.out, List.length_append, HM.out]; rfl)
        unfold csN at hrun
        clear hb2 KX HB1 HR1 HVW g0 g1 g2 hv2 hb3 hvw2 HB2
        go_wp2_with (at_builtin; refine wpList_append_run rfl (.tmp 18) (.tmp 20) 39 rfl rfl rfl hrun ?_)
        go_roundw
        case rel => exact ⟨k + 1, m + 1, A2, c2, by omega, by omega, by go_num, rfl, HLN, HR2, HB3⟩
        case measure => simp [intOf]; omega
    · obtain rfl : k = n := by omega
      have HF := Lib.hid (show ∃ v, Ending.returned (.slice A1 m c1) = .returned v ∧ LsG csN 3 38 wr (fun b => w.heap.size ≤ b ∧ b < wr.heap.size) v (l.filter (fun x => decide (tr ≤ x.t))) ∧ Below w.heap.size w wr from ⟨_, rfl, by
        have h9 := snElt.row_ls HROW.out HM.out.symm
        rw [List.take_of_length_le (by rw [HN.out]; exact Nat.le_refl _)] at h9
        exact h9, HW.out⟩)
      clear HROW HM HW HL HY HNO HX HEX
      go_wp2
      go_ret
      exact HF.out
end Go.Proofs.Ytglhaclehdkagaa

