/-
  Layer 10: contract of the reference's AddFlow.
-/
import Derived.Test.YtgojbomdkdlclaaFlRef3
namespace Go.Proofs.Ytgojbomdkdlclaa
open Go.ChangeShapes Go.WideShapes Go.ChangeAt Go.RowKit
set_option linter.unusedVariables false

theorem Below.drewn {w : World} (q : Nat) : Below w.heap.size w (w.drewN q) := Below_drewN (Below.refl _ _) q
theorem hs_lt {t : Tb} {s : Int} (h : hsB t s = true) : 0 ≤ s ∧ s < t.S.length := by
  unfold hsB at h; simpa using h
theorem hs_no {t : Tb} {s : Int} (h : hsB t s = false) : s < 0 ∨ (0 ≤ s ∧ t.S.length ≤ s) := by
  unfold hsB at h
  rcases Int.lt_or_le s 0 with h1 | h1
  · exact .inl h1
  · rw [decide_eq_true h1, Bool.true_and, decide_eq_false_iff_not] at h; omega
set_option maxRecDepth 100000 in
set_option maxHeartbeats 4000000 in
theorem raddFlow_any {C R : Nat} {S : Nat → Prop} {t : Tb} {w : World} (h : RO C R S t w) (s x : Int) :
    Calls Try.prog 25 #[.pointer (some ⟨R, 0, none⟩), .int .i64 s, .int .i64 x] w (RAns C R S (afT t s x) (.tuple #[.int .i64 (afX t s x), .int .i64 (afE t s x)]) w) := by
  have HW := goodWeight_any x w
  have HST := Lib.hid (fun x w' (hb : Below w.heap.size w w') => RAns.stay (x := x) h hb)
  have HT := Lib.hid ((TbOk.addF h.1 s x))
  have HTO := Lib.hid (fun q => rtotal_any (h.below (Below.drewn q)))
  have hlo := h.lo
  obtain ⟨h0, ⟨vS, vF, vG, h1, hS⟩, hO⟩ := h
  obtain ⟨c0, c1, c2, c3, c4, f2, f3, f4⟩ := h1.cells
  have hf := h0.few
  obtain ⟨A1, c1', rfl⟩ := ow_shape h1.rowS
  cases k1 : hsB t s
  · obtain ⟨e1, e2, e3⟩ := af_6 (w := x) k1
    rw [e1, e2, e3]
    have HF := Lib.hid (fun x => HST.out x w (Below.refl _ _))
    have hcs := hs_no k1
    generalize t.S.length = m at *
    clear e1 e2 e3 k1 HW h1 h0 c0 c1 c3 c4 HST
    rcases hcs with z | ⟨z, z1⟩
    all_goals
      go_enter Try.func25, Try.ntmps25
      go_wp2
      go_ret2
      exact HF.out _
  obtain ⟨s0, s1⟩ := hs_lt k1
  have s0' : ¬ s < 0 := by omega
  have s1' : ¬ (t.S.length : Int) ≤ s := by omega
  cases k2 : gwB x
  · obtain ⟨e1, e2, e3⟩ := af_1 k1 k2
    rw [e1, e2, e3]
    rw [k2] at HW
    have HW := Lib.hid HW
    have HF := Lib.hid (fun x => HST.out x w (Below.refl _ _))
    clear e1 e2 e3 k1 k2 h1 h0 c0 c1 c3 c4 HST
    go_enter Try.func25, Try.ntmps25
    go_wp2_with fail
    (with_reducible refine HW.out.mono ?_); rintro e w' ⟨rfl, rfl⟩
    go_wp2
    go_ret2
    exact HF.out _
  rw [k2] at HW
  have HW := Lib.hid HW
  obtain ⟨A, c, rfl⟩ := ow_shape h1.rowF
  have hx := gw_yes k2
  have hg := h0.sums
  by_cases k3 : 32 ≤ t.F.length
  · obtain ⟨e1, e2, e3⟩ := af_4 k1 k2 k3
    rw [e1, e2, e3]
    have HF := Lib.hid (fun x => HST.out x w (Below.refl _ _))
    have k4 : (32 : Int) ≤ t.F.length := by omega
    clear e1 e2 e3 k1 k2 h1 h0 c0 c1 c4 k3 hf HST
    go_enter Try.func25, Try.ntmps25
    go_wp2_with fail
    (with_reducible refine HW.out.mono ?_); rintro e w' ⟨rfl, rfl⟩
    go_wp2
    go_ret2
    exact HF.out _
  have k4 : ¬ (32 : Int) ≤ t.F.length := by omega
  have hwr : IntKind.i64.wrap (t.tot + x) = t.tot + x := IntWalk.i64_in _ (by omega)
  by_cases k5 : t.cap < t.tot + x
  · obtain ⟨e1, e2, e3⟩ := af_12 k1 k2 k3 k5
    rw [e1, e2, e3]
    have hd : decide (t.cap < t.tot + x) = true := decide_eq_true k5
    have HF := Lib.hid (fun x q => HST.out x (w.drewN q) (Below.drewn q))
    generalize t.tot = T at *
    generalize t.cap = cp at *
    clear e1 e2 e3 k1 k2 h1 h0 c1 c4 k5 HST
    go_enter Try.func25, Try.ntmps25
    go_wp2_with fail
    (with_reducible refine HW.out.mono ?_); rintro e w' ⟨rfl, rfl⟩
    go_wp2_with fail
    go_quiet ((go_at_call 34; exact Calls.quiet_of_same ((HTO.out _).mono fun _ _ h => ⟨h.1, h.2.symm⟩)))
    go_wp2
    go_ret2
    exact HF.out _ _
  · obtain ⟨e1, e2, e3⟩ := af_0 k1 k2 k3 k5
    rw [e1, e2]
    rw [e3] at HT ⊢
    have hd : decide (t.cap < t.tot + x) = false := decide_eq_false k5
    have HALL := Lib.hid (fun w2 (hb : Below w.heap.size w w2) => h1.appF hb (by omega) (newF t s x))
    have HC : C ≤ w.heap.size := by omega
    have hlG := Lib.hid h0.len
    have hwl : IntKind.i64.wrap ((t.F.length : Int) + 1 - 1) = t.F.length := by rw [show (t.F.length : Int) + 1 - 1 = t.F.length by omega]; exact IntWalk.i64_in _ (by omega)
    generalize hT0 : t.tot = T at *
    generalize hcp : t.cap = cp at *
    clear e1 e2 e3 k1 k2 h1 c1 c4 k5 HST hT0
    go_enter Try.func25, Try.ntmps25
    go_wp2_with fail
    (with_reducible refine HW.out.mono ?_); rintro e w' ⟨rfl, rfl⟩
    go_wp2_with fail
    go_quiet ((go_at_call 34; exact Calls.quiet_of_same ((HTO.out _).mono fun _ _ h => ⟨h.1, h.2.symm⟩)))
    go_wp2_with fail
    obtain ⟨A2, c2', w3, HA⟩ := HALL.out _ (Below.drewn nq).drew
    have a2 := HA.q3
    have a3 := HA.qf
    have d3 := fun (o : Obj) => cell_alloc_of (w := w.drewN (nq + 1)) c3 o
    have HA := Lib.hid HA
    refine wp_region_any (by kernel_rfl) ?_
    try (change wpAny _ _ _ _ _ _ _ (World.drew _))
    refine wpAny_take (i := 0) (v := ?_) rfl (by kernel_rfl) (by kernel_rfl) (by kernel_rfl) (fun _ _ _ h => h) (Or.inl ⟨by rfl, ?_⟩) ?_; rotate_left 1; focus (intro w; go_simp; try with_reducible rfl)
    refine wpAny_take (i := 1) (v := ?_) rfl (by kernel_rfl) (by kernel_rfl) (by kernel_rfl) (fun _ _ _ h => h) (Or.inl ⟨by rfl, ?_⟩) ?_; rotate_left 1; focus (intro w; go_simp; try with_reducible rfl)
    refine wpAny_take (i := 2) (v := ?_) rfl (by kernel_rfl) (by kernel_rfl) (by kernel_rfl) (fun _ _ _ h => h) (Or.inl ⟨by rfl, ?_⟩) ?_; rotate_left 1; focus (intro w; go_simp; try with_reducible rfl)
    refine wpAny_take (i := 3) (v := ?_) rfl (by kernel_rfl) (by kernel_rfl) (by kernel_rfl) (fun _ _ _ h => h) (Or.inl ⟨by rfl, ?_⟩) ?_; rotate_left 1; focus (intro w; go_simp; try with_reducible rfl)
    refine wpAny_take (i := 5) (v := ?_) rfl (by kernel_rfl) (by kernel_rfl) (by kernel_rfl) (fun _ _ _ h => h) (Or.inl ⟨by rfl, ?_⟩) ?_; rotate_left 1; focus (intro w; go_simp; try with_reducible rfl)
    refine wpAny_take (i := 6) (v := ?_) rfl (by kernel_rfl) (by kernel_rfl) (by kernel_rfl) (fun _ _ _ h => h) (Or.inl ⟨by rfl, ?_⟩) ?_; rotate_left 1; focus (intro w; go_simp; try with_reducible rfl)
    refine wpAny_take (i := 7) (v := ?_) rfl (by kernel_rfl) (by kernel_rfl) (by kernel_rfl) (fun _ _ _ h => h) (Or.inl ⟨by rfl, ?_⟩) ?_; rotate_left 1; focus (intro w; go_simp; try with_reducible rfl)
    refine wpAny_take (i := 10) (v := ?_) rfl (by kernel_rfl) (by kernel_rfl) (by kernel_rfl) (fun _ _ _ h => h) (Or.inl ⟨by rfl, ?_⟩) ?_; rotate_left 1; focus (intro w; go_simp; try with_reducible rfl)
    refine wpAny_take (i := 11) (v := ?_) rfl (by kernel_rfl) (by kernel_rfl) (by kernel_rfl) (fun _ _ _ h => h) (Or.inl ⟨by rfl, ?_⟩) ?_; rotate_left 1; focus (intro w; go_simp; try with_reducible rfl)
    refine wpAny_ready (rs := [4, 8]) (by kernel_rfl) (by simp) ?_
    refine AllReady.cons rfl (fun K hK => ?_) (AllReady.cons rfl (fun K hK => ?_) AllReady.nil)
    · go_simp; refine hK _ _ ?_; clear hK K
      refine wpAny_ready (rs := [8]) (by kernel_rfl) (by simp) ?_
      refine AllReady.cons rfl (fun K hK => ?_) AllReady.nil
      go_simp; refine hK _ _ ?_; clear hK K
      refine wpAny_take (i := 9) (v := ?_) rfl (by kernel_rfl) (by kernel_rfl) (by kernel_rfl) (fun _ _ _ h => h) (Or.inl ⟨by rfl, ?_⟩) ?_; rotate_left 1; focus (intro w; go_simp; try with_reducible rfl)
      refine wpAny_take (i := 12) (v := ?_) rfl (by kernel_rfl) (by kernel_rfl) (by kernel_rfl) (fun _ _ _ h => h) (Or.inl ⟨by rfl, ?_⟩) ?_; rotate_left 1; focus (intro w; go_simp; try with_reducible rfl)
      refine wpAny_ready (rs := [13]) (by kernel_rfl) (by simp) ?_
      refine AllReady.cons rfl (fun K hK => ?_) AllReady.nil
      go_simp; refine hK _ _ ?_; clear hK K
      refine wpAny_ready (rs := [14]) (by kernel_rfl) (by simp) ?_
      refine AllReady.cons rfl (fun K hK => ?_) AllReady.nil
      rw [if_pos (by rfl)]; refine wp_append_one (.tmp 45) (.tmp 54) 44 rfl rfl rfl HA.out.app ?_; refine hK _ _ ?_; clear hK K
      refine wpAny_take (i := 15) (v := ?_) rfl (by kernel_rfl) (by kernel_rfl) (by kernel_rfl) (fun _ _ _ h => h) (Or.inl ⟨by rfl, ?_⟩) ?_; rotate_left 1; focus (intro w; go_simp; try with_reducible rfl)
      refine wpAny_take (i := 16) (v := ?_) rfl (by kernel_rfl) (by kernel_rfl) (by kernel_rfl) (fun _ _ _ h => h) (Or.inl ⟨by rfl, ?_⟩) ?_; rotate_left 1; focus (intro w; go_simp; try with_reducible rfl)
      refine wpAny_ready (rs := [17]) (by kernel_rfl) (by simp) ?_
      refine AllReady.cons rfl (fun K hK => ?_) AllReady.nil
      go_simp; refine hK _ _ ?_; clear hK K
      refine wpAny_done (by kernel_rfl) ?_ _
      have c4 := HA.out.rw_.cells.2.2.2.2.1
      have HROW := Lib.hid HA.out.rw_.rowG
      have hsz := HA.out.chg.size
      have hcl := newCells (w3.setCell ⟨R, 3, none⟩ (.slice A2 (t.F.length + 1) c2')) (csB false) 4
      rw [show (w3.setCell ⟨R, 3, none⟩ (.slice A2 (t.F.length + 1) c2')).heap.size = w3.heap.size by simp [World.setCell]] at hcl
      have HCL := Lib.hid hcl
      clear hcl
      go_wp2_with (at_builtin; go_loud (refine wpList_append_one rfl (.tmp 62) (.tmp 63) 59 rfl Try.underlying59 info_boo rfl (by decide) (HROW.out.alloc (.cells #[.bool false] 4)) rfl ⟨w3.heap.size, 0, none⟩ rfl (csB_len false) HCL.out (csB_one _) (show t.G.length ≤ 100000 by have := hlG.out; omega) (by decide) (by simp [World.setCell] at hsz ⊢; omega) ?_); intro v2 w5 he2 hg2 hb2; obtain ⟨A3, c3', rfl⟩ := ow_shape he2; have hW := HA.out.rw_; have q1 := hW.after ((Below.refl _ _).alloc (Nat.le_refl _) (.cells #[.bool false] 4)) hg2 hW.apart.2.2.1; have d3 := (blk5 (q1.trans hW.blk)).2.2.2.1; have d4 := (blk5 (q1.trans hW.blk)).2.2.2.2.1; have df := (blk5 (q1.trans hW.blk)).2.2.2.2.2 4; have HE2 := Lib.hid he2; have HG2 := Lib.hid hg2; have HB2 := Lib.hid hb2; clear he2 hg2 hb2 q1 hW)
      rw [← srs_snoc] at HE2
      obtain ⟨p1, p2, p3⟩ := HA.out.rw_.pushG (t' := ⟨cp, t.rt, t.S, t.F ++ [newF t s x], t.G ++ [false]⟩) ((Below.refl _ _).alloc (Nat.le_refl _) _) HG2.out HB2.out (by simpa using HE2.out) rfl rfl rfl rfl
      have HF := Lib.hid (RAns.done (x := .tuple #[.int .i64 t.F.length, .int .i64 0]) hO hS HT.out p1 (HA.out.chg.join p2 HA.out.foot) (fun k hk => by
        rcases p3 k hk with h | h
        · exact HA.out.foot k h
        · exact .inr (Nat.le_trans hsz h)))
      go_ret2
      exact HF.out
    · go_simp; refine hK _ _ ?_; clear hK K
      refine wpAny_take (i := 9) (v := ?_) rfl (by kernel_rfl) (by kernel_rfl) (by kernel_rfl) (fun _ _ _ h => h) (Or.inl ⟨by rfl, ?_⟩) ?_; rotate_left 1; focus (intro w; go_simp; try with_reducible rfl)
      refine wpAny_take (i := 12) (v := ?_) rfl (by kernel_rfl) (by kernel_rfl) (by kernel_rfl) (fun _ _ _ h => h) (Or.inl ⟨by rfl, ?_⟩) ?_; rotate_left 1; focus (intro w; go_simp; try with_reducible rfl)
      refine wpAny_ready (rs := [4, 13]) (by kernel_rfl) (by simp) ?_
      refine AllReady.cons rfl (fun K hK => ?_) (AllReady.cons rfl (fun K hK => ?_) AllReady.nil)
      · go_simp; refine hK _ _ ?_; clear hK K
        refine wpAny_ready (rs := [13]) (by kernel_rfl) (by simp) ?_
        refine AllReady.cons rfl (fun K hK => ?_) AllReady.nil
        go_simp; refine hK _ _ ?_; clear hK K
        refine wpAny_ready (rs := [14]) (by kernel_rfl) (by simp) ?_
        refine AllReady.cons rfl (fun K hK => ?_) AllReady.nil
        rw [if_pos (by rfl)]; refine wp_append_one (.tmp 45) (.tmp 54) 44 rfl rfl rfl HA.out.app ?_; refine hK _ _ ?_; clear hK K
        refine wpAny_take (i := 15) (v := ?_) rfl (by kernel_rfl) (by kernel_rfl) (by kernel_rfl) (fun _ _ _ h => h) (Or.inl ⟨by rfl, ?_⟩) ?_; rotate_left 1; focus (intro w; go_simp; try with_reducible rfl)
        refine wpAny_take (i := 16) (v := ?_) rfl (by kernel_rfl) (by kernel_rfl) (by kernel_rfl) (fun _ _ _ h => h) (Or.inl ⟨by rfl, ?_⟩) ?_; rotate_left 1; focus (intro w; go_simp; try with_reducible rfl)
        refine wpAny_ready (rs := [17]) (by kernel_rfl) (by simp) ?_
        refine AllReady.cons rfl (fun K hK => ?_) AllReady.nil
        go_simp; refine hK _ _ ?_; clear hK K
        refine wpAny_done (by kernel_rfl) ?_ _
        have c4 := HA.out.rw_.cells.2.2.2.2.1
        have HROW := Lib.hid HA.out.rw_.rowG
        have hsz := HA.out.chg.size
        have hcl := newCells (w3.setCell ⟨R, 3, none⟩ (.slice A2 (t.F.length + 1) c2')) (csB false) 4
        rw [show (w3.setCell ⟨R, 3, none⟩ (.slice A2 (t.F.length + 1) c2')).heap.size = w3.heap.size by simp [World.setCell]] at hcl
        have HCL := Lib.hid hcl
        clear hcl
        go_wp2_with (at_builtin; go_loud (refine wpList_append_one rfl (.tmp 62) (.tmp 63) 59 rfl Try.underlying59 info_boo rfl (by decide) (HROW.out.alloc (.cells #[.bool false] 4)) rfl ⟨w3.heap.size, 0, none⟩ rfl (csB_len false) HCL.out (csB_one _) (show t.G.length ≤ 100000 by have := hlG.out; omega) (by decide) (by simp [World.setCell] at hsz ⊢; omega) ?_); intro v2 w5 he2 hg2 hb2; obtain ⟨A3, c3', rfl⟩ := ow_shape he2; have hW := HA.out.rw_; have q1 := hW.after ((Below.refl _ _).alloc (Nat.le_refl _) (.cells #[.bool false] 4)) hg2 hW.apart.2.2.1; have d3 := (blk5 (q1.trans hW.blk)).2.2.2.1; have d4 := (blk5 (q1.trans hW.blk)).2.2.2.2.1; have df := (blk5 (q1.trans hW.blk)).2.2.2.2.2 4; have HE2 := Lib.hid he2; have HG2 := Lib.hid hg2; have HB2 := Lib.hid hb2; clear he2 hg2 hb2 q1 hW)
        rw [← srs_snoc] at HE2
        obtain ⟨p1, p2, p3⟩ := HA.out.rw_.pushG (t' := ⟨cp, t.rt, t.S, t.F ++ [newF t s x], t.G ++ [false]⟩) ((Below.refl _ _).alloc (Nat.le_refl _) _) HG2.out HB2.out (by simpa using HE2.out) rfl rfl rfl rfl
        have HF := Lib.hid (RAns.done (x := .tuple #[.int .i64 t.F.length, .int .i64 0]) hO hS HT.out p1 (HA.out.chg.join p2 HA.out.foot) (fun k hk => by
          rcases p3 k hk with h | h
          · exact HA.out.foot k h
          · exact .inr (Nat.le_trans hsz h)))
        go_ret2
        exact HF.out
      · go_simp; refine hK _ _ ?_; clear hK K
        refine wpAny_ready (rs := [4]) (by kernel_rfl) (by simp) ?_
        refine AllReady.cons rfl (fun K hK => ?_) AllReady.nil
        go_simp; refine hK _ _ ?_; clear hK K
        refine wpAny_ready (rs := [14]) (by kernel_rfl) (by simp) ?_
        refine AllReady.cons rfl (fun K hK => ?_) AllReady.nil
        rw [if_pos (by rfl)]; refine wp_append_one (.tmp 45) (.tmp 54) 44 rfl rfl rfl HA.out.app ?_; refine hK _ _ ?_; clear hK K
        refine wpAny_take (i := 15) (v := ?_) rfl (by kernel_rfl) (by kernel_rfl) (by kernel_rfl) (fun _ _ _ h => h) (Or.inl ⟨by rfl, ?_⟩) ?_; rotate_left 1; focus (intro w; go_simp; try with_reducible rfl)
        refine wpAny_take (i := 16) (v := ?_) rfl (by kernel_rfl) (by kernel_rfl) (by kernel_rfl) (fun _ _ _ h => h) (Or.inl ⟨by rfl, ?_⟩) ?_; rotate_left 1; focus (intro w; go_simp; try with_reducible rfl)
        refine wpAny_ready (rs := [17]) (by kernel_rfl) (by simp) ?_
        refine AllReady.cons rfl (fun K hK => ?_) AllReady.nil
        go_simp; refine hK _ _ ?_; clear hK K
        refine wpAny_done (by kernel_rfl) ?_ _
        have c4 := HA.out.rw_.cells.2.2.2.2.1
        have HROW := Lib.hid HA.out.rw_.rowG
        have hsz := HA.out.chg.size
        have hcl := newCells (w3.setCell ⟨R, 3, none⟩ (.slice A2 (t.F.length + 1) c2')) (csB false) 4
        rw [show (w3.setCell ⟨R, 3, none⟩ (.slice A2 (t.F.length + 1) c2')).heap.size = w3.heap.size by simp [World.setCell]] at hcl
        have HCL := Lib.hid hcl
        clear hcl
        go_wp2_with (at_builtin; go_loud (refine wpList_append_one rfl (.tmp 62) (.tmp 63) 59 rfl Try.underlying59 info_boo rfl (by decide) (HROW.out.alloc (.cells #[.bool false] 4)) rfl ⟨w3.heap.size, 0, none⟩ rfl (csB_len false) HCL.out (csB_one _) (show t.G.length ≤ 100000 by have := hlG.out; omega) (by decide) (by simp [World.setCell] at hsz ⊢; omega) ?_); intro v2 w5 he2 hg2 hb2; obtain ⟨A3, c3', rfl⟩ := ow_shape he2; have hW := HA.out.rw_; have q1 := hW.after ((Below.refl _ _).alloc (Nat.le_refl _) (.cells #[.bool false] 4)) hg2 hW.apart.2.2.1; have d3 := (blk5 (q1.trans hW.blk)).2.2.2.1; have d4 := (blk5 (q1.trans hW.blk)).2.2.2.2.1; have df := (blk5 (q1.trans hW.blk)).2.2.2.2.2 4; have HE2 := Lib.hid he2; have HG2 := Lib.hid hg2; have HB2 := Lib.hid hb2; clear he2 hg2 hb2 q1 hW)
        rw [← srs_snoc] at HE2
        obtain ⟨p1, p2, p3⟩ := HA.out.rw_.pushG (t' := ⟨cp, t.rt, t.S, t.F ++ [newF t s x], t.G ++ [false]⟩) ((Below.refl _ _).alloc (Nat.le_refl _) _) HG2.out HB2.out (by simpa using HE2.out) rfl rfl rfl rfl
        have HF := Lib.hid (RAns.done (x := .tuple #[.int .i64 t.F.length, .int .i64 0]) hO hS HT.out p1 (HA.out.chg.join p2 HA.out.foot) (fun k hk => by
          rcases p3 k hk with h | h
          · exact HA.out.foot k h
          · exact .inr (Nat.le_trans hsz h)))
        go_ret2
        exact HF.out
end Go.Proofs.Ytgojbomdkdlclaa

