/-
  Layer 13: contract of the reference's Charge.
-/
import Derived.Test.YtkfhjpgapmfiaaaRfLeave
import Derived.Test.YtkfhjpgapmfiaaaRfCc
import Derived.Test.YtkfhjpgapmfiaaaPsCharge
import Derived.Test.YtkfhjpgapmfiaaaTail
import Derived.BigQuiet
namespace Go.Proofs.Ytkfhjpgapmfiaaa
open Go.ChangeShapes Go.WideShapes Go.ChangeAt Go.RowKit
set_option linter.unusedVariables false

/-- The list behind a charge, its least tag, and what stands for the state then. -/
theorem RfS.pay {r : Rf} {s : Sf} (h : RfS r s) (hs : SfOk s) {n i : Nat} {c : Int} (hi : i < r.L.length) (e : r.L[i] = s.tag n) (hc : 0 ≤ c) (hp : SfOk (s.paid n c)) :
    ∃ L2, r.L.set i ⟨r.L[i].f, r.L[i].w, r.L[i].s + c⟩ = L2 ∧ (∀ t ∈ L2, 0 ≤ t.s ∧ t.s ≤ 1099511627776) ∧ ∃ m, ∃ hm : m < L2.length, ltI L2 = (m : Nat) ∧
      ∀ t, s.Charged n c t → RfS (if r.at_ ≤ min L2[m].s (max r.now r.L[i].s) then ⟨r.at_, L2.map (lowT (min L2[m].s (max r.now r.L[i].s))), r.O.map (lowT (min L2[m].s (max r.now r.L[i].s))), max r.now r.L[i].s - min L2[m].s (max r.now r.L[i].s), r.away + min L2[m].s (max r.now r.L[i].s)⟩
        else ⟨r.at_, L2, r.O, max r.now r.L[i].s, r.away⟩) t := by
  obtain ⟨L2, hL2⟩ : ∃ L2, r.L.set i ⟨r.L[i].f, r.L[i].w, r.L[i].s + c⟩ = L2 := ⟨_, rfl⟩
  have e1 : r.L[i].f = n := by rw [e]; rfl
  have e2 : r.L[i].w = s.wt n := by rw [e]; rfl
  have e3 : r.L[i].s = s.st n := by rw [e]; rfl
  have hR : RepL L2 (s.paid n c) := by
    have h9 := h.rep.turn (t := s.paid n c) hi e1 rfl (fun g hg => by simp only [Sf.paid, Sf.tag]; rw [fset_ne _ _ hg])
    have et : (s.paid n c).tag n = ⟨n, s.wt n, s.st n + c⟩ := by simp only [Sf.paid, Sf.tag]; rw [fset_at]
    rw [et] at h9
    rw [← hL2, e1, e2, e3]; exact h9
  have hlen : L2.length = r.L.length := by rw [← hL2, List.length_set]
  have h0 : 0 < L2.length := by omega
  obtain ⟨q, hq, hk, eq⟩ := hR.least h0
  refine ⟨L2, hL2, fun t ht => ?_, _, hk, lt_yes (hR.valid hp.wt hp.st) h0, fun t ht => ?_⟩
  · obtain ⟨j, hj, rfl⟩ := List.getElem_of_mem ht
    obtain ⟨g, g1, g2, g3⟩ := hR.at_ hj
    rw [g3]; exact hp.st g g2
  · have h9 := h.charged hs hi e hc ht
    have hL3 : r.chL i r.L[i].f r.L[i].w r.L[i].s c = L2 := hL2
    unfold Rf.ch Rf.chB at h9
    rw [hL3, ← hlen, stF_at hk] at h9
    exact h9
set_option maxRecDepth 100000 in
set_option maxHeartbeats 8000000 in
theorem rcharge_any {T : Nat → Prop} {R : Nat} {s t : Sf} {w : World} (h : RsO T R s w) {f l : Int} (ht : ChT s f l t) (haw : s.away ≤ 1000000000000000000) :
    Calls Try.prog 31 #[.pointer (some ⟨R, 0, none⟩), .int .i64 f, .int .i64 l] w (RsAns T R t (.int .i64 (chE s f l)) w) := by
  have h' := h
  obtain ⟨hs, r, ⟨hT, hTR, vL, vO, hw⟩, hr⟩ := h
  obtain ⟨hfL, hfO⟩ := hr.few
  have HI := rindex_any hw (by omega) f
  cases hf : s.here f
  · obtain ⟨e1, e2⟩ := ch_6 (l := l) hf
    have e3 := (e2 t).1 ht
    subst e3
    rw [e1]
    rw [hr.rep.no_place hf] at HI
    have HI := Lib.hid HI
    have HF := Lib.hid (fun e w' => RsAns.same (x := .int .i64 6) h' (e := e) (w' := w'))
    clear e1 e2 ht hs hw hr h' hf
    go_enter Try.func31, Try.ntmps31
    go_wp2_with fail
    (with_reducible refine HI.out.mono ?_); rintro e w' ⟨rfl, rfl⟩
    go_wp2
    go_ret
    exact HF.out _ _ rfl (Below.refl _ _)
  obtain ⟨n, rfl, hn, ho⟩ := here_nat hf
  obtain ⟨i, hi, ei, et⟩ := hr.rep.one_place hn ho
  rw [ei] at HI
  have hst := hs.st n ho
  have hwt := hs.wt n ho
  cases hle : leB l
  · obtain ⟨e1, e2⟩ := ch_1 hn ho hle
    have e3 := (e2 t).1 ht
    subst e3
    rw [e1]
    have hl : ¬ (1 ≤ l ∧ l ≤ 4096) := fun h9 => by rw [show leB l = true from by unfold leB; simp; omega] at hle; cases hle
    have HI := Lib.hid HI
    have HF := Lib.hid (fun e w' => RsAns.same (x := .int .i64 1) h' (e := e) (w' := w'))
    clear e1 e2 ht hs hw hr h' hf hst hwt hle ei et
    go_enter Try.func31, Try.ntmps31
    go_wp2_with fail
    (with_reducible refine HI.out.mono ?_); rintro e w' ⟨rfl, rfl⟩
    by_cases hl1 : l < 1
    · go_wp2
      go_ret
      exact HF.out _ _ rfl (Below.refl _ _)
    · have hl2 : 4096 < l := by omega
      go_wp2
      go_ret
      exact HF.out _ _ rfl (Below.refl _ _)
  have hl := le_yes hle
  have hstB : stB (s.st n) = true := by unfold stB; simp; omega
  have hRF := rfinish_any (s.st n) l (s.wt n)
  obtain ⟨bb, off, c, hvL, hlc, hTb, hbw, _, q0, q1, q2⟩ := hw.lsL.tg hi
  subst hvL
  have hRlt := hw.blk.size_lt
  obtain ⟨_, c1, _, c3, _, cf⟩ := hw.cells
  have hin' : (i : Int) < r.L.length := by omega
  have et1 : r.L[i].w = s.wt n := by rw [et]; rfl
  have et2 : r.L[i].s = s.st n := by rw [et]; rfl
  have et0 : r.L[i].f = n := by rw [et]; rfl
  by_cases hx : s.st n + l * unC (s.wt n) ≤ 1099511627776
  rotate_left 1
  · obtain ⟨e1, e2⟩ := ch_2 hn ho hle hx
    have e3 := (e2 t).1 ht
    subst e3
    rw [e1]
    obtain ⟨f1, f2⟩ := fi_2 hle (wt_of hwt) hstB hx
    rw [f1, f2] at hRF
    rw [et1] at q1
    rw [et2] at q2
    have HRF := Lib.hid hRF
    have HI := Lib.hid HI
    have HF := Lib.hid (fun e w' => RsAns.same (x := .int .i64 2) h' (e := e) (w' := w'))
    clear e1 e2 ht hs hw hr h' hf hst hwt hle ei et hRF f1 f2 hx
    go_enter Try.func31, Try.ntmps31
    go_wp2_with fail
    (with_reducible refine HI.out.mono ?_); rintro e w' ⟨rfl, rfl⟩
    go_wp2_with fail
    go_quiet ((go_at_call 44; exact Calls.quiet_of_same ((HRF.out _).mono fun _ _ h => ⟨h.1, h.2.symm⟩)))
    go_wp2
    go_ret
    exact HF.out _ _ rfl (Below_drewN (Below.refl _ _) _)
  obtain ⟨e1, e2⟩ := ch_0 hn ho hle hx
  have hch := (e2 t).1 ht
  rw [e1]
  obtain ⟨f1, f2⟩ := fi_0 hle (wt_of hwt) hstB hx
  have hcb := co_bd hle (wt_of hwt)
  rw [f1, f2] at hRF
  obtain ⟨cc, hcc⟩ : ∃ cc, l * unC (s.wt n) = cc := ⟨_, rfl⟩
  rw [hcc] at hx hcb hRF hch
  have hok := (hs.charged ho hcb.1 hx hch).1
  have hp := hs.paid ho hcb.1 hx
  obtain ⟨L2, hL2, hL2b, m, hm, hlt, hRS⟩ := hr.pay hs hi et hcb.1 hp
  have hRS := hRS t hch
  have hnow := hs.now
  have hrn : r.now = s.now := hr.1.2.2.2.1
  have hrw : r.away = s.away := hr.1.2.2.2.2.1
  have hra : r.at_ = s.at_ := hr.1.1
  have hsat := hs.at_
  have hsaw := hs.away
  have hOb : ∀ t ∈ r.O, 0 ≤ t.s ∧ t.s ≤ 1099511627776 := fun t ht => (hr.2.2 t ht).2
  obtain ⟨⟨t0, t1, t2⟩, htg⟩ : ∃ x, r.L[i] = x := ⟨_, rfl⟩
  rw [htg] at q0 q1 q2 hRS hL2 et0 et1 et2
  simp only at q0 q1 q2 hRS hL2 et0 et1 et2
  rw [← et1, ← et2] at hRF
  rw [← et2] at hx hst
  obtain ⟨N, hN⟩ : ∃ N, r.L.length = N := ⟨_, rfl⟩
  have hlen2 : L2.length = N := by rw [← hL2, List.length_set, hN]
  have hset : (r.L.set i ⟨t0, t1, t2 + cc⟩) = L2 := hL2
  rw [hN] at hlc hin' hfL c1
  have hiN : i < N := by omega
  obtain ⟨nw, hnw⟩ : ∃ nw, max r.now t2 = nw := ⟨_, rfl⟩
  rw [hnw] at hRS
  have HN := Lib.hid hN
  have HRF := Lib.hid hRF
  have HI := Lib.hid HI
  have HW := Lib.hid hw
  have HT := Lib.hid hT
  have HTR := Lib.hid hTR
  have HRS := Lib.hid (And.intro hRS hok)
  have HL2 := Lib.hid (And.intro hset hL2b)
  have HTG := Lib.hid htg
  have HLT := Lib.hid (And.intro hlt hOb)
  have HBD := Lib.hid (And.intro hnow (And.intro hrn (And.intro hrw (And.intro hra (And.intro hsat (And.intro hsaw haw))))))
  clear e1 e2 ht hs hw hr h' hf hwt hle ei et hRF f1 f2 hcb hcc hch hok hp hL2 hL2b hlt hRS hnow hrn hrw hra hsat hsaw hOb htg hN et0 et1 et2 hset hT hTR hstB q0 haw ho
  go_enter Try.func31, Try.ntmps31
  go_wp2_with fail
  (with_reducible refine HI.out.mono ?_); rintro e w' ⟨rfl, rfl⟩
  go_wp2_with fail
  go_quiet ((go_at_call 44; exact Calls.quiet_of_same ((HRF.out _).mono fun _ _ h => ⟨h.1, h.2.symm⟩)))
  have hw9 := HW.out
  rw [HN.out] at hw9
  obtain ⟨u9, hu9⟩ : ∃ u9, (w.drewN (nq + 1)).setCell ⟨R, 3, none⟩ (.int .i64 nw) = u9 := ⟨_, rfl⟩
  have hcg9 : Chg (fun k => k = R) w u9 := by rw [← hu9]; exact ((Chg.refl (fun k => k = R) w).drewN (nq + 1)).setCell (g := R) rfl 3 _
  have hblk9 := (show Whole (w.drewN (nq + 1)) R _ _ from hw9.blk).put 3 (.int .i64 nw)
  rw [hu9] at hblk9
  simp at hblk9
  have hL9 := hw9.lsL.old HT.out hw9.blk hcg9
  have hO9 := hw9.lsO.old HT.out hw9.blk hcg9
  have hb10 := (Below.refl u9.heap.size u9).alloc (Nat.le_refl _) (.cells #[] 52)
  obtain ⟨v2, w2, hrun, hv2, hg2⟩ := run_append_list (P := Try.prog) 49 49 Try.underlying49 info_tg (own_empty u9 u9.heap.size (Nat.le_refl _)) (hL9.keep fun b hb => hb10.block b hb.1) (by omega) (by rw [HN.out]; omega) (by simp)
  rw [List.nil_append, Nat.zero_add, HN.out] at hv2
  have hb2 : Below u9.heap.size u9 w2 := below_grew hb10 (Nat.le_refl _) hg2 (fun k hk => by simp [Value.ownBlock] at hk; omega)
  obtain ⟨g, c2, rfl, hgl, hgs⟩ := ow_at hv2 (by omega)
  have hblk2 := hblk9.later hb2
  have hng : R ≠ g := by have := hcg9.size; omega
  have k1 := hblk2.read 1
  have k2 : ∀ o, w2.frozen? ⟨R, o, none⟩ = false := hblk2.free
  simp at k1
  have hv3 : (w2.setCell ⟨R, 1, none⟩ (.slice (some ⟨g, 0, none⟩) N c2)).ownsRow u9.heap.size 52 3 (.slice (some ⟨g, 0, none⟩) N c2) N (srs csT r.L) := owk hv2 fun k hk => Below.heap_setCell _ _ _ _ (by simp [Value.ownBlock] at hk; simp; omega)
  have hv4 := row_cell csT_len hv3 hi ⟨t0, t1, t2 + cc⟩ (.int .i64 (t2 + cc)) (k := 2) (by omega) (by rw [HTG.out]; rfl)
  have m1 := hv3.cellAt (i * 3 + 2) (by omega)
  rw [srs_at csT_len r.L i 2 hi (by omega), HTG.out] at m1
  have m2 := hv3.frozenAt (i * 3 + 2)
  rw [HL2.out.1] at hv4
  have hs9 := hcg9.size
  have hcg2 : Chg (fun k => k = R) w ((w2.setCell ⟨R, 1, none⟩ (.slice (some ⟨g, 0, none⟩) N c2)).setCell ⟨g, i * 3 + 2, none⟩ (.int .i64 (t2 + cc))) := ((hcg9.trans (Chg.of_below hb2)).setCell (g := R) rfl 1 _).setNew (by omega) _ _
  have hblk3 := ((hblk2.put 1 (.slice (some ⟨g, 0, none⟩) N c2)).other hng (i * 3 + 2) (.int .i64 (t2 + cc)))
  simp at hblk3
  obtain ⟨w3, hw3⟩ : ∃ w3, (w2.setCell ⟨R, 1, none⟩ (.slice (some ⟨g, 0, none⟩) N c2)).setCell ⟨g, i * 3 + 2, none⟩ (.int .i64 (t2 + cc)) = w3 := ⟨_, rfl⟩
  rw [hw3] at hcg2 hblk3 hv4
  have hL3 : LsV w3 (Tn T w w3) (.slice (some ⟨g, 0, none⟩) N c2) L2 := LsV.fresh hv4 hlen2.symm hs9
  have hO3 : LsV w3 (Tn T w w3) vO r.O := hw9.lsO.old HT.out hw9.blk hcg2
  have HL3 := Lib.hid hL3
  have HO3 := Lib.hid hO3
  have HB3 := Lib.hid hblk3
  have HC3 := Lib.hid hcg2
  have HW3 := Lib.hid hw3
  have hq9 : u9.heap.size = w.heap.size := by rw [← hu9]; simp
  rw [hq9] at hrun
  clear hq9 hw9 hcg9 hblk9 hL9 hO9 hb10 hv2 hg2 hb2 hblk2 hv3 hv4 hcg2 hblk3 hL3 hO3 hs9 hw3
  rw [← hu9] at hrun
  clear hu9
  go_wp2_with fail
  refine region_tail 16 (by kernel_rfl) (by kernel_rfl) ?_
  simp only [List.take_succ_cons, List.take_zero, List.drop_succ_cons, List.drop_zero]
  repeat still_step
  refine wpStill_nil ?_
  go_wp2_with (at_builtin; go_loud (refine wpList_append_run rfl (.tmp 62) (.tmp 66) 49 rfl rfl rfl hrun ?_))
  obtain ⟨z, hz⟩ : ∃ z, L2[m].s = z := ⟨_, rfl⟩
  obtain ⟨z0, z1, hz3⟩ : ∃ z0 z1, L2[m] = ⟨z0, z1, z⟩ := ⟨_, _, by rw [← hz]⟩
  have hrs := HRS.out
  rw [hz] at hrs
  have HRS := Lib.hid hrs
  have hw3 := HW3.out
  rw [hw3]
  have hgl3 : g < w3.heap.size := by rw [← hw3]; simpa using hgs
  have hR3 := HB3.out.size_lt
  have hLL := HL3.out.tg (k := m) (by omega)
  obtain ⟨b9, o9, c9, j1, _, _, _, _, _, _, j2⟩ := hLL
  obtain ⟨rfl, rfl, rfl⟩ : b9 = g ∧ o9 = 0 ∧ c9 = c2 := by
    simp at j1; exact ⟨j1.1.1.symm, j1.1.2.symm, j1.2.2.symm⟩
  rw [hz, Nat.zero_add] at j2
  have HK1 := Lib.hid (fun (W : World) (hb : Below w3.drew.heap.size w3.drew W) => show W.cell? ⟨R, 1, none⟩ = some (.slice (some ⟨b9, 0, none⟩) N c9) from by
    have h9 := (show Whole w3.drew R _ _ from HB3.out).later hb
    have h8 := h9.read 1
    simpa using h8)
  have HK3 := Lib.hid (fun (W : World) (hb : Below w3.drew.heap.size w3.drew W) => show W.cell? ⟨R, 3, none⟩ = some (.int .i64 nw) from by
    have h9 := (show Whole w3.drew R _ _ from HB3.out).later hb
    have h8 := h9.read 3
    simpa using h8)
  have HKZ := Lib.hid (fun (W : World) (hb : Below w3.drew.heap.size w3.drew W) => show W.cell? ⟨b9, m * 3 + 2, none⟩ = some (.int .i64 z) from (hb.cell (p := ⟨b9, m * 3 + 2, none⟩) hgl3).trans j2)
  have HLE := Lib.hid (fun (W : World) (hb : Below w3.drew.heap.size w3.drew W) => show Calls Try.prog 45 #[.slice (some ⟨b9, 0, none⟩) N c9] W (fun e w' => e = .returned (.int .i64 (m : Nat)) ∧ Below W.heap.size W w') from by
    have h9 := rleast_any (some ⟨b9, 0, none⟩) c9 L2 0 W.heap.size W (by omega) ((HL3.out.keep fun b hb9 => hb.block b hb9.1).at_ rfl)
    unfold Calm at h9
    rw [HLT.out.1, hlen2] at h9
    exact h9)
  have hmN : (m : Int) < N := by omega
  have HZ := Lib.hid (And.intro hz hz3)
  clear hrs hw3 HW3 j1 j2 k1 k2 m1 m2 hng hgs hgl hrun hz hz3
  refine wp_region_looseS 136 (by kernel_rfl) (by kernel_rfl) (StB w3.drew (fun i => [.pointer (some ⟨R, 0, none⟩), .pointer (some ⟨R, 0, none⟩), .pointer (some ⟨R, 1, none⟩), .slice (some ⟨b9, 0, none⟩) N c9, .pointer (some ⟨R, 0, none⟩), .pointer (some ⟨R, 0, none⟩), .pointer (some ⟨R, 1, none⟩), .slice (some ⟨b9, 0, none⟩) N c9, .int .i64 (m : Nat), .pointer (some ⟨b9, m * 3, none⟩), .pointer (some ⟨b9, m * 3 + 2, none⟩), .int .i64 z, .pointer (some ⟨R, 0, none⟩), .pointer (some ⟨R, 0, none⟩), .pointer (some ⟨R, 3, none⟩), .int .i64 nw, .int .i64 (min z nw), .int .i64 (min z nw)].getD i undef)) rfl StB.start ?_ ?_
  · simp only [OblAllS]
    refine ⟨?_, ?_, ?_, ?_, ?_, ?_, ?_, ?_, ?_, ?_, ?_, ?_, ?_, ?_, ?_, ?_, ?_, ?_, trivial⟩
    · intro L wx vals hi hu hcl hC
      have HCx := Lib.hid hC
      clear hC hcl hu hi
      simp only [fillA, if_true, Act.put]
      simp
      go_wp2
      exact ⟨rfl, HCx.out.quiet 0 rfl⟩
    · intro L wx vals hi hu hcl hC
      simp [predL, predE, Region.binds, UpL] at hu
      have e0 : vals 0 = .pointer (some ⟨R, 0, none⟩) := hC.v 0 (by simp [hu])
      have HCx := Lib.hid hC
      clear hC hcl hu hi
      simp only [fillA, if_true, Act.put]
      simp
      simp only [e0]
      clear e0
      go_wp2
      exact ⟨rfl, HCx.out.quiet 1 rfl⟩
    · intro L wx vals hi hu hcl hC
      simp [predL, predE, Region.binds, UpL] at hu
      have e1 : vals 1 = .pointer (some ⟨R, 0, none⟩) := hC.v 1 (by simp [hu])
      have HCx := Lib.hid hC
      clear hC hcl hu hi
      simp only [fillA, if_true, Act.put]
      simp
      simp only [e1]
      clear e1
      go_wp2
      exact ⟨rfl, HCx.out.quiet 2 rfl⟩
    · intro L wx vals hi hu hcl hC
      simp [predL, predE, Region.binds, UpL] at hu
      have e2 : vals 2 = .pointer (some ⟨R, 1, none⟩) := hC.v 2 (by simp [hu])
      obtain k1 := HK1.out wx hC.b
      have HCx := Lib.hid hC
      clear hC hcl hu hi
      simp only [fillA, if_true, Act.put]
      simp
      simp only [e2]
      clear e2
      go_wp2
      exact ⟨rfl, HCx.out.quiet 3 rfl⟩
    · intro L wx vals hi hu hcl hC
      have HCx := Lib.hid hC
      clear hC hcl hu hi
      simp only [fillA, if_true, Act.put]
      simp
      go_wp2
      exact ⟨rfl, HCx.out.quiet 4 rfl⟩
    · intro L wx vals hi hu hcl hC
      simp [predL, predE, Region.binds, UpL] at hu
      have e4 : vals 4 = .pointer (some ⟨R, 0, none⟩) := hC.v 4 (by simp [hu])
      have HCx := Lib.hid hC
      clear hC hcl hu hi
      simp only [fillA, if_true, Act.put]
      simp
      simp only [e4]
      clear e4
      go_wp2
      exact ⟨rfl, HCx.out.quiet 5 rfl⟩
    · intro L wx vals hi hu hcl hC
      simp [predL, predE, Region.binds, UpL] at hu
      have e5 : vals 5 = .pointer (some ⟨R, 0, none⟩) := hC.v 5 (by simp [hu])
      have HCx := Lib.hid hC
      clear hC hcl hu hi
      simp only [fillA, if_true, Act.put]
      simp
      simp only [e5]
      clear e5
      go_wp2
      exact ⟨rfl, HCx.out.quiet 6 rfl⟩
    · intro L wx vals hi hu hcl hC
      simp [predL, predE, Region.binds, UpL] at hu
      have e6 : vals 6 = .pointer (some ⟨R, 1, none⟩) := hC.v 6 (by simp [hu])
      obtain k1 := HK1.out wx hC.b
      have HCx := Lib.hid hC
      clear hC hcl hu hi
      simp only [fillA, if_true, Act.put]
      simp
      simp only [e6]
      clear e6
      go_wp2
      exact ⟨rfl, HCx.out.quiet 7 rfl⟩
    · intro L wx vals hi hu hcl hC
      simp [predL, predE, Region.binds, UpL] at hu
      have e7 : vals 7 = .slice (some ⟨b9, 0, none⟩) N c9 := hC.v 7 (by simp [hu])
      have HL := Lib.hid (HLE.out wx hC.b)
      have HCx := Lib.hid hC
      clear hC hcl hu hi
      simp only [fillA, if_true, Act.put]
      simp
      simp only [e7]
      clear e7
      go_wp2_with fail
      (with_reducible refine HL.out.mono ?_); rintro e w9 ⟨rfl, hb⟩
      have HX := Lib.hid (HCx.out.step 8 (x := .int .i64 (m : Nat)) rfl (HCx.out.b.trans (hb.mono HCx.out.b.size)))
      clear hb
      go_wp2
      exact ⟨rfl, HX.out⟩
    · intro L wx vals hi hu hcl hC
      simp [predL, predE, Region.binds, UpL] at hu
      have e3 : vals 3 = .slice (some ⟨b9, 0, none⟩) N c9 := hC.v 3 (by simp [hu])
      have e8 : vals 8 = .int .i64 (m : Nat) := hC.v 8 (by simp [hu])
      have HCx := Lib.hid hC
      clear hC hcl hu hi
      simp only [fillA, if_true, Act.put]
      simp
      simp only [e3, e8]
      clear e3 e8
      go_wp2
      exact ⟨rfl, HCx.out.quiet 9 rfl⟩
    · intro L wx vals hi hu hcl hC
      simp [predL, predE, Region.binds, UpL] at hu
      have e9 : vals 9 = .pointer (some ⟨b9, m * 3, none⟩) := hC.v 9 (by simp [hu])
      have HCx := Lib.hid hC
      clear hC hcl hu hi
      simp only [fillA, if_true, Act.put]
      simp
      simp only [e9]
      clear e9
      go_wp2
      exact ⟨rfl, HCx.out.quiet 10 rfl⟩
    · intro L wx vals hi hu hcl hC
      simp [predL, predE, Region.binds, UpL] at hu
      have e10 : vals 10 = .pointer (some ⟨b9, m * 3 + 2, none⟩) := hC.v 10 (by simp [hu])
      obtain kz := HKZ.out wx hC.b
      have HCx := Lib.hid hC
      clear hC hcl hu hi
      simp only [fillA, if_true, Act.put]
      simp
      simp only [e10]
      clear e10
      go_wp2
      exact ⟨rfl, HCx.out.quiet 11 rfl⟩
    · intro L wx vals hi hu hcl hC
      have HCx := Lib.hid hC
      clear hC hcl hu hi
      simp only [fillA, if_true, Act.put]
      simp
      go_wp2
      exact ⟨rfl, HCx.out.quiet 12 rfl⟩
    · intro L wx vals hi hu hcl hC
      simp [predL, predE, Region.binds, UpL] at hu
      have e12 : vals 12 = .pointer (some ⟨R, 0, none⟩) := hC.v 12 (by simp [hu])
      have HCx := Lib.hid hC
      clear hC hcl hu hi
      simp only [fillA, if_true, Act.put]
      simp
      simp only [e12]
      clear e12
      go_wp2
      exact ⟨rfl, HCx.out.quiet 13 rfl⟩
    · intro L wx vals hi hu hcl hC
      simp [predL, predE, Region.binds, UpL] at hu
      have e13 : vals 13 = .pointer (some ⟨R, 0, none⟩) := hC.v 13 (by simp [hu])
      have HCx := Lib.hid hC
      clear hC hcl hu hi
      simp only [fillA, if_true, Act.put]
      simp
      simp only [e13]
      clear e13
      go_wp2
      exact ⟨rfl, HCx.out.quiet 14 rfl⟩
    · intro L wx vals hi hu hcl hC
      simp [predL, predE, Region.binds, UpL] at hu
      have e14 : vals 14 = .pointer (some ⟨R, 3, none⟩) := hC.v 14 (by simp [hu])
      obtain k3 := HK3.out wx hC.b
      have HCx := Lib.hid hC
      clear hC hcl hu hi
      simp only [fillA, if_true, Act.put]
      simp
      simp only [e14]
      clear e14
      go_wp2
      exact ⟨rfl, HCx.out.quiet 15 rfl⟩
    · intro L wx vals hi hu hcl hC
      simp [predL, predE, Region.binds, UpL] at hu
      have e11 : vals 11 = .int .i64 z := hC.v 11 (by simp [hu])
      have e15 : vals 15 = .int .i64 nw := hC.v 15 (by simp [hu])
      have HCx := Lib.hid hC
      clear hC hcl hu hi
      simp only [fillA, if_true, Act.put]
      simp
      simp only [e11, e15]
      clear e11 e15
      go_wp2
      exact ⟨rfl, HCx.out.quiet 16 rfl⟩
    · intro L wx vals hi hu hcl hC
      simp [predL, predE, Region.binds, UpL] at hu
      have e16 : vals 16 = .int .i64 (min z nw) := hC.v 16 (by simp [hu])
      have HCx := Lib.hid hC
      clear hC hcl hu hi
      simp only [fillA, if_true, Act.put]
      simp
      simp only [e16]
      clear e16
      go_wp2
      exact ⟨rfl, HCx.out.quiet 17 rfl⟩
  · intro wz vals L hC hall
    have e17 : vals 17 = .int .i64 (min z nw) := hC.v 17 (hall 17 (by simp))
    have hbz : Below w3.heap.size w3 wz := (Below.refl _ _).drew.trans hC.b
    simp only [fillA, if_true, Act.put]
    simp
    simp only [e17]
    have hcz := HC3.out.trans (Chg.of_below hbz)
    have hblkz := HB3.out.later hbz
    have hLz : LsV wz (Tn T w wz) (.slice (some ⟨b9, 0, none⟩) N c9) L2 := (HL3.out.keep fun b hb => hbz.block b hb.1).wider fun b hb => ⟨Nat.lt_of_lt_of_le hb.1 hbz.size, hb.2⟩
    have hOz : LsV wz (Tn T w wz) vO r.O := (HO3.out.keep fun b hb => hbz.block b hb.1).wider fun b hb => ⟨Nat.lt_of_lt_of_le hb.1 hbz.size, hb.2⟩
    obtain ⟨bq, hbq⟩ : ∃ bq, min z nw = bq := ⟨_, rfl⟩
    rw [hbq]
    have hrs := HRS.out
    rw [hbq] at hrs
    have y0 := hblkz.read 0
    simp at y0
    have HZB := Lib.hid hblkz
    have HZL := Lib.hid hLz
    have HZO := Lib.hid hOz
    have HZC := Lib.hid hcz
    have HBQ := Lib.hid hbq
    have hRz := hblkz.size_lt
    clear hC hall e17 hbz HK1 HK3 HKZ HLE HRS HB3 HL3 HO3 HC3 hblkz hLz hOz hcz hbq
    by_cases hge : r.at_ ≤ bq
    rotate_left 1
    · rw [if_neg hge] at hrs
      have HF := Lib.hid (show RsAns T R t (.int .i64 0) w (.returned (.int .i64 0)) wz from
        RsAns.mk (r := ⟨r.at_, L2, r.O, nw, r.away⟩) (T := T) rfl ⟨HZB.out, HZL.out, HZO.out⟩ HTR.out hrs.1 hrs.2 HZC.out)
      clear hrs
      go_wp2
      go_ret
      exact HF.out
    rw [if_pos hge] at hrs
    obtain ⟨K, hK⟩ : ∃ K, r.O.length = K := ⟨_, rfl⟩
    have HK := Lib.hid hK
    obtain ⟨x1, x2, x3, x4, x5, x6⟩ := HBD.out
    have hbb : 1 ≤ bq ∧ bq ≤ nw ∧ nw ≤ 1099511627776 := by have := HBQ.out; omega
    have hra : 0 ≤ r.away ∧ r.away ≤ 1000000000000000000 := by omega
    have HLA := Lib.hid (fun (W : World) (hb : Below wz.heap.size wz W) => show Calls Try.prog 46 #[.slice (some ⟨b9, 0, none⟩) N c9, .int .i64 bq] W (OwnAns (L2.map (lowT bq)) W) from
      rlower_any (HZL.out.keep fun b h9 => hb.block b h9.1) (by omega) HL2.out.2 (by omega))
    have HLB := Lib.hid (fun (W : World) (hb : Below wz.heap.size wz W) => show Calls Try.prog 46 #[vO, .int .i64 bq] W (OwnAns (r.O.map (lowT bq)) W) from
      rlower_any (HZO.out.keep fun b h9 => hb.block b h9.1) (by omega) HLT.out.2 (by omega))
    have HRS := Lib.hid hrs
    clear hK x1 x2 x3 x4 x5 x6 hrs
    go_wp2_with fail
    refine wp_region_looseG 136 (by kernel_rfl) (by kernel_rfl) (ChC wz R (L2.map (lowT bq)) (r.O.map (lowT bq)) N K (.int .i64 (nw - bq))) (ChV R (.slice (some ⟨b9, 0, none⟩) N c9) vO N K bq nw) ⟨none, 0, none, 0⟩ rfl (ChC.start _ (Below.refl _ _).drew) ?_ ?_
    · simp only [OblAllG]
      refine ⟨?_, ?_, ?_, ?_, ?_, ?_, ?_, ?_, ?_, ?_, ?_, ?_, ?_, ?_, ?_, ?_, ?_, ?_, ?_, ?_, ?_, ?_, ?_, ?_, ?_, ?_, ?_, ?_, ?_, ?_, trivial⟩
      · intro γ U wx vals hi hu hcl hC hp
        simp [ClosedL, UpL, predL, predE, Region.binds] at hcl
        have HCx := Lib.hid hC
        simp only [fillA, if_true, Act.put]
        simp
        clear hp hC hcl hu hi
        go_wp2
        exact ⟨rfl, γ, HCx.out.quiet (by decide) (by decide) (by decide) (by decide) (by decide), rfl, fun _ _ _ h => h⟩
      · intro γ U wx vals hi hu hcl hC hp
        simp [ClosedL, UpL, predL, predE, Region.binds] at hcl
        have HCx := Lib.hid hC
        simp only [fillA, if_true, Act.put]
        simp
        clear hp hC hcl hu hi
        go_wp2
        exact ⟨rfl, γ, HCx.out.quiet (by decide) (by decide) (by decide) (by decide) (by decide), rfl, fun _ _ _ h => h⟩
      · intro γ U wx vals hi hu hcl hC hp
        simp [ClosedL, UpL, predL, predE, Region.binds] at hcl
        have HCx := Lib.hid hC
        simp only [fillA, if_true, Act.put]
        simp
        clear hp hC hcl hu hi
        go_wp2
        exact ⟨rfl, γ, HCx.out.quiet (by decide) (by decide) (by decide) (by decide) (by decide), rfl, fun _ _ _ h => h⟩
      · intro γ U wx vals hi hu hcl hC hp
        simp [ClosedL, UpL, predL, predE, Region.binds] at hcl
        have HCx := Lib.hid hC
        simp only [fillA, if_true, Act.put]
        simp
        clear hp hC hcl hu hi
        go_wp2
        exact ⟨rfl, γ, HCx.out.quiet (by decide) (by decide) (by decide) (by decide) (by decide), rfl, fun _ _ _ h => h⟩
      · intro γ U wx vals hi hu hcl hC hp
        simp [ClosedL, UpL, predL, predE, Region.binds] at hcl
        simp [predL, predE, Region.binds, UpL] at hu
        simp [predL, predE, Region.binds, PreV, ChV] at hp
        have HCx := Lib.hid hC
        simp only [fillA, if_true, Act.put]
        simp
        simp only [hp]
        clear hp hC hcl hu hi
        go_wp2
        exact ⟨rfl, γ, HCx.out.quiet (by decide) (by decide) (by decide) (by decide) (by decide), rfl, fun _ _ _ h => h⟩
      · intro γ U wx vals hi hu hcl hC hp
        simp [ClosedL, UpL, predL, predE, Region.binds] at hcl
        simp [predL, predE, Region.binds, UpL] at hu
        simp [predL, predE, Region.binds, PreV, ChV] at hp
        have HCx := Lib.hid hC
        simp only [fillA, if_true, Act.put]
        simp
        simp only [hp]
        clear hp hC hcl hu hi
        go_wp2
        exact ⟨rfl, γ, HCx.out.quiet (by decide) (by decide) (by decide) (by decide) (by decide), rfl, fun _ _ _ h => h⟩
      · intro γ U wx vals hi hu hcl hC hp
        simp [ClosedL, UpL, predL, predE, Region.binds] at hcl
        simp [predL, predE, Region.binds, UpL] at hu
        simp [predL, predE, Region.binds, PreV, ChV] at hp
        have h23 : U 23 = false := by clear hC hp; cases h : U 23 with | false => rfl | true => exfalso; simp_all
        have h26 : U 26 = false := by clear hC hp; cases h : U 26 with | false => rfl | true => exfalso; simp_all
        have h29 : U 29 = false := by clear hC hp; cases h : U 29 with | false => rfl | true => exfalso; simp_all
        have hbx := hC.bel h23 h26 h29
        have k1 := (HZB.out.later hbx).read 1
        simp at k1
        have HCx := Lib.hid hC
        simp only [fillA, if_true, Act.put]
        simp
        simp only [hp]
        clear hp hC hcl hu h23 h26 h29 hbx hi
        go_wp2
        exact ⟨rfl, γ, HCx.out.quiet (by decide) (by decide) (by decide) (by decide) (by decide), rfl, fun _ _ _ h => h⟩
      · intro γ U wx vals hi hu hcl hC hp
        simp [ClosedL, UpL, predL, predE, Region.binds] at hcl
        have HCx := Lib.hid hC
        simp only [fillA, if_true, Act.put]
        simp
        clear hp hC hcl hu hi
        go_wp2
        exact ⟨rfl, γ, HCx.out.quiet (by decide) (by decide) (by decide) (by decide) (by decide), rfl, fun _ _ _ h => h⟩
      · intro γ U wx vals hi hu hcl hC hp
        simp [ClosedL, UpL, predL, predE, Region.binds] at hcl
        simp [predL, predE, Region.binds, UpL] at hu
        simp [predL, predE, Region.binds, PreV, ChV] at hp
        have h23 : U 23 = false := by clear hC hp; cases h : U 23 with | false => rfl | true => exfalso; simp_all
        have h26 : U 26 = false := by clear hC hp; cases h : U 26 with | false => rfl | true => exfalso; simp_all
        have h29 : U 29 = false := by clear hC hp; cases h : U 29 with | false => rfl | true => exfalso; simp_all
        have HL := Lib.hid (HLA.out wx (hC.bel h23 h26 h29))
        have HCx := Lib.hid hC
        have H3 := Lib.hid (And.intro h23 (And.intro h26 h29))
        have hsz := hC.bel h23 h26 h29
        simp only [fillA, if_true, Act.put]
        simp
        simp only [hp]
        clear hp hC hcl hu h23 h26 h29 hsz
        go_wp2_with fail
        (with_reducible refine HL.out.mono ?_); rintro e w9 ⟨A, cA, rfl, hown, hb⟩
        simp only [List.length_map, hlen2] at hown ⊢
        have HM := Lib.hid (HCx.out.call1 H3.out.1 H3.out.2.1 H3.out.2.2 hb hown)
        clear hown hb
        go_wp2
        exact ⟨rfl, _, HM.out, rfl, fun jj u hj h => ChV.k1 (fun e => by rw [e, hi] at hj; cases hj) h⟩
      · intro γ U wx vals hi hu hcl hC hp
        simp [ClosedL, UpL, predL, predE, Region.binds] at hcl
        have HCx := Lib.hid hC
        simp only [fillA, if_true, Act.put]
        simp
        clear hp hC hcl hu hi
        go_wp2
        exact ⟨rfl, γ, HCx.out.quiet (by decide) (by decide) (by decide) (by decide) (by decide), rfl, fun _ _ _ h => h⟩
      · intro γ U wx vals hi hu hcl hC hp
        simp [ClosedL, UpL, predL, predE, Region.binds] at hcl
        simp [predL, predE, Region.binds, UpL] at hu
        simp [predL, predE, Region.binds, PreV, ChV] at hp
        have HCx := Lib.hid hC
        simp only [fillA, if_true, Act.put]
        simp
        simp only [hp]
        clear hp hC hcl hu hi
        go_wp2
        exact ⟨rfl, γ, HCx.out.quiet (by decide) (by decide) (by decide) (by decide) (by decide), rfl, fun _ _ _ h => h⟩
      · intro γ U wx vals hi hu hcl hC hp
        simp [ClosedL, UpL, predL, predE, Region.binds] at hcl
        simp [predL, predE, Region.binds, UpL] at hu
        simp [predL, predE, Region.binds, PreV, ChV] at hp
        have HCx := Lib.hid hC
        simp only [fillA, if_true, Act.put]
        simp
        simp only [hp]
        clear hp hC hcl hu hi
        go_wp2
        exact ⟨rfl, γ, HCx.out.quiet (by decide) (by decide) (by decide) (by decide) (by decide), rfl, fun _ _ _ h => h⟩
      · intro γ U wx vals hi hu hcl hC hp
        simp [ClosedL, UpL, predL, predE, Region.binds] at hcl
        simp [predL, predE, Region.binds, UpL] at hu
        simp [predL, predE, Region.binds, PreV, ChV] at hp
        have h23 : U 23 = false := by clear hC hp; cases h : U 23 with | false => rfl | true => exfalso; simp_all
        have h26 : U 26 = false := by clear hC hp; cases h : U 26 with | false => rfl | true => exfalso; simp_all
        have h29 : U 29 = false := by clear hC hp; cases h : U 29 with | false => rfl | true => exfalso; simp_all
        have hbx := hC.bel h23 h26 h29
        have k1 := (HZB.out.later hbx).read 2
        simp at k1
        have HCx := Lib.hid hC
        simp only [fillA, if_true, Act.put]
        simp
        simp only [hp]
        clear hp hC hcl hu h23 h26 h29 hbx hi
        go_wp2
        exact ⟨rfl, γ, HCx.out.quiet (by decide) (by decide) (by decide) (by decide) (by decide), rfl, fun _ _ _ h => h⟩
      · intro γ U wx vals hi hu hcl hC hp
        simp [ClosedL, UpL, predL, predE, Region.binds] at hcl
        have HCx := Lib.hid hC
        simp only [fillA, if_true, Act.put]
        simp
        clear hp hC hcl hu hi
        go_wp2
        exact ⟨rfl, γ, HCx.out.quiet (by decide) (by decide) (by decide) (by decide) (by decide), rfl, fun _ _ _ h => h⟩
      · intro γ U wx vals hi hu hcl hC hp
        simp [ClosedL, UpL, predL, predE, Region.binds] at hcl
        simp [predL, predE, Region.binds, UpL] at hu
        simp [predL, predE, Region.binds, PreV, ChV] at hp
        have h23 : U 23 = false := by clear hC hp; cases h : U 23 with | false => rfl | true => exfalso; simp_all
        have h26 : U 26 = false := by clear hC hp; cases h : U 26 with | false => rfl | true => exfalso; simp_all
        have h29 : U 29 = false := by clear hC hp; cases h : U 29 with | false => rfl | true => exfalso; simp_all
        have HL := Lib.hid (HLB.out wx (hC.bel h23 h26 h29))
        have HCx := Lib.hid hC
        have H3 := Lib.hid (And.intro h23 (And.intro h26 h29))
        have hsz := hC.bel h23 h26 h29
        simp only [fillA, if_true, Act.put]
        simp
        simp only [hp]
        clear hp hC hcl hu h23 h26 h29 hsz
        go_wp2_with fail
        (with_reducible refine HL.out.mono ?_); rintro e w9 ⟨A, cA, rfl, hown, hb⟩
        simp only [List.length_map, HK.out] at hown ⊢
        have HM := Lib.hid (HCx.out.call2 H3.out.1 H3.out.2.1 H3.out.2.2 hb hown)
        clear hown hb
        go_wp2
        exact ⟨rfl, _, HM.out, rfl, fun jj u hj h => ChV.k2 (fun e => by rw [e, hi] at hj; cases hj) h⟩
      · intro γ U wx vals hi hu hcl hC hp
        simp [ClosedL, UpL, predL, predE, Region.binds] at hcl
        have HCx := Lib.hid hC
        simp only [fillA, if_true, Act.put]
        simp
        clear hp hC hcl hu hi
        go_wp2
        exact ⟨rfl, γ, HCx.out.quiet (by decide) (by decide) (by decide) (by decide) (by decide), rfl, fun _ _ _ h => h⟩
      · intro γ U wx vals hi hu hcl hC hp
        simp [ClosedL, UpL, predL, predE, Region.binds] at hcl
        simp [predL, predE, Region.binds, UpL] at hu
        simp [predL, predE, Region.binds, PreV, ChV] at hp
        have HCx := Lib.hid hC
        simp only [fillA, if_true, Act.put]
        simp
        simp only [hp]
        clear hp hC hcl hu hi
        go_wp2
        exact ⟨rfl, γ, HCx.out.quiet (by decide) (by decide) (by decide) (by decide) (by decide), rfl, fun _ _ _ h => h⟩
      · intro γ U wx vals hi hu hcl hC hp
        simp [ClosedL, UpL, predL, predE, Region.binds] at hcl
        simp [predL, predE, Region.binds, UpL] at hu
        simp [predL, predE, Region.binds, PreV, ChV] at hp
        have HCx := Lib.hid hC
        simp only [fillA, if_true, Act.put]
        simp
        simp only [hp]
        clear hp hC hcl hu hi
        go_wp2
        exact ⟨rfl, γ, HCx.out.quiet (by decide) (by decide) (by decide) (by decide) (by decide), rfl, fun _ _ _ h => h⟩
      · intro γ U wx vals hi hu hcl hC hp
        simp [ClosedL, UpL, predL, predE, Region.binds] at hcl
        simp [predL, predE, Region.binds, UpL] at hu
        simp [predL, predE, Region.binds, PreV, ChV] at hp
        have h23 : U 23 = false := by clear hC hp; cases h : U 23 with | false => rfl | true => exfalso; simp_all
        have h26 : U 26 = false := by clear hC hp; cases h : U 26 with | false => rfl | true => exfalso; simp_all
        have h29 : U 29 = false := by clear hC hp; cases h : U 29 with | false => rfl | true => exfalso; simp_all
        have hbx := hC.bel h23 h26 h29
        have k1 := (HZB.out.later hbx).read 3
        simp at k1
        have HCx := Lib.hid hC
        simp only [fillA, if_true, Act.put]
        simp
        simp only [hp]
        clear hp hC hcl hu h23 h26 h29 hbx hi
        go_wp2
        exact ⟨rfl, γ, HCx.out.quiet (by decide) (by decide) (by decide) (by decide) (by decide), rfl, fun _ _ _ h => h⟩
      · intro γ U wx vals hi hu hcl hC hp
        simp [ClosedL, UpL, predL, predE, Region.binds] at hcl
        have HCx := Lib.hid hC
        simp only [fillA, if_true, Act.put]
        simp
        clear hp hC hcl hu hi
        go_wp2
        exact ⟨rfl, γ, HCx.out.quiet (by decide) (by decide) (by decide) (by decide) (by decide), rfl, fun _ _ _ h => h⟩
      · intro γ U wx vals hi hu hcl hC hp
        simp [ClosedL, UpL, predL, predE, Region.binds] at hcl
        simp [predL, predE, Region.binds, UpL] at hu
        simp [predL, predE, Region.binds, PreV, ChV] at hp
        have HCx := Lib.hid hC
        simp only [fillA, if_true, Act.put]
        simp
        simp only [hp]
        clear hp hC hcl hu hi
        go_wp2
        exact ⟨rfl, γ, HCx.out.quiet (by decide) (by decide) (by decide) (by decide) (by decide), rfl, fun _ _ _ h => h⟩
      · intro γ U wx vals hi hu hcl hC hp
        simp [ClosedL, UpL, predL, predE, Region.binds] at hcl
        simp [predL, predE, Region.binds, UpL] at hu
        simp [predL, predE, Region.binds, PreV, ChV] at hp
        have HCx := Lib.hid hC
        simp only [fillA, if_true, Act.put]
        simp
        simp only [hp]
        clear hp hC hcl hu hi
        go_wp2
        exact ⟨rfl, γ, HCx.out.quiet (by decide) (by decide) (by decide) (by decide) (by decide), rfl, fun _ _ _ h => h⟩
      · intro γ U wx vals hi hu hcl hC hp
        simp [ClosedL, UpL, predL, predE, Region.binds] at hcl
        simp [predL, predE, Region.binds, UpL] at hu
        simp [predL, predE, Region.binds, PreV, ChV] at hp
        have HCx := Lib.hid hC
        simp only [fillA, if_true, Act.put]
        simp
        simp only [hp]
        clear hp hC hcl hu hi
        go_wp2
        exact ⟨rfl, γ, HCx.out.quiet (by decide) (by decide) (by decide) (by decide) (by decide), rfl, fun _ _ _ h => h⟩
      · intro γ U wx vals hi hu hcl hC hp
        simp [ClosedL, UpL, predL, predE, Region.binds] at hcl
        simp [predL, predE, Region.binds, UpL] at hu
        simp [predL, predE, Region.binds, PreV, ChV] at hp
        have h23 : U 23 = false := hi
        have h26 : U 26 = false := by clear hC hp; cases h : U 26 with | false => rfl | true => exfalso; simp_all
        have h29 : U 29 = false := by clear hC hp; cases h : U 29 with | false => rfl | true => exfalso; simp_all
        have hbx := hC.bel h23 h26 h29
        have k1 := (HZB.out.later hbx).read 1
        simp at k1
        have kf := (HZB.out.later hbx).free
        have HM := Lib.hid (hC.s1 h23 h26 h29)
        have HCx := Lib.hid hC
        simp only [fillA, if_true, Act.put]
        simp
        simp only [hp]
        clear hp hC hcl hu h23 h26 h29 hbx hi
        go_wp2
        exact ⟨rfl, γ, HM.out, trivial, fun _ _ _ h => h⟩
      · intro γ U wx vals hi hu hcl hC hp
        simp [ClosedL, UpL, predL, predE, Region.binds] at hcl
        simp [predL, predE, Region.binds, UpL] at hu
        simp [predL, predE, Region.binds, PreV, ChV] at hp
        have HCx := Lib.hid hC
        simp only [fillA, if_true, Act.put]
        simp
        simp only [hp]
        clear hp hC hcl hu hi
        go_wp2
        exact ⟨rfl, γ, HCx.out.quiet (by decide) (by decide) (by decide) (by decide) (by decide), rfl, fun _ _ _ h => h⟩
      · intro γ U wx vals hi hu hcl hC hp
        simp [ClosedL, UpL, predL, predE, Region.binds] at hcl
        simp [predL, predE, Region.binds, UpL] at hu
        simp [predL, predE, Region.binds, PreV, ChV] at hp
        have HCx := Lib.hid hC
        simp only [fillA, if_true, Act.put]
        simp
        simp only [hp]
        clear hp hC hcl hu hi
        go_wp2
        exact ⟨rfl, γ, HCx.out.quiet (by decide) (by decide) (by decide) (by decide) (by decide), rfl, fun _ _ _ h => h⟩
      · intro γ U wx vals hi hu hcl hC hp
        simp [ClosedL, UpL, predL, predE, Region.binds] at hcl
        simp [predL, predE, Region.binds, UpL] at hu
        simp [predL, predE, Region.binds, PreV, ChV] at hp
        have h23 : U 23 = true := by simp [hu]
        have h26 : U 26 = false := hi
        have h29 : U 29 = false := by clear hC hp; cases h : U 29 with | false => rfl | true => exfalso; simp_all
        obtain ⟨u9, hb9, hw9⟩ := hC.at1 h23 h26 h29
        have hbl := (HZB.out.later hb9).put 1 (.slice γ.A1 N γ.c1)
        rw [← hw9] at hbl
        have k1 := hbl.read 2
        simp at k1
        have kf := hbl.free
        clear hbl hw9 hb9
        have HM := Lib.hid (hC.s2 h23 h26 h29)
        have HCx := Lib.hid hC
        simp only [fillA, if_true, Act.put]
        simp
        simp only [hp]
        clear hp hC hcl hu h23 h26 h29 hi
        go_wp2
        exact ⟨rfl, γ, HM.out, trivial, fun _ _ _ h => h⟩
      · intro γ U wx vals hi hu hcl hC hp
        simp [ClosedL, UpL, predL, predE, Region.binds] at hcl
        simp [predL, predE, Region.binds, UpL] at hu
        simp [predL, predE, Region.binds, PreV, ChV] at hp
        have HCx := Lib.hid hC
        simp only [fillA, if_true, Act.put]
        simp
        simp only [hp]
        clear hp hC hcl hu hi
        go_wp2
        exact ⟨rfl, γ, HCx.out.quiet (by decide) (by decide) (by decide) (by decide) (by decide), rfl, fun _ _ _ h => h⟩
      · intro γ U wx vals hi hu hcl hC hp
        simp [ClosedL, UpL, predL, predE, Region.binds] at hcl
        simp [predL, predE, Region.binds, UpL] at hu
        simp [predL, predE, Region.binds, PreV, ChV] at hp
        have HCx := Lib.hid hC
        simp only [fillA, if_true, Act.put]
        simp
        simp only [hp]
        clear hp hC hcl hu hi
        go_wp2
        exact ⟨rfl, γ, HCx.out.quiet (by decide) (by decide) (by decide) (by decide) (by decide), rfl, fun _ _ _ h => h⟩
      · intro γ U wx vals hi hu hcl hC hp
        simp [ClosedL, UpL, predL, predE, Region.binds] at hcl
        simp [predL, predE, Region.binds, UpL] at hu
        simp [predL, predE, Region.binds, PreV, ChV] at hp
        have h23 : U 23 = true := by simp [hu]
        have h26 : U 26 = true := by simp [hu]
        have h29 : U 29 = false := hi
        obtain ⟨u9, hb9, hw9⟩ := hC.at2 h23 h26 h29
        have hbl := ((HZB.out.later hb9).put 1 (.slice γ.A1 N γ.c1)).put 2 (.slice γ.A2 K γ.c2)
        rw [← hw9] at hbl
        have k1 := hbl.read 3
        simp at k1
        have kf := hbl.free
        clear hbl hw9 hb9
        have HM := Lib.hid (hC.s3 h23 h26 h29)
        have HCx := Lib.hid hC
        simp only [fillA, if_true, Act.put]
        simp
        simp only [hp]
        clear hp hC hcl hu h23 h26 h29 hi
        go_wp2
        exact ⟨rfl, γ, HM.out, trivial, fun _ _ _ h => h⟩
    · intro γ w8 vals U hC hall hV
      obtain ⟨u, hbu, ho1, ho2, rfl⟩ := hC.end_ (hall 8 (by simp)) (hall 14 (by simp)) (hall 23 (by simp)) (hall 26 (by simp)) (hall 29 (by simp))
      simp only [fillA, if_true, Act.put]
      simp
      clear hV hC hall
      have hblu := HZB.out.later hbu
      have y4 := hblu.read 4
      simp at y4
      have yf := hblu.free
      have hRu := hblu.size_lt
      have hzs := HZC.out.size
      obtain ⟨v1, hv1⟩ : ∃ v1, Value.slice γ.A1 N γ.c1 = v1 := ⟨_, rfl⟩
      obtain ⟨v2, hv2⟩ : ∃ v2, Value.slice γ.A2 K γ.c2 = v2 := ⟨_, rfl⟩
      rw [hv1] at ho1
      rw [hv2] at ho2
      rw [hv1, hv2]
      have hb8 := (((hblu.put 1 v1).put 2 v2).put 3 (.int .i64 (nw - bq))).put 4 (.int .i64 (r.away + bq))
      simp at hb8
      have hk8 : ∀ k, k ≠ R → ((((u.setCell ⟨R, 1, none⟩ v1).setCell ⟨R, 2, none⟩ v2).setCell ⟨R, 3, none⟩ (.int .i64 (nw - bq))).setCell ⟨R, 4, none⟩ (.int .i64 (r.away + bq))).heap[k]? = u.heap[k]? := fun k hk =>
        (Below.heap_setCell _ ⟨R, 4, none⟩ _ k hk).trans ((Below.heap_setCell _ ⟨R, 3, none⟩ _ k hk).trans ((Below.heap_setCell _ ⟨R, 2, none⟩ _ k hk).trans (Below.heap_setCell _ ⟨R, 1, none⟩ _ k hk)))
      have q1 := owk ho1 fun k hk => hk8 k (by have := row_own ho1 k hk; omega)
      have q2 := owk ho2 fun k hk => hk8 k (by have := row_own ho2 k hk; omega)
      have hcg8 := ((((HZC.out.trans (Chg.of_below hbu)).setCell (g := R) rfl 1 v1).setCell (g := R) rfl 2 v2).setCell (g := R) rfl 3 (.int .i64 (nw - bq))).setCell (g := R) rfl 4 (.int .i64 (r.away + bq))
      have HF := Lib.hid (RsAns.mk (r := ⟨r.at_, L2.map (lowT bq), r.O.map (lowT bq), nw - bq, r.away + bq⟩) (T := T) (x := .int .i64 0) (e := .returned (.int .i64 0)) rfl ⟨hb8, LsV.fresh q1 (by simp [hlen2]) hzs, LsV.fresh q2 (by simp [HK.out]) hzs⟩ HTR.out HRS.out.1 HRS.out.2 hcg8)
      clear hblu hb8 hk8 q1 q2 hcg8 ho1 ho2 hv1 hv2 hbu HLA HLB HRS
      go_wp2
      go_ret
      exact HF.out
end Go.Proofs.Ytkfhjpgapmfiaaa

