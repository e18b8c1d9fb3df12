/-
  Layer 10: contract of the reference's AddStation.
-/
import Derived.Test.YtgojbomdkdlclaaFlRef2
namespace Go.Proofs.Ytgojbomdkdlclaa
open Go.ChangeShapes Go.WideShapes Go.ChangeAt Go.RowKit
set_option linter.unusedVariables false

/-- Behind a grown row: the table's own block. -/
theorem RW.after {w w1 w2 : World} {C R : Nat} {t : Tb} {vS vF vG v : Value} (h : RW w C R t vS vF vG) (hb : Below w.heap.size w w1) (hg : w1.grownBy w2 v.ownBlock) (hn : v.ownBlock ≠ some R) : w2.heap[R]? = w.heap[R]? := by
  have hR := (h.lt R (.inl rfl)).2
  exact (hg.block R (by have := hb.size; omega) (fun e => hn e.symm)).trans (hb.block R hR)
/-- What an append of one station leaves, from the world behind its making on. -/
structure AppS (w : World) (C R : Nat) (t t' : Tb) (vS vF vG : Value) (nw : List Value) (w2 : World) (A2 : Option Addr) (c2 : Nat) (w3 : World) : Prop where
  app : (Builtin.append_ #[56, 56] 56 #[vS, .slice (some ⟨w2.heap.size, 0, none⟩) 1 1]).run Try.prog (w2.alloc (.cells nw.toArray 68)) = .ok (.slice A2 (t.S.length + 1) c2) w3
  q2 : w3.cell? ⟨R, 2, none⟩ = some vS
  qf : w3.frozen? ⟨R, 2, none⟩ = false
  rw_ : RW (w3.setCell ⟨R, 2, none⟩ (.slice A2 (t.S.length + 1) c2)) C R t' (.slice A2 (t.S.length + 1) c2) vF vG
  chg : Chg (rfoot R vS vF vG) w (w3.setCell ⟨R, 2, none⟩ (.slice A2 (t.S.length + 1) c2))
  foot : ∀ k, rfoot R (.slice A2 (t.S.length + 1) c2) vF vG k → rfoot R vS vF vG k ∨ w.heap.size ≤ k
theorem RW.appS {w w2 : World} {C R : Nat} {t : Tb} {vS vF vG : Value} (h : RW w C R t vS vF vG) (hb : Below w.heap.size w w2) (hl : t.S.length ≤ 16) (s : Sta) :
    ∃ A2 c2 w3, AppS w C R t { t with S := t.S ++ [s] } vS vF vG (csS s) w2 A2 c2 w3 := by
  have hsz := hb.size
  have hlo := (h.lt R (.inl rfl))
  have hb' := hb.alloc hsz (.cells (csS s).toArray 68)
  obtain ⟨v2, w3, hrun, he, hg, hv⟩ := run_append_one (P := Try.prog) (w := w2.alloc (.cells (csS s).toArray 68)) 56 56 Try.underlying56 info_sta rfl (by decide) (row_from h.rowS hb') ⟨w2.heap.size, 0, none⟩ (csS_len s) (newCells w2 _ _) (csS_one _) (by omega) (by decide) (by simp; omega)
  obtain ⟨A2, c2, rfl⟩ := ow_shape he
  obtain ⟨_, _, d2, _, _, df⟩ := blk5 ((h.after hb' hg h.apart.1).trans h.blk)
  rw [← srs_snoc] at he
  obtain ⟨p1, p2, p3⟩ := h.pushS (t' := { t with S := t.S ++ [s] }) hb' hg hv (by simpa using he) rfl rfl rfl rfl
  exact ⟨A2, c2, w3, hrun, d2, df 2, p1, p2, p3⟩
structure AppF (w : World) (C R : Nat) (t t' : Tb) (vS vF vG : Value) (nw : List Value) (w2 : World) (A2 : Option Addr) (c2 : Nat) (w3 : World) : Prop where
  app : (Builtin.append_ #[44, 44] 44 #[vF, .slice (some ⟨w2.heap.size, 0, none⟩) 1 1]).run Try.prog (w2.alloc (.cells nw.toArray 72)) = .ok (.slice A2 (t.F.length + 1) c2) w3
  q3 : w3.cell? ⟨R, 3, none⟩ = some vF
  qf : w3.frozen? ⟨R, 3, none⟩ = false
  rw_ : RW (w3.setCell ⟨R, 3, none⟩ (.slice A2 (t.F.length + 1) c2)) C R t' vS (.slice A2 (t.F.length + 1) c2) vG
  chg : Chg (rfoot R vS vF vG) w (w3.setCell ⟨R, 3, none⟩ (.slice A2 (t.F.length + 1) c2))
  foot : ∀ k, rfoot R vS (.slice A2 (t.F.length + 1) c2) vG k → rfoot R vS vF vG k ∨ w.heap.size ≤ k
theorem RW.appF {w w2 : World} {C R : Nat} {t : Tb} {vS vF vG : Value} (h : RW w C R t vS vF vG) (hb : Below w.heap.size w w2) (hl : t.F.length ≤ 32) (f : Flo) :
    ∃ A2 c2 w3, AppF w C R t { t with F := t.F ++ [f] } vS vF vG (csF f) w2 A2 c2 w3 := by
  have hsz := hb.size
  have hlo := (h.lt R (.inl rfl))
  have hb' := hb.alloc hsz (.cells (csF f).toArray 72)
  obtain ⟨v2, w3, hrun, he, hg, hv⟩ := run_append_one (P := Try.prog) (w := w2.alloc (.cells (csF f).toArray 72)) 44 44 Try.underlying44 info_flo rfl (by decide) (row_from h.rowF hb') ⟨w2.heap.size, 0, none⟩ (csF_len f) (newCells w2 _ _) (csF_one _) (by omega) (by decide) (by simp; omega)
  obtain ⟨A2, c2, rfl⟩ := ow_shape he
  obtain ⟨_, _, _, d3, _, df⟩ := blk5 ((h.after hb' hg h.apart.2.1).trans h.blk)
  rw [← srs_snoc] at he
  obtain ⟨p1, p2, p3⟩ := h.pushF (t' := { t with F := t.F ++ [f] }) hb' hg hv (by simpa using he) rfl rfl rfl rfl
  exact ⟨A2, c2, w3, hrun, d3, df 3, p1, p2, p3⟩
set_option maxHeartbeats 2000000 in
theorem raddStation_bad {C R : Nat} {S : Nat → Prop} {t : Tb} {w : World} (h : RO C R S t w) (n : ByteArray) (hn : n.size ≤ 2000000) (x r : Int) (hc : ((nam n).isSome && gwB x && decide (0 ≤ r) && decide (r < t.rt)) = false) :
    Calls Try.prog 24 #[.pointer (some ⟨R, 0, none⟩), .string n, .int .i64 x, .int .i64 r] w (RAns C R S t (.tuple #[.int .i64 0, .int .i64 1]) w) := by
  have HV := validName_any n w hn
  have HST := Lib.hid (fun w' (hb : Below w.heap.size w w') => RAns.stay (x := .tuple #[.int .i64 0, .int .i64 1]) h hb)
  have HW := goodWeight_any x
  obtain ⟨h0, ⟨vS, vF, vG, h1, hS⟩, hO⟩ := h
  obtain ⟨c0, c1, c2, c3, c4, _⟩ := h1.cells
  generalize t.rt = rt at *
  rcases and4.1 hc with a | ⟨a, b⟩ | ⟨a, b, c⟩ | ⟨a, b, c, d⟩
  · rw [a] at HV
    have HV := Lib.hid HV
    clear h1 h0 c0 c1 c2 c3 c4 hc a
    go_enter Try.func24, Try.ntmps24
    go_wp2_with fail
    (with_reducible refine HV.out.mono ?_); rintro e w1 ⟨rfl, hb⟩
    have HF := Lib.hid (HST.out w1 hb)
    go_wp2
    go_ret2
    exact HF.out
  · rw [a] at HV
    have HV := Lib.hid HV
    rw [b] at HW
    have HW := Lib.hid HW
    clear h1 h0 c0 c1 c2 c3 c4 hc a b
    go_enter Try.func24, Try.ntmps24
    go_wp2_with fail
    (with_reducible refine HV.out.mono ?_); rintro e w1 ⟨rfl, hb⟩
    have HF := Lib.hid (HST.out w1 hb)
    clear hb
    go_wp2_with fail
    (with_reducible refine (HW.out _).mono ?_); rintro e w' ⟨rfl, rfl⟩
    go_wp2
    go_ret2
    exact HF.out
  · rw [a] at HV
    have HV := Lib.hid HV
    rw [b] at HW
    have HW := Lib.hid HW
    have hr : r < 0 := by simpa using c
    clear h1 h0 c0 c1 c2 c3 c4 hc a b c
    go_enter Try.func24, Try.ntmps24
    go_wp2_with fail
    (with_reducible refine HV.out.mono ?_); rintro e w1 ⟨rfl, hb⟩
    have HF := Lib.hid (HST.out w1 hb)
    clear hb
    go_wp2_with fail
    (with_reducible refine (HW.out _).mono ?_); rintro e w' ⟨rfl, rfl⟩
    go_wp2
    go_ret2
    exact HF.out
  · rw [a] at HV
    have HV := Lib.hid HV
    rw [b] at HW
    have HW := Lib.hid HW
    have hr00 : 0 ≤ r := by simpa using c
    have hr0 : ¬ r < 0 := by omega
    clear hr00
    have hr : rt ≤ r := by simpa using d
    clear h1 h0 c0 c2 c3 c4 hc a b c d
    go_enter Try.func24, Try.ntmps24
    go_wp2_with fail
    (with_reducible refine HV.out.mono ?_); rintro e w1 ⟨rfl, hb⟩
    have HF := Lib.hid (HST.out w1 hb)
    have c1 := cell_on c1 hb
    clear hb
    go_wp2_with fail
    (with_reducible refine (HW.out _).mono ?_); rintro e w' ⟨rfl, rfl⟩
    go_wp2
    go_ret2
    exact HF.out
set_option maxRecDepth 100000 in
set_option maxHeartbeats 4000000 in
theorem raddStation_good {C R : Nat} {S : Nat → Prop} {t : Tb} {w : World} (h : RO C R S t w) (n : ByteArray) (hn : n.size ≤ 2000000) (x r : Int) (hc : ((nam n).isSome && gwB x && decide (0 ≤ r) && decide (r < t.rt)) = true) :
    Calls Try.prog 24 #[.pointer (some ⟨R, 0, none⟩), .string n, .int .i64 x, .int .i64 r] w (RAns C R S (asT t n x r) (.tuple #[.int .i64 (asX t n x r), .int .i64 (asE t n x r)]) w) := by
  have HV := validName_any n w hn
  have HST := Lib.hid (fun x w' (hb : Below w.heap.size w w') => RAns.stay (x := x) h hb)
  have HT := Lib.hid (TbOk.addS h.1 n x r)
  have hlo := h.lo
  have hc' := hc
  simp only [Bool.and_eq_true, decide_eq_true_eq] at hc'
  obtain ⟨⟨⟨q1, q2⟩, q3⟩, q4⟩ := hc'
  rw [q1] at HV
  have HV := Lib.hid HV
  have HW := goodWeight_any x
  rw [q2] at HW
  have HW := Lib.hid HW
  have hr0 : ¬ r < 0 := by omega
  have hr1 : ¬ t.rt ≤ r := by omega
  have HFI := Lib.hid (fun w' (hb : Below w.heap.size w w') => rfind_any (h.below hb) n hn)
  unfold Quiet at HFI
  obtain ⟨h0, ⟨vS, vF, vG, h1, hS⟩, hO⟩ := h
  have HK := Lib.hid (fun w' (hb : Below w.heap.size w w') => (h1.below hb).cells)
  have hf := h0.few
  obtain ⟨A, c, rfl⟩ := ow_shape h1.rowS
  cases k1 : (fndN t.S n).isSome
  · rw [k1] at HFI
    by_cases k2 : 16 ≤ t.S.length
    · obtain ⟨e1, e2, e3⟩ := as_4 hc k1 k2
      rw [e1, e2, e3]
      have k4 : t.S.length = 16 := by omega
      rw [k4] at HK
      generalize t.rt = rt at *
      generalize fdV t.S n = fv at *
      clear e1 e2 e3 h1 h0 hc k1 hf q1 q2 k2 hO hS
      go_enter Try.func24, Try.ntmps24
      go_wp2_with fail
      (with_reducible refine HV.out.mono ?_); rintro e w1 ⟨rfl, hb⟩
      obtain ⟨c0, c1, c2, c3, c4, _⟩ := HK.out w1 hb
      have HX := Lib.hid (HFI.out w1 hb)
      have HB := Lib.hid hb
      clear hb c0 c2 c3 c4
      go_wp2_with fail
      (with_reducible refine (HW.out _).mono ?_); rintro e w' ⟨rfl, rfl⟩
      go_wp2_with fail
      (with_reducible refine HX.out.mono ?_); rintro e w2 ⟨rfl, hb⟩
      have hb2 := HB.out.trans (hb.mono HB.out.size)
      obtain ⟨c0, c1, c2, c3, c4, _⟩ := HK.out w2 hb2
      have HF := Lib.hid (fun x => HST.out x w2 hb2)
      clear hb hb2 c0 c1 c3 c4
      go_wp2
      go_ret2
      exact HF.out _
    · obtain ⟨e1, e2, e3⟩ := as_0 hc k1 k2
      rw [e1, e2]
      rw [e3] at HT ⊢
      have k4 : ¬ (16 : Int) ≤ t.S.length := by omega
      have HALL := Lib.hid (fun w2 (hb : Below w.heap.size w w2) => h1.appS hb (by omega) (newS t n x r))
      have HC : C ≤ w.heap.size := by omega
      have hsl : t.S.length < 16 := by omega
      have hwl : IntKind.i64.wrap ((t.S.length : Int) + 1 - 1) = t.S.length := by rw [show (t.S.length : Int) + 1 - 1 = t.S.length by omega]; exact IntWalk.i64_in _ (by omega)
      generalize hrt : t.rt = rt at *
      generalize fdV t.S n = fv at *
      clear e1 e2 e3 h1 k1 hf q1 q2 k2 hc HST
      go_enter Try.func24, Try.ntmps24
      go_wp2_with fail
      (with_reducible refine HV.out.mono ?_); rintro e w1 ⟨rfl, hb⟩
      obtain ⟨c0, c1, c2, c3, c4, _⟩ := HK.out w1 hb
      have HX := Lib.hid (HFI.out w1 hb)
      have HB := Lib.hid hb
      clear hb c0 c2 c3 c4
      go_wp2_with fail
      (with_reducible refine (HW.out _).mono ?_); rintro e w' ⟨rfl, rfl⟩
      go_wp2_with fail
      (with_reducible refine HX.out.mono ?_); rintro e w2 ⟨rfl, hb⟩
      have hb2 := HB.out.trans (hb.mono HB.out.size)
      obtain ⟨c0, c1, c2, c3, c4, _⟩ := HK.out w2 hb2
      have hb3 := hb2.drew
      have d3 := fun (o : Obj) => cell_alloc_of c2 o
      obtain ⟨A2, c2', w3, HA⟩ := HALL.out _ hb3
      have a2 := HA.q2
      have a3 := HA.qf
      have HA := Lib.hid HA
      clear hb hb2 hb3 c0 c1 c3 c4
      go_wp2_with fail
      refine wp_region_any (by kernel_rfl) ?_
      try (change wpAny _ _ _ _ _ _ _ (World.drew _))
      refine wpAny_take (i := 0) (v := ?_) rfl (by kernel_rfl) (by kernel_rfl) (by kernel_rfl) (fun _ _ _ h => h) (Or.inl ⟨by rfl, ?_⟩) ?_; rotate_left 1; focus (intro w; go_simp; try with_reducible rfl)
      refine wpAny_take (i := 1) (v := ?_) rfl (by kernel_rfl) (by kernel_rfl) (by kernel_rfl) (fun _ _ _ h => h) (Or.inl ⟨by rfl, ?_⟩) ?_; rotate_left 1; focus (intro w; go_simp; try with_reducible rfl)
      refine wpAny_take (i := 2) (v := ?_) rfl (by kernel_rfl) (by kernel_rfl) (by kernel_rfl) (fun _ _ _ h => h) (Or.inl ⟨by rfl, ?_⟩) ?_; rotate_left 1; focus (intro w; go_simp; try with_reducible rfl)
      refine wpAny_take (i := 3) (v := ?_) rfl (by kernel_rfl) (by kernel_rfl) (by kernel_rfl) (fun _ _ _ h => h) (Or.inl ⟨by rfl, ?_⟩) ?_; rotate_left 1; focus (intro w; go_simp; try with_reducible rfl)
      refine wpAny_take (i := 5) (v := ?_) rfl (by kernel_rfl) (by kernel_rfl) (by kernel_rfl) (fun _ _ _ h => h) (Or.inl ⟨by rfl, ?_⟩) ?_; rotate_left 1; focus (intro w; go_simp; try with_reducible rfl)
      refine wpAny_take (i := 6) (v := ?_) rfl (by kernel_rfl) (by kernel_rfl) (by kernel_rfl) (fun _ _ _ h => h) (Or.inl ⟨by rfl, ?_⟩) ?_; rotate_left 1; focus (intro w; go_simp; try with_reducible rfl)
      refine wpAny_take (i := 7) (v := ?_) rfl (by kernel_rfl) (by kernel_rfl) (by kernel_rfl) (fun _ _ _ h => h) (Or.inl ⟨by rfl, ?_⟩) ?_; rotate_left 1; focus (intro w; go_simp; try with_reducible rfl)
      refine wpAny_take (i := 10) (v := ?_) rfl (by kernel_rfl) (by kernel_rfl) (by kernel_rfl) (fun _ _ _ h => h) (Or.inl ⟨by rfl, ?_⟩) ?_; rotate_left 1; focus (intro w; go_simp; try with_reducible rfl)
      refine wpAny_take (i := 11) (v := ?_) rfl (by kernel_rfl) (by kernel_rfl) (by kernel_rfl) (fun _ _ _ h => h) (Or.inl ⟨by rfl, ?_⟩) ?_; rotate_left 1; focus (intro w; go_simp; try with_reducible rfl)
      refine wpAny_take (i := 12) (v := ?_) rfl (by kernel_rfl) (by kernel_rfl) (by kernel_rfl) (fun _ _ _ h => h) (Or.inl ⟨by rfl, ?_⟩) ?_; rotate_left 1; focus (intro w; go_simp; try with_reducible rfl)
      refine wpAny_ready (rs := [4, 8]) (by kernel_rfl) (by simp) ?_
      refine AllReady.cons rfl (fun K hK => ?_) (AllReady.cons rfl (fun K hK => ?_) AllReady.nil)
      · go_simp; refine hK _ _ ?_; clear hK K
        refine wpAny_ready (rs := [8]) (by kernel_rfl) (by simp) ?_
        refine AllReady.cons rfl (fun K hK => ?_) AllReady.nil
        go_simp; refine hK _ _ ?_; clear hK K
        refine wpAny_take (i := 9) (v := ?_) rfl (by kernel_rfl) (by kernel_rfl) (by kernel_rfl) (fun _ _ _ h => h) (Or.inl ⟨by rfl, ?_⟩) ?_; rotate_left 1; focus (intro w; go_simp; try with_reducible rfl)
        refine wpAny_take (i := 13) (v := ?_) rfl (by kernel_rfl) (by kernel_rfl) (by kernel_rfl) (fun _ _ _ h => h) (Or.inl ⟨by rfl, ?_⟩) ?_; rotate_left 1; focus (intro w; go_simp; try with_reducible rfl)
        refine wpAny_ready (rs := [14]) (by kernel_rfl) (by simp) ?_
        refine AllReady.cons rfl (fun K hK => ?_) AllReady.nil
        go_simp; refine hK _ _ ?_; clear hK K
        refine wpAny_ready (rs := [15]) (by kernel_rfl) (by simp) ?_
        refine AllReady.cons rfl (fun K hK => ?_) AllReady.nil
        rw [if_pos (by rfl)]; refine wp_append_one (.tmp 49) (.tmp 59) 56 rfl rfl rfl HA.out.app ?_; refine hK _ _ ?_; clear hK K
        refine wpAny_take (i := 16) (v := ?_) rfl (by kernel_rfl) (by kernel_rfl) (by kernel_rfl) (fun _ _ _ h => h) (Or.inl ⟨by rfl, ?_⟩) ?_; rotate_left 1; focus (intro w; go_simp; try with_reducible rfl)
        refine wpAny_take (i := 17) (v := ?_) rfl (by kernel_rfl) (by kernel_rfl) (by kernel_rfl) (fun _ _ _ h => h) (Or.inl ⟨by rfl, ?_⟩) ?_; rotate_left 1; focus (intro w; go_simp; try with_reducible rfl)
        refine wpAny_ready (rs := [18]) (by kernel_rfl) (by simp) ?_
        refine AllReady.cons rfl (fun K hK => ?_) AllReady.nil
        go_simp; refine hK _ _ ?_; clear hK K
        refine wpAny_done (by kernel_rfl) ?_ _
        have HF := Lib.hid (RAns.done (x := .tuple #[.int .i64 t.S.length, .int .i64 0]) hO hS HT.out HA.out.rw_ HA.out.chg HA.out.foot)
        go_wp2
        go_ret2
        exact HF.out
      · go_simp; refine hK _ _ ?_; clear hK K
        refine wpAny_take (i := 9) (v := ?_) rfl (by kernel_rfl) (by kernel_rfl) (by kernel_rfl) (fun _ _ _ h => h) (Or.inl ⟨by rfl, ?_⟩) ?_; rotate_left 1; focus (intro w; go_simp; try with_reducible rfl)
        refine wpAny_take (i := 13) (v := ?_) rfl (by kernel_rfl) (by kernel_rfl) (by kernel_rfl) (fun _ _ _ h => h) (Or.inl ⟨by rfl, ?_⟩) ?_; rotate_left 1; focus (intro w; go_simp; try with_reducible rfl)
        refine wpAny_ready (rs := [4, 14]) (by kernel_rfl) (by simp) ?_
        refine AllReady.cons rfl (fun K hK => ?_) (AllReady.cons rfl (fun K hK => ?_) AllReady.nil)
        · go_simp; refine hK _ _ ?_; clear hK K
          refine wpAny_ready (rs := [14]) (by kernel_rfl) (by simp) ?_
          refine AllReady.cons rfl (fun K hK => ?_) AllReady.nil
          go_simp; refine hK _ _ ?_; clear hK K
          refine wpAny_ready (rs := [15]) (by kernel_rfl) (by simp) ?_
          refine AllReady.cons rfl (fun K hK => ?_) AllReady.nil
          rw [if_pos (by rfl)]; refine wp_append_one (.tmp 49) (.tmp 59) 56 rfl rfl rfl HA.out.app ?_; refine hK _ _ ?_; clear hK K
          refine wpAny_take (i := 16) (v := ?_) rfl (by kernel_rfl) (by kernel_rfl) (by kernel_rfl) (fun _ _ _ h => h) (Or.inl ⟨by rfl, ?_⟩) ?_; rotate_left 1; focus (intro w; go_simp; try with_reducible rfl)
          refine wpAny_take (i := 17) (v := ?_) rfl (by kernel_rfl) (by kernel_rfl) (by kernel_rfl) (fun _ _ _ h => h) (Or.inl ⟨by rfl, ?_⟩) ?_; rotate_left 1; focus (intro w; go_simp; try with_reducible rfl)
          refine wpAny_ready (rs := [18]) (by kernel_rfl) (by simp) ?_
          refine AllReady.cons rfl (fun K hK => ?_) AllReady.nil
          go_simp; refine hK _ _ ?_; clear hK K
          refine wpAny_done (by kernel_rfl) ?_ _
          have HF := Lib.hid (RAns.done (x := .tuple #[.int .i64 t.S.length, .int .i64 0]) hO hS HT.out HA.out.rw_ HA.out.chg HA.out.foot)
          go_wp2
          go_ret2
          exact HF.out
        · go_simp; refine hK _ _ ?_; clear hK K
          refine wpAny_ready (rs := [4]) (by kernel_rfl) (by simp) ?_
          refine AllReady.cons rfl (fun K hK => ?_) AllReady.nil
          go_simp; refine hK _ _ ?_; clear hK K
          refine wpAny_ready (rs := [15]) (by kernel_rfl) (by simp) ?_
          refine AllReady.cons rfl (fun K hK => ?_) AllReady.nil
          rw [if_pos (by rfl)]; refine wp_append_one (.tmp 49) (.tmp 59) 56 rfl rfl rfl HA.out.app ?_; refine hK _ _ ?_; clear hK K
          refine wpAny_take (i := 16) (v := ?_) rfl (by kernel_rfl) (by kernel_rfl) (by kernel_rfl) (fun _ _ _ h => h) (Or.inl ⟨by rfl, ?_⟩) ?_; rotate_left 1; focus (intro w; go_simp; try with_reducible rfl)
          refine wpAny_take (i := 17) (v := ?_) rfl (by kernel_rfl) (by kernel_rfl) (by kernel_rfl) (fun _ _ _ h => h) (Or.inl ⟨by rfl, ?_⟩) ?_; rotate_left 1; focus (intro w; go_simp; try with_reducible rfl)
          refine wpAny_ready (rs := [18]) (by kernel_rfl) (by simp) ?_
          refine AllReady.cons rfl (fun K hK => ?_) AllReady.nil
          go_simp; refine hK _ _ ?_; clear hK K
          refine wpAny_done (by kernel_rfl) ?_ _
          have HF := Lib.hid (RAns.done (x := .tuple #[.int .i64 t.S.length, .int .i64 0]) hO hS HT.out HA.out.rw_ HA.out.chg HA.out.foot)
          go_wp2
          go_ret2
          exact HF.out
  · rw [k1] at HFI
    obtain ⟨e1, e2, e3⟩ := as_7 hc k1
    rw [e1, e2, e3]
    generalize t.rt = rt at *
    generalize fdV t.S n = fv at *
    clear e1 e2 e3 h1 h0 hc k1 hf q1 q2 hO hS
    go_enter Try.func24, Try.ntmps24
    go_wp2_with fail
    (with_reducible refine HV.out.mono ?_); rintro e w1 ⟨rfl, hb⟩
    obtain ⟨c0, c1, c2, c3, c4, _⟩ := HK.out w1 hb
    have HX := Lib.hid (HFI.out w1 hb)
    have HB := Lib.hid hb
    clear hb c0 c2 c3 c4
    go_wp2_with fail
    (with_reducible refine (HW.out _).mono ?_); rintro e w' ⟨rfl, rfl⟩
    go_wp2_with fail
    (with_reducible refine HX.out.mono ?_); rintro e w2 ⟨rfl, hb⟩
    have HF := Lib.hid (fun x => HST.out x w2 (HB.out.trans (hb.mono HB.out.size)))
    clear hb
    go_wp2
    go_ret2
    exact HF.out _
end Go.Proofs.Ytgojbomdkdlclaa

