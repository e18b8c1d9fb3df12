/-
  Layer 11: contract of the program's Expire.
-/
import Derived.Test.YtijdfkdfojiffaaQpList
namespace Go.Proofs.Ytijdfkdfojiffaa
open Go.ChangeShapes Go.WideShapes Go.ChangeAt Go.RowKit
set_option linter.unusedVariables false

theorem rnd_len (s : Int) (L : List Pk) (k : Nat) : (rndL s L k).length ≤ L.length := by
  unfold rndL
  have h1 := flt_len (fun p => !lateB s p) (L.take k)
  rw [List.length_append, List.length_drop]
  rw [List.length_take] at h1
  omega
theorem flt_le (s : Int) (L : List Pk) (k : Nat) : ((L.take k).filter (lateB s)).length ≤ L.length := by
  have h1 := flt_len (lateB s) (L.take k)
  rw [List.length_take] at h1
  omega
theorem Chg.then_below {S : Nat → Prop} {a w w' : World} (h : Chg S a w) (hb : Below a.heap.size w w') : Chg S a w' :=
  ⟨hb.os.trans h.os, hb.tape.trans h.tape, hb.output.trans h.output, Nat.le_trans h.size hb.size, fun k hk hn => (hb.block k hk).trans (h.block k hk hn)⟩
set_option maxRecDepth 100000 in
set_option maxHeartbeats 4000000 in
theorem qexpire_any {C : Nat} {b : Qb} {q : Qu} {w : World} (h : QO C b q w) (s : Int) :
    Calls Try.prog 24 #[.pointer (some ⟨b.H, 0, none⟩), .int .i64 s] w (QGot C b (exT q s) (exL q s) w) := by
  obtain ⟨h0, M0, P0, h1, h2⟩ := h
  have hn := h2.len
  have hf := h0.few
  have hfoot := h1.lt
  obtain ⟨_, _, _, c3, _⟩ := h1.cells
  have HL := qlen_any h1
  rw [hn] at HL
  have HL := Lib.hid HL
  have HFT : Hid (∀ k, qfoot b k → k < w.heap.size) := Lib.hid (fun k e => (hfoot k e).2)
  have hok := Lib.hid (h0.expire s)
  have H1 := Lib.hid h1
  have H2 := Lib.hid (show Pl M0 P0 (rndL s q.L 0) by rw [rnd_0]; exact h2)
  have HRC := Lib.hid (fun k (hk : k < q.L.length) => rnd_cons s q.L hk)
  have HRL := Lib.hid (fun k (hk : k < q.L.length) (e : lateB s q.L[k] = true) => rnd_late hk e)
  have HRS := Lib.hid (fun k (hk : k < q.L.length) (e : lateB s q.L[k] = false) => rnd_stay hk e)
  have HRA := Lib.hid (rnd_all s q.L)
  have HFA := Lib.hid (flt_all (lateB s) q.L)
  have HFL := Lib.hid (fun k => flt_le s q.L k)
  have HRN := Lib.hid (fun k => rnd_len s q.L k)
  have hH := (h1.lt b.H (.inl rfl)).2
  have HLT := Lib.hid (fun p w => qlate_any p s w)
  unfold Calm at HLT
  unfold exT at hok
  unfold QGot exT exL
  obtain ⟨mp, hmp⟩ : ∃ mp, q.mp = mp := ⟨_, rfl⟩
  obtain ⟨mb, hmb⟩ : ∃ mb, q.mb = mb := ⟨_, rfl⟩
  rw [hmp, hmb] at H1
  rw [show ({ q with L := q.L.filter fun p => !lateB s p } : Qu) = ⟨mp, mb, q.L.filter fun p => !lateB s p⟩ by rw [hmp, hmb]] at hok ⊢
  clear h0 h1 h2 hn hfoot hmp hmb
  generalize q.L = L at *
  obtain ⟨n, hn⟩ : ∃ n, L.length = n := ⟨_, rfl⟩
  rw [hn] at HL HFL HRN hf
  have HN := Lib.hid hn
  clear hn
  go_enter Try.func24, Try.ntmps24
  go_wp2_with fail
  (with_reducible refine HL.out.mono ?_); rintro e w1 ⟨rfl, rfl⟩
  clear HL c3
  go_wp2_with fail
  go_loopw [5, 10] (fun s5 s10 wr => ∃ (k : Nat) (M : List Pk) (P : List Nat) (A' : Option Addr) (n' c' : Nat), k ≤ n ∧ s10 = .int .i64 k ∧ s5 = .slice A' n' c' ∧ Hid (n' = ((L.take k).filter (lateB s)).length) ∧ Hid (wr.ownsRow w.heap.size 40 5 (.slice A' n' c') n' (srs csP ((L.take k).filter (lateB s)))) ∧ Hid (QW wr C b mp mb M P) ∧ Hid (Pl M P (rndL s L k)) ∧ Hid (Chg (qfoot b) w wr)) (fun s5 s10 _ => n - (intOf s10).toNat)
  case atStart => exact ⟨0, M0, P0, none, 0, 0, Nat.zero_le _, rfl, rfl, Lib.hid (by simp), Lib.hid (by simpa [srs] using World.ownsRow_nil w w.heap.size 40 5), H1, H2, Lib.hid (Chg.refl _ _)⟩
  case round =>
    obtain ⟨k, M, P, A', n', c', hk, rfl, rfl, hn', HR, HQ, HPl, HC⟩ := hrel
    by_cases hlt : k < n
    · have hkL : k < L.length := by have := HN.out; omega
      have hpl := HPl.out
      rw [HRC.out k hkL] at hpl
      obtain ⟨kp, P', rfl, hkp, ek⟩ := hpl.cons
      have hcell := HQ.out.cells
      obtain ⟨_, _, c2, c3, _⟩ := hcell
      have HPop := rgpop_ok HQ.out.ring
      rw [plN_head] at HPop
      have HPop := Lib.hid HPop
      have HRung := Lib.hid (fun w' (e : Ending) (ha : RgAns C b.R b.N 64 P'.length (rmvN (plN (kp :: P')) 0) (.tuple #[.int .i64 kp, .int .i64 0]) wr e w') => HQ.out.rung (P' := P') ha rfl (plN_tail P' kp))
      have HPL := Lib.hid hpl
      have EK := Lib.hid ek
      have hkp' : (kp : Int) < 64 := by omega
      have hP64 := HRN.out k
      have hPn := HPl.out.len
      simp only [List.length_cons] at hPn
      have hP63 : P'.length < 64 := by omega
      have hnn := HFL.out k
      rw [← hn'.out] at hnn
      clear hpl ek hP64 hPn HQ HPl
      go_wp2_with fail
      (with_reducible refine HPop.out.mono ?_); intro e w2 hx
      have HY := Lib.hid (HRung.out w2 e hx)
      obtain ⟨rfl, _⟩ := hx
      have hq2 := HY.out.1
      obtain ⟨_, _, c2', c3', _⟩ := hq2.cells
      obtain ⟨e0, e1, e2, e3, e4⟩ := hq2.pk hkp
      rw [EK.out] at e0 e1 e2 e3 e4
      have HC2 := Lib.hid (HC.out.trans HY.out.2)
      have HR2 := Lib.hid (row_chg (w0 := w) HR.out HFT.out HY.out.2)
      obtain ⟨a, ha⟩ : ∃ a, L[k] = a := ⟨_, rfl⟩
      rw [ha] at e0 e1 e2 e3 e4 EK HPL
      have HA := Lib.hid ha
      have HLa := HLT.out a
      obtain ⟨q0, q1, q2, q3, q4⟩ := a
      unfold aggP at HLa
      simp only at e0 e1 e2 e3 e4 HLa
      obtain ⟨lb, hlb⟩ : ∃ lb, lateB s ⟨q0, q1, q2, q3, q4⟩ = lb := ⟨_, rfl⟩
      rw [hlb] at HLa
      have HLB := Lib.hid hlb
      have HLa := Lib.hid HLa
      clear hq2 HR HC HPop HRung c2 c3 ha hlb
      go_wp2_with fail
      (with_reducible refine (HLa.out _).mono ?_); rintro e w3 ⟨rfl, hb3⟩
      have HQ3 := Lib.hid (HY.out.1.below hb3)
      have HC3 := Lib.hid (HC2.out.trans (Chg.of_below hb3))
      have HR3 := Lib.hid (row_from HR2.out hb3)
      clear hb3 e0 e1 e2 e3 e4 c2' c3' HY HC2 HR2 HLa
      cases lb
      · have hst := HRS.out k hkL (by rw [HA.out]; exact HLB.out)
        have HPush := Lib.hid (rgpush_ok HQ3.out.ring hP63 (kp : Int))
        have HRung := Lib.hid (fun w' (e : Ending) (ha : RgAns C b.R b.N 64 (P'.length + 1) (upd (plN P') P'.length (kp : Int)) (.int .i64 0) w3 e w') => HQ3.out.rung (P' := P' ++ [kp]) ha (by simp) (fun i hi => plN_snoc P' kp i (by simpa using hi)))
        have HPl4 := HPL.out.turn
        rw [HA.out] at hst
        rw [hst.1] at HPl4
        have HPl4 := Lib.hid HPl4
        have hn4 : Hid (n' = ((L.take (k + 1)).filter (lateB s)).length) := Lib.hid (by rw [hst.2]; exact hn'.out)
        have hr4 := HR3.out
        rw [← hst.2] at hr4
        have HR4 := Lib.hid hr4
        obtain ⟨_, _, _, c3, _⟩ := HQ3.out.cells
        clear hst hr4 HR3 HPL
        go_wp2_with fail
        (with_reducible refine HPush.out.mono ?_); intro e w4 hx
        have HY := Lib.hid (HRung.out w4 e hx)
        obtain ⟨rfl, _⟩ := hx
        have HQ5 := Lib.hid HY.out.1
        have HC5 := Lib.hid (HC3.out.trans HY.out.2)
        have HR5 := Lib.hid (row_chg (w0 := w) HR4.out HFT.out HY.out.2)
        clear HY HPush HRung HR4 HC3 HQ3 c3 EK HA HLB
        go_wp2
        go_roundw
        case rel => exact ⟨k + 1, M, P' ++ [kp], A', n', c', by omega, by go_num, rfl, hn4, HR5, HQ5, HPl4, HC5⟩
        case measure => simp [intOf]; omega
      · have hst := HRL.out k hkL (by rw [HA.out]; exact HLB.out)
        have ht := qtake_any HQ3.out hkp
        unfold TakeAns at ht
        rw [EK.out] at ht
        have HTk := Lib.hid ht
        have HPl4 := HPL.out.take_
        rw [HA.out] at hst
        rw [hst.1] at HPl4
        have HPl4 := Lib.hid HPl4
        have hn4 : Hid (n' + 1 = ((L.take (k + 1)).filter (lateB s)).length) := Lib.hid (by rw [hst.2, List.length_append, ← hn'.out]; rfl)
        have HT2 := Lib.hid (show srs csP ((L.take (k + 1)).filter (lateB s)) = srs csP ((L.take k).filter (lateB s)) ++ csP ⟨q0, q1, q2, q3, q4⟩ by rw [hst.2, srs_snoc])
        clear hst ht HPL EK HA HLB
        go_wp2_with fail
        (with_reducible refine HTk.out.mono ?_); rintro e w4 ⟨rfl, hq4, hc4⟩
        unfold aggP
        simp only
        have HQ4 := Lib.hid hq4
        have HC4 := Lib.hid (HC3.out.trans hc4)
        have HR4 := Lib.hid ((row_chg (w0 := w) HR3.out HFT.out hc4).alloc (.cells #[.int .i64 q0, .int .i64 q1, .int .i64 q2, .int .i64 q3, .int .i64 q4] 40))
        have HCL := Lib.hid (newCells w4 (csP ⟨q0, q1, q2, q3, q4⟩) 40)
        have hws := HC4.out.size
        clear hq4 hc4 HTk HC3 HR3 HQ3
        go_wp2_with (at_builtin; go_loud (refine wpList_append_one rfl (.tmp 29) (.tmp 33) 35 rfl Try.underlying35 info_pk rfl (by decide) HR4.out rfl ⟨w4.heap.size, 0, none⟩ rfl (csP_len ⟨q0, q1, q2, q3, q4⟩) HCL.out (csP_one _) (by omega) (by decide) (by simp; omega) ?_); intro v2 w5 he2 hg2 hb2; obtain ⟨A2, c2', rfl⟩ := ow_shape he2; have HE2 := Lib.hid he2; have HG2 := Lib.hid hg2; clear he2 hg2 hb2)
        rw [← HT2.out] at HE2
        have hbn : Below w.heap.size (w4.alloc (.cells #[.int .i64 q0, .int .i64 q1, .int .i64 q2, .int .i64 q3, .int .i64 q4] 40)) w5 := below_grew (Below.refl _ _) (by simp; omega) HG2.out (fun k e => (World.ownsRow.lt HR4.out k e).1)
        have hb45 : Below w.heap.size w4 w5 := ((Below.refl _ _).alloc hws _).trans hbn
        have HQ5 : Hid (QW w5 C b mp mb (M.set kp pk0) P') := Lib.hid (HQ4.out.keep fun j hj => hb45.block j (HFT.out j hj))
        have HC5 := Lib.hid (HC4.out.then_below hb45)
        clear hbn hb45
        go_roundw
        case rel => exact ⟨k + 1, M.set kp pk0, P', A2, n' + 1, c2', by omega, by go_num, rfl, hn4, HE2, HQ5, HPl4, HC5⟩
        case measure => simp [intOf]; omega
    · obtain rfl : k = n := by omega
      have hpl := HPl.out
      have hr := HR.out
      have hnx := hn'.out
      rw [← HN.out, HRA.out] at hpl
      rw [← HN.out, HFA.out] at hr hnx
      subst hnx
      have HF := Lib.hid (show ∃ A c, Ending.returned (.slice A' (L.filter (lateB s)).length c') = .returned (.slice A (L.filter (lateB s)).length c) ∧ (QO C b ⟨mp, mb, L.filter fun p => !lateB s p⟩ wr ∧ Chg (qfoot b) w wr) ∧ SrAt csP 5 wr w.heap.size wr.heap.size A (L.filter (lateB s)) from ⟨_, _, rfl, ⟨⟨hok.out, M, P, HQ.out, hpl⟩, HC.out⟩, SrAt.own csP_len hr rfl⟩)
      clear hpl hr HPl HR hn' HQ HC
      go_wp2
      go_ret
      exact HF.out
end Go.Proofs.Ytijdfkdfojiffaa

