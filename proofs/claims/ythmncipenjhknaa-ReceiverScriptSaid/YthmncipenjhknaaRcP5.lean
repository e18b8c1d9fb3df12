/-
  Layer 17: contracts of the program's Acks, Skip and Receive. Written by gen_rcp5.py.
-/
import Derived.Test.YthmncipenjhknaaRcP4
namespace Go.Proofs.Ythmncipenjhknaa
open Go.ChangeShapes Go.WideShapes Go.ChangeAt Go.RowKit
set_option linter.unusedVariables false

/-! ### Acks -/
set_option maxRecDepth 100000 in
set_option maxHeartbeats 8000000 in
theorem pracks_any0 {R : Nat} {s : RcS} {T : Nat → Prop} {w : World} (h : RcP R s T w) : Calls Try.prog 21 #[.pointer (some ⟨R, 0, none⟩)] w (Calm (.agg #[.int .i64 (rcAk s.nx s.l).1, .int .u64 (rcAk s.nx s.l).2]) w) := by
  have hbw0 : Below w.heap.size w ((w.alloc (.cells #[.int .i64 0, .int .u64 0] 49)).alloc (.cells #[.int .i64 s.nx, .int .u64 0] 49)) := ((Below.refl w.heap.size w).alloc (Nat.le_refl _) _).alloc (by simp) _
  have HN := Lib.hid (prnum_any (h.later hbw0))
  obtain ⟨M, hiv, _, _, hr⟩ := h.open_
  have d1 := (hr (w.alloc (.cells #[.int .i64 0, .int .u64 0] 49)) ((Below.refl w.heap.size w).alloc (Nat.le_refl _) _)).c1
  have hlen := hiv.len
  have HNX := Lib.hid (fun k (hk : k < s.l.length) => rcAk_next s.nx s.l hk)
  have HWD := Lib.hid (fun k => rcAk_wd s.nx (s.l.take k))
  have HEN := Lib.hid (show rcAk s.nx (s.l.take s.l.length) = rcAk s.nx s.l by rw [List.take_length])
  have HT0 := Lib.hid (show Two w ((w.alloc (.cells #[.int .i64 0, .int .u64 0] 49)).alloc (.cells #[.int .i64 s.nx, .int .u64 0] 49)) 49 #[.int .i64 0, .int .u64 0] #[.int .i64 (rcAk s.nx (s.l.take 0)).1, .int .u64 (rcAk s.nx (s.l.take 0)).2] from Two.first w _ _ _)
  obtain ⟨qs, hqs⟩ : ∃ qs, s.l.map (·.q) = qs := ⟨_, rfl⟩
  have hql : qs.length = s.l.length := by rw [← hqs, List.length_map]
  have HQ := Lib.hid (fun k (hk : k < qs.length) (hk2 : k < s.l.length) => (by simp [← hqs] : qs[k] = s.l[k].q))
  rw [hqs] at HN
  obtain ⟨n, hN⟩ : ∃ n, s.l.length = n := ⟨_, rfl⟩
  have HNN := Lib.hid hN
  have HQN := Lib.hid (show qs.length = n by omega)
  rw [hN] at HEN
  have hn2 : n ≤ 64 := by omega
  clear h hiv hr hlen hqs hql hN hbw0
  obtain ⟨sw, nx, l⟩ := s
  simp only at HN d1 HNX HWD HEN HT0 HQ HNN ⊢
  generalize rcAk nx l = R9 at *
  unfold Calm
  unfold GotLs at HN
  go_enter Try.func21, Try.ntmps21
  go_wp2_with fail
  (with_reducible refine HN.out.mono ?_); rintro e w1 ⟨v, rfl, hv, hb1⟩
  have HT1 := Lib.hid (HT0.out.later hb1)
  have HLS0 := Lib.hid (hv.wider (T' := fun b => w.heap.size + 2 ≤ b ∧ b < w1.heap.size) fun b hb => ⟨by have := hb.1; simp at this; omega, hb.2⟩)
  obtain ⟨Av, cv, rfl, _, _⟩ := hv.shape
  rw [HQN.out] at HLS0 ⊢
  clear HN HT0 hv hb1 d1
  go_wp2_with fail
  go_loopw [14] (fun s14 wr => ∃ k : Nat, k ≤ n ∧ s14 = .int .i64 k ∧ Hid (Two w wr 49 #[.int .i64 0, .int .u64 0] #[.int .i64 (rcAk nx (l.take k)).1, .int .u64 (rcAk nx (l.take k)).2]) ∧ Hid (LsG csI 1 3 wr (fun b => w.heap.size + 2 ≤ b ∧ b < wr.heap.size) (.slice Av n cv) qs)) (fun s14 _ => n - (intOf s14).toNat)
  case atStart => exact ⟨0, Nat.zero_le _, rfl, HT1, HLS0⟩
  case round =>
    obtain ⟨k, hk, rfl, HTW, HLS⟩ := hrel
    clear HT1 HLS0
    by_cases hlt : k < n
    · have hlt' : (k : Int) < n := by omega
      have hk0 : (0 : Int) ≤ k := by omega
      have hkl : k < l.length := by have := HNN.out; omega
      have hkq : k < qs.length := by have := HQN.out; omega
      obtain ⟨bb, off, c', e1, _, hTb, hbw, _, hcell⟩ := HLS.out.el hkq
      rw [HQN.out] at e1
      obtain ⟨rfl, rfl⟩ : Av = some ⟨bb, off, none⟩ ∧ cv = c' := by simpa using e1
      have q0 : wr.cell? ⟨bb, off + k, none⟩ = some (.int .i64 qs[k]) := by have h9 := hcell k hkq 0 (by omega); rw [Nat.mul_one] at h9; exact h9
      have hnx := HNX.out k hkl
      have hwd := HWD.out k
      have hqe := HQ.out k hkq hkl
      rw [← hqe] at hnx
      obtain ⟨B, hB⟩ : ∃ B, (rcAk nx (l.take k)).1 = B := ⟨_, rfl⟩
      obtain ⟨X, hX⟩ : ∃ X, (rcAk nx (l.take k)).2 = X := ⟨_, rfl⟩
      rw [hB, hX] at hnx HTW
      rw [hX] at hwd
      generalize qs[k] = lq at *
      have HSE := Lib.hid (set_any B X lq hwd wr)
      obtain ⟨B2, hB2⟩ : ∃ B2, stB B lq = B2 := ⟨_, rfl⟩
      obtain ⟨X2, hX2⟩ : ∃ X2, stX B X lq = X2 := ⟨_, rfl⟩
      unfold StAns at HSE
      rw [hB2, hX2] at HSE hnx
      generalize stE B lq = E2 at *
      have HNX2 := Lib.hid hnx
      obtain ⟨_, _, x0, x1, _⟩ := HTW.out.cells
      clear HNX HWD HEN e1 hnx hB hX hB2 hX2 hwd HNN hcell HQ hqe
      go_wp2_with fail
      (with_reducible refine HSE.out.mono ?_); rintro e w2 ⟨rfl, hb2⟩
      have h9 := HTW.out.later hb2
      obtain ⟨_, _, y0, y1, _, _, z0, z1⟩ := h9.cells
      have HT2 := Lib.hid (show Two w ((w2.setCell ⟨w.heap.size + 1, 0, none⟩ (.int .i64 B2)).setCell ⟨w.heap.size + 1, 1, none⟩ (.int .u64 X2)) 49 #[.int .i64 0, .int .u64 0] #[.int .i64 (rcAk nx (l.take (k + 1))).1, .int .u64 (rcAk nx (l.take (k + 1))).2] by
        rw [HNX2.out]
        exact (h9.res 0 (.int .i64 B2)).res 1 (.int .u64 X2))
      have HL2 := Lib.hid (show LsG csI 1 3 ((w2.setCell ⟨w.heap.size + 1, 0, none⟩ (.int .i64 B2)).setCell ⟨w.heap.size + 1, 1, none⟩ (.int .u64 X2)) (fun b => w.heap.size + 2 ≤ b ∧ b < ((w2.setCell ⟨w.heap.size + 1, 0, none⟩ (.int .i64 B2)).setCell ⟨w.heap.size + 1, 1, none⟩ (.int .u64 X2)).heap.size) (.slice (some ⟨bb, off, none⟩) n cv) qs from
        (HLS.out.keep (fun b hb => ((Below.heap_setCell _ _ _ _ (by show b ≠ w.heap.size + 1; omega)).trans (Below.heap_setCell _ _ _ _ (by show b ≠ w.heap.size + 1; omega))).trans (hb2.block b hb.2))).wider fun b hb => ⟨hb.1, by simp [World.setCell]; have := hb2.size; omega⟩)
      clear h9 hb2 HTW HLS HSE HNX2 q0 x0 x1
      go_wp2
      go_roundw
      case rel => exact ⟨k + 1, by omega, by go_num, HT2, HL2⟩
      case measure => simp [intOf]; omega
    · obtain rfl : k = n := by omega
      have h9 := HTW.out
      rw [HEN.out] at h9
      obtain ⟨x0, x1, x2, x3, y0, y1, y2, y3⟩ := h9.cells
      have h10 := (h9.arg 0 (.int .i64 R9.1)).arg 1 (.int .u64 R9.2)
      have HF := Lib.hid h10
      clear HNX HWD HEN HTW h9 HLS HQ
      go_wp2
      obtain ⟨k0, k1, _⟩ := HF.out.cells
      try simp at k0 k1
      exact bodyPost_ret (v := .agg #[.int .i64 R9.1, .int .u64 R9.2]) (by simp [results, Try.results21, go_sem, k0, k1]) rfl ⟨rfl, HF.out.2.2⟩
/-! ### Skip -/
theorem pr_none {R : Nat} {s : RcS} {T : Nat → Prop} {w w1 : World} (h : RcP R s T w) (hb : Below w.heap.size w w1) : (∃ T', Star (LsP csI 1 3 (.slice none 0 0) []) (RcP R s) T' w1 ∧ ∀ j, T' j → T j ∨ w.heap.size ≤ j) ∧ Chg T w w1 :=
  ((PrA.start h 0).step hb).done
set_option maxRecDepth 100000 in
set_option maxHeartbeats 8000000 in
theorem prskp_any0 {R : Nat} {s : RcS} {base : Nat} (b : Int) : Acts 11 #[.pointer (some ⟨R, 0, none⟩), .int .i64 b] base (RcP R s) (fun v : Value => .tuple #[v, .int .i64 (rcSkE s b)]) fun v => Star (LsP csI 1 3 v (rcSkL s b)) (RcP R (s.skp b)) := by
  intro T w hP hb0 hs
  have HC := Lib.hid (prchk_any hP b)
  by_cases hE : rcSkE s b = 0
  · have e1 : rcSkL s b = rcMo s (rcM s b) ++ rcMo (rcMv s (rcM s b)) (rcRn (rcMv s (rcM s b))) := by unfold rcSkL; rw [if_pos hE]
    have e2 : s.skp b = rcMv (rcMv s (rcM s b)) (rcRn (rcMv s (rcM s b))) := by unfold RcS.skp; rw [if_pos hE]
    rw [e1, e2, hE]
    rw [hE] at HC
    have hM := rcM_le (s := s) (b := b)
    have hl1 := rcMo_len s (rcM s b)
    have hl3 := rcMv_len s (rcM s b)
    have HPS := Lib.hid (fun (W : World) (h : At T w (RcP R s) W) => At.call (base := 0) h (fun _ _ => Nat.zero_le _) (Nat.zero_le _) (prpass_any b))
    have hlen := hP.iv.len
    have HA0 := Lib.hid (At.start hP)
    obtain ⟨s1, hs1⟩ : ∃ s1, rcMv s (rcM s b) = s1 := ⟨_, rfl⟩
    obtain ⟨L1, hL1⟩ : ∃ L1, rcMo s (rcM s b) = L1 := ⟨_, rfl⟩
    rw [hs1, hL1] at HPS ⊢
    rw [hL1] at hl1
    rw [hs1] at hl3
    have hl2 := rcMo_len s1 (rcRn s1)
    have hl4 := rcRn_le s1
    have HRL := Lib.hid (fun (W : World) (v : Value) (h : At T w (Star (RowP csI 1 3 0 v L1) (RcP R s1)) W) => At.call (base := 0) h (fun _ _ => Nat.zero_le _) (Nat.zero_le _) (Acts.right RowP.frm (prrel_any (R := R) (s := s1))))
    obtain ⟨L2, hL2⟩ : ∃ L2, rcMo s1 (rcRn s1) = L2 := ⟨_, rfl⟩
    obtain ⟨s2, hs2⟩ : ∃ s2, rcMv s1 (rcRn s1) = s2 := ⟨_, rfl⟩
    rw [hL2, hs2] at HRL ⊢
    rw [hL2] at hl2
    have hh1 : L1.length ≤ 100000 := by omega
    have hh2 : L2.length ≤ 100000 := by omega
    clear hP hb0 hs hE e1 e2 hs1 hL1 hL2 hs2 hl1 hl2 hl3 hl4 hM hlen
    unfold Calm at HC
    go_enter Try.func11, Try.ntmps11
    go_wp2_with fail
    (with_reducible refine HC.out.mono ?_); rintro e w1 ⟨rfl, hb1⟩
    have HA1 := Lib.hid (At.step (base := 0) HA0.out RcP.frm hb1)
    clear HA0 HC hb1
    have HPS1 := Lib.hid (HPS.out w1 HA1.out)
    clear HPS HA1
    go_wp2_with fail
    (with_reducible refine HPS1.out.mono ?_); rintro e w2 ⟨v, rfl, h2⟩
    have HR1 := Lib.hid (HRL.out w2 v h2)
    clear HPS1 HRL h2
    go_wp2_with fail
    (with_reducible refine HR1.out.mono ?_); rintro e w3 ⟨u, rfl, h3⟩
    obtain ⟨A9, c9, w4, hrun, h4⟩ := At.app_ls intElt h3 RcP.frm hh1 hh2
    have HF := Lib.hid (PrA.done h4)
    clear HR1 h3 h4
    go_wp2_with (at_builtin; refine wpList_append_run rfl (.tmp 17) (.tmp 19) 22 rfl rfl rfl hrun ?_)
    go_ret2
    exact ⟨.slice A9 (L1.length + L2.length) c9, rfl, HF.out⟩
  · have e1 : rcSkL s b = [] := by unfold rcSkL; rw [if_neg hE]
    have e2 : s.skp b = s := by unfold RcS.skp; rw [if_neg hE]
    rw [e1, e2]
    have HP := Lib.hid hP
    have hE' : (rcSkE s b != 0) = true := by simpa using hE
    clear hP hb0 hs hE e1 e2
    generalize rcSkE s b = E at *
    unfold Calm at HC
    go_enter Try.func11, Try.ntmps11
    go_wp2_with fail
    (with_reducible refine HC.out.mono ?_); rintro e w1 ⟨rfl, hb1⟩
    have HF := Lib.hid (pr_none HP.out hb1)
    clear HC hb1 HP
    go_wp2
    go_ret2
    exact ⟨.slice none 0 0, rfl, HF.out⟩
/-! ### Receive -/
theorem rc_hold {s : RcS} (hiv : RcIv s) {b q i : Int} (hE : rcRvE s b q i = 0) (hbf : befB q (rcMv s (rcM s b)).nx = false) : (dOf (rcMv s (rcM s b)).nx q : Int) < (rcMv s (rcM s b)).w := by
  obtain ⟨h1, h2, h3, h4, h5⟩ := rcRvE_ok hE
  rw [rcMv_w]
  have hb := both_bd (ds_num h1)
  have hM := rcM_le (s := s) (b := b)
  refine rc_near hiv.w h5 (hiv.mv hM).ok.nx ?_ hbf
  have hw := hiv.w
  cases hbe : befB s.nx b
  · rw [rcM_zero hbe]
    show (s.nx - b) % 65536 ≤ s.w
    have n1 := isNum_yes hb.1.1 hb.1.2
    have n2 := isNum_yes hb.2.1 hb.2.2
    rw [(ds_yes (both_yes n1 n2)).1, (ds_yes (both_yes n2 n1)).1] at h4
    unfold befB at hbe
    rw [both_yes n1 n2] at hbe
    simp at hbe
    omega
  · obtain ⟨p, _, _, e1, _⟩ := rc_pass hiv hbe
    rw [e1]
    show (b - b) % 65536 ≤ s.w
    omega
theorem rv_num {s : RcS} (hiv : RcIv s) {b q i : Int} (h1 : dsE b q = 0) (h2 : 1 ≤ i) : rcRvE s b q i = if rcSkE s b ≠ 0 then rcSkE s b else if insB b s.w q = false then 2 else 0 := by
  have hb := both_bd (ds_num h1)
  have hd : dsE s.nx b = 0 := (ds_yes (both_yes (isNum_yes hiv.ok.nx.1 hiv.ok.nx.2) (isNum_yes hb.1.1 hb.1.2))).2
  unfold rcRvE rcSkE
  rw [h1, hd]
  have h3 : ¬ i < 1 := by omega
  simp only [ne_eq, not_true_eq_false, false_or, h3, if_false]
  by_cases h4 : 32768 ≤ dsV s.nx b ∧ s.w < dsV b s.nx
  · simp [h4]
  · simp [h4]
theorem rv_bad {s : RcS} {b q i : Int} (h : dsE b q ≠ 0 ∨ i < 1) : rcRvE s b q i = 1 := by
  unfold rcRvE
  rw [if_pos (.inr h)]
set_option maxRecDepth 100000 in
set_option maxHeartbeats 16000000 in
theorem prrcv_ok {R : Nat} {s : RcS} {base : Nat} (b q i : Int) (hE : rcRvE s b q i = 0) : Acts 14 #[.pointer (some ⟨R, 0, none⟩), .int .i64 b, .int .i64 q, .int .i64 i] base (RcP R s) (fun v : Value => .tuple #[v, .int .i64 0]) fun v => Star (LsP csI 1 3 v (rcRvL s b q i)) (RcP R (s.rcv b q i)) := by
  intro T w hP hb0 hs
  have hiv := hP.iv
  obtain ⟨f1, f2, f3, f4, f5⟩ := rcRvE_ok hE
  have hq := (both_bd (ds_num f2)).2
  have e1 : rcRvL s b q i = rcMo s (rcM s b) ++ rcMo (rcPut (rcMv s (rcM s b)) ⟨q, i⟩) (rcRn (rcPut (rcMv s (rcM s b)) ⟨q, i⟩)) := by unfold rcRvL; rw [if_pos hE]
  have e2 : s.rcv b q i = rcMv (rcPut (rcMv s (rcM s b)) ⟨q, i⟩) (rcRn (rcPut (rcMv s (rcM s b)) ⟨q, i⟩)) := by unfold RcS.rcv; rw [if_pos hE]
  rw [e1, e2]
  have hnum := rv_num hiv f2 f3 (q := q)
  rw [hE] at hnum
  have hS : rcSkE s b = 0 := by
    by_cases h0 : rcSkE s b = 0
    · exact h0
    · rw [if_pos h0] at hnum; exact absurd hnum.symm h0
  have HC := Lib.hid (prchk_any hP b)
  rw [hS] at HC
  have HD := Lib.hid (dist_any b q w)
  rw [f2] at HD
  have HI := Lib.hid (fun (W : World) => inside_any b s.w q W)
  rw [f5] at HI
  obtain ⟨M, _, _, _, hr⟩ := hP.open_
  have HC0 := Lib.hid (fun (W : World) (hb : Below w.heap.size w W) => (hr W hb).c0)
  have hM := rcM_le (s := s) (b := b)
  have hl1 := rcMo_len s (rcM s b)
  have hl3 := rcMv_len s (rcM s b)
  have hl5 := rcPut_len (rcMv s (rcM s b)) ⟨q, i⟩
  have HPS := Lib.hid (fun (W : World) (h : At T w (RcP R s) W) => At.call (base := 0) h (fun _ _ => Nat.zero_le _) (Nat.zero_le _) (prpass_any b))
  have hho := fun h => rc_hold hiv hE h
  have hlen := hiv.len
  have HA0 := Lib.hid (At.start hP)
  obtain ⟨s1, hs1⟩ : ∃ s1, rcMv s (rcM s b) = s1 := ⟨_, rfl⟩
  obtain ⟨L1, hL1⟩ : ∃ L1, rcMo s (rcM s b) = L1 := ⟨_, rfl⟩
  rw [hs1, hL1] at HPS ⊢
  rw [hL1] at hl1
  rw [hs1] at hl3 hl5 hho
  have HHO := Lib.hid (fun (W : World) (v : Value) (h : At T w (Star (RowP csI 1 3 0 v L1) (RcP R s1)) W) => At.call1 (base := 0) h (fun _ _ => Nat.zero_le _) (Nat.zero_le _) (Acts.right RowP.frm (prhld_any (R := R) (s := s1) (q := q) (i := i) ⟨hq, f3⟩ hho)))
  obtain ⟨s2, hs2⟩ : ∃ s2, rcPut s1 ⟨q, i⟩ = s2 := ⟨_, rfl⟩
  rw [hs2] at hl5 HHO ⊢
  have hl2 := rcMo_len s2 (rcRn s2)
  have hl4 := rcRn_le s2
  have HRL := Lib.hid (fun (W : World) (v : Value) (h : At T w (Star (RowP csI 1 3 0 v L1) (RcP R s2)) W) => At.call (base := 0) h (fun _ _ => Nat.zero_le _) (Nat.zero_le _) (Acts.right RowP.frm (prrel_any (R := R) (s := s2))))
  obtain ⟨L2, hL2⟩ : ∃ L2, rcMo s2 (rcRn s2) = L2 := ⟨_, rfl⟩
  obtain ⟨s3, hs3⟩ : ∃ s3, rcMv s2 (rcRn s2) = s3 := ⟨_, rfl⟩
  rw [hL2, hs3] at HRL ⊢
  rw [hL2] at hl2
  have hh1 : L1.length ≤ 100000 := by omega
  have hh2 : L2.length ≤ 100000 := by omega
  have hi1 : 1 ≤ i := f3
  clear hP hb0 hs hE e1 e2 hs1 hL1 hL2 hs2 hs3 hl1 hl2 hl3 hl4 hl5 hM hlen hiv f1 f2 f3 f4 f5 hq hnum hS hr hho
  generalize dsV b q = dv at *
  generalize s.w = wi at *
  unfold Calm at HC
  go_enter Try.func14, Try.ntmps14
  go_wp2_with fail
  (with_reducible refine HD.out.mono ?_); rintro e w1 ⟨rfl, rfl⟩
  clear HD
  go_wp2_with fail
  (with_reducible refine HC.out.mono ?_); rintro e w1 ⟨rfl, hb1⟩
  have HA1 := Lib.hid (At.step (base := 0) HA0.out RcP.frm hb1)
  have c0 := HC0.out w1 hb1
  have HI1 := Lib.hid (HI.out w1)
  clear HA0 HC hb1 HC0 HI
  have HPS1 := Lib.hid (HPS.out w1 HA1.out)
  clear HPS HA1
  go_wp2_with fail
  (with_reducible refine HI1.out.mono ?_); rintro e w1 ⟨rfl, rfl⟩
  clear HI1 c0
  go_wp2_with fail
  (with_reducible refine HPS1.out.mono ?_); rintro e w2 ⟨v, rfl, h2⟩
  have HH1 := Lib.hid (HHO.out w2 v h2)
  clear HPS1 HHO h2
  go_wp2_with fail
  (with_reducible refine HH1.out.mono ?_); rintro e w3 ⟨rfl, h3⟩
  have HR1 := Lib.hid (HRL.out w3 v h3)
  clear HH1 HRL h3
  go_wp2_with fail
  (with_reducible refine HR1.out.mono ?_); rintro e w4 ⟨u, rfl, h4⟩
  obtain ⟨A9, c9, w5, hrun, h5⟩ := At.app_ls intElt h4 RcP.frm hh1 hh2
  have HF := Lib.hid (PrA.done h5)
  clear HR1 h4 h5
  go_wp2_with (at_builtin; refine wpList_append_run rfl (.tmp 47) (.tmp 49) 22 rfl rfl rfl hrun ?_)
  go_ret2
  exact ⟨.slice A9 (L1.length + L2.length) c9, rfl, HF.out⟩
set_option maxRecDepth 100000 in
set_option maxHeartbeats 16000000 in
theorem prrcv_no {R : Nat} {s : RcS} {T : Nat → Prop} {w : World} (hP : RcP R s T w) (b q i : Int) (hE : rcRvE s b q i ≠ 0) : Calls Try.prog 14 #[.pointer (some ⟨R, 0, none⟩), .int .i64 b, .int .i64 q, .int .i64 i] w (Calm (.tuple #[.slice none 0 0, .int .i64 (rcRvE s b q i)]) w) := by
  have hiv := hP.iv
  have HC := Lib.hid (prchk_any hP b)
  have HD := Lib.hid (dist_any b q w)
  have HI := Lib.hid (fun (W : World) => inside_any b s.w q W)
  obtain ⟨M, _, _, _, hr⟩ := hP.open_
  have HC0 := Lib.hid (fun (W : World) (hb : Below w.heap.size w W) => (hr W hb).c0)
  by_cases h1 : dsE b q = 0
  · by_cases h2 : 1 ≤ i
    · have hnum := rv_num hiv h1 h2 (q := q)
      rw [hnum] at hE ⊢
      rw [h1] at HD
      clear hnum hr hP hiv h1
      generalize dsV b q = dv at *
      generalize s.w = wi at *
      by_cases h3 : rcSkE s b = 0
      · rw [h3] at HC hE ⊢
        simp only [ne_eq, not_true_eq_false, if_false] at hE ⊢
        cases h4 : insB b wi q
        · rw [h4] at HI
          simp only [if_true]
          clear hE h3 h4
          unfold Calm at *
          go_enter Try.func14, Try.ntmps14
          go_wp2_with fail
          (with_reducible refine HD.out.mono ?_); rintro e w1 ⟨rfl, rfl⟩
          clear HD
          go_wp2_with fail
          (with_reducible refine HC.out.mono ?_); rintro e w1 ⟨rfl, hb1⟩
          have c0 := HC0.out w1 hb1
          have HI1 := Lib.hid (HI.out w1)
          have HB := Lib.hid hb1
          clear HC hb1 HC0 HI
          go_wp2_with fail
          (with_reducible refine HI1.out.mono ?_); rintro e w2 ⟨rfl, rfl⟩
          clear HI1
          go_wp2
          go_ret2
          exact ⟨rfl, HB.out⟩
        · rw [h4] at hE; simp at hE
      · rw [if_pos h3]
        have h3' : (rcSkE s b != 0) = true := by simpa using h3
        clear hE h3 HI HC0
        generalize rcSkE s b = E at *
        unfold Calm at *
        go_enter Try.func14, Try.ntmps14
        go_wp2_with fail
        (with_reducible refine HD.out.mono ?_); rintro e w1 ⟨rfl, rfl⟩
        clear HD
        go_wp2_with fail
        (with_reducible refine HC.out.mono ?_); rintro e w1 ⟨rfl, hb1⟩
        have HB := Lib.hid hb1
        clear HC hb1
        go_wp2
        go_ret2
        exact ⟨rfl, HB.out⟩
    · have h2' : i < 1 := by omega
      rw [rv_bad (.inr h2')]
      rw [h1] at HD
      clear hE hr hP hiv h1 h2 HC HI HC0
      generalize dsV b q = dv at *
      unfold Calm at *
      go_enter Try.func14, Try.ntmps14
      go_wp2_with fail
      (with_reducible refine HD.out.mono ?_); rintro e w1 ⟨rfl, rfl⟩
      clear HD
      go_wp2
      go_ret2
      exact ⟨rfl, Below.refl _ _⟩
  · rw [rv_bad (.inl h1)]
    have h1' : (dsE b q != 0) = true := by simpa using h1
    clear hE hr hP hiv h1 HC HI HC0
    generalize dsV b q = dv at *
    generalize dsE b q = de at *
    unfold Calm at *
    go_enter Try.func14, Try.ntmps14
    go_wp2_with fail
    (with_reducible refine HD.out.mono ?_); rintro e w1 ⟨rfl, rfl⟩
    clear HD
    go_wp2
    go_ret2
    exact ⟨rfl, Below.refl _ _⟩
end Go.Proofs.Ythmncipenjhknaa

