/-
  Layer 17: contract of the reference's Receive. Written by gen_rcref5.py.
-/
import Derived.Test.YthmncipenjhknaaRcRef4
namespace Go.Proofs.Ythmncipenjhknaa
open Go.ChangeShapes Go.WideShapes Go.ChangeAt Go.RowKit
set_option linter.unusedVariables false

theorem there_any (l : List RcE) (q : Int) : l.any (fun x => x.q == q) = decide (rcK l q < l.length) := by
  have h := List.findIdx_lt_length (p := fun (x : RcE) => x.q == q) (xs := l)
  cases hA : l.any (fun x => x.q == q)
  · symm
    apply decide_eq_false
    intro h1
    obtain ⟨x, hx, hp⟩ := h.1 h1
    rw [List.any_eq_true.2 ⟨x, hx, hp⟩] at hA; cases hA
  · symm
    apply decide_eq_true
    obtain ⟨x, hx, hp⟩ := List.any_eq_true.1 hA
    exact h.2 ⟨x, hx, hp⟩
theorem any_next' (f : RcE → Bool) (l : List RcE) {k : Nat} (hk : k < l.length) : (l.take (k + 1)).any f = ((l.take k).any f || f l[k]) := by
  rw [List.take_succ_eq_append_getElem hk, List.any_append]; simp
/-- The expected number is the base behind just as many steps. -/
theorem rc_ne {s : RcS} {b : Int} (h : 0 ≤ s.nx ∧ s.nx < 65536) (hb : 0 ≤ b ∧ b < 65536) (hbf : befB s.nx b = true) {k : Nat} (hk : k ≤ rcM s b) : ((rcMv s k).nx != b) = decide (k < rcM s b) := by
  have h0 := rcMv_nx h k
  have b1 := both_yes (isNum_yes h.1 h.2) (isNum_yes hb.1 hb.2)
  have d1 := (ds_yes b1).1
  have hd : 1 ≤ (b - s.nx) % 65536 ∧ (b - s.nx) % 65536 ≤ 32767 := by
    unfold befB at hbf
    rw [b1] at hbf
    simpa using hbf
  have hM : rcM s b = ((b - s.nx) % 65536).toNat := by unfold rcM; rw [hbf, d1]; rfl
  rw [hM] at hk ⊢
  rw [h0]
  by_cases hlt : k < ((b - s.nx) % 65536).toNat
  · rw [decide_eq_true hlt]
    simp; omega
  · rw [decide_eq_false hlt]
    simp; omega
theorem rcM_no {s : RcS} {b : Int} (h : befB s.nx b = false) : rcM s b = 0 := by unfold rcM; rw [h]; rfl
theorem RcA.list {T : Nat → Prop} {w0 w1 : World} {S : Nat} {v : Value} {L : List Int} {s : RcS} (h : RcA T w0 S v L s w1) : ∃ A c, w1.cell? ⟨S, 2, none⟩ = some (.slice A s.l.length c) ∧ LsA csH 2 67 (.slice A s.l.length c) s.l w1 := by
  obtain ⟨T1, h0, h1, h2, vL, h3, h4⟩ := At.getR h
  obtain ⟨A, c, rfl, _⟩ := h4.shape
  have d2 := h3.read 2
  simp [rrC] at d2
  exact ⟨A, c, d2, h4.any h1⟩
theorem RcA.ins {T : Nat → Prop} {w0 w1 : World} {S : Nat} {v : Value} {L : List Int} {s : RcS} (h : RcA T w0 S v L s w1) (hn : s.l.length ≤ 99998) {q i : Int} (hx : (0 ≤ q ∧ q < 65536) ∧ 1 ≤ i) : Calls Try.prog 34 #[.pointer (some ⟨S, 0, none⟩), .agg #[.int .i64 q, .int .i64 i]] w1 fun e w2 => e = .returned (.tuple #[]) ∧ RcA T w0 S v L (rcIn s ⟨q, i⟩) w2 :=
  At.call1 (base := 0) h (fun _ _ => Nat.zero_le _) (Nat.zero_le _) (Acts.right RowP.frm (rrins_any (x := ⟨q, i⟩) hn hx))
set_option maxRecDepth 100000 in
set_option maxHeartbeats 8000000 in
theorem rrrcv_no {S : Nat} {s : RcS} {T : Nat → Prop} {w : World} (b q i : Int) (hE : rcRvE s b q i ≠ 0) (hP : RrP S s T w) :
    Calls Try.prog 15 #[.pointer (some ⟨S, 0, none⟩), .int .i64 b, .int .i64 q, .int .i64 i] w fun e w' => e = .returned (.tuple #[.slice none 0 0, .int .i64 (rcRvE s b q i)]) ∧ w = w' := by
  obtain ⟨h0, h1, h2, vL, h3, h4⟩ := hP
  have d0 := h3.read 0
  have d1 := h3.read 1
  simp [rrC] at d0 d1
  have HD1 := Lib.hid (refDist_any s.nx b w)
  have HD2 := Lib.hid (refDist_any b s.nx w)
  have HD3 := Lib.hid (refDist_any b q w)
  have HI := Lib.hid (refInside_any b s.w q w)
  have hEE : rcRvE s b q i = if dsE s.nx b ≠ 0 ∨ dsE b q ≠ 0 ∨ i < 1 then 1 else if (32768 ≤ dsV s.nx b ∧ s.w < dsV b s.nx) ∨ insB b s.w q = false then 2 else 0 := rfl
  clear h0 h1 h2 h3 h4
  generalize rcRvE s b q i = E at *
  generalize dsE s.nx b = de at *
  generalize dsV s.nx b = dv at *
  generalize dsE b s.nx = ge at *
  generalize dsV b s.nx = gv at *
  generalize dsE b q = fe at *
  generalize dsV b q = fv at *
  generalize insB b s.w q = ib at *
  generalize s.nx = nx at *
  generalize s.w = wi at *
  by_cases c1 : de ≠ 0 ∨ fe ≠ 0 ∨ i < 1
  · rw [if_pos c1] at hEE
    subst hEE
    have hc : de ≠ 0 ∨ (de = 0 ∧ fe ≠ 0) ∨ (de = 0 ∧ fe = 0 ∧ i < 1) := by omega
    clear c1 hE
    rcases hc with c1 | ⟨rfl, c1⟩ | ⟨rfl, rfl, c1⟩
    · have hne : (de != 0) = true := by simpa using c1
      go_enter Try.func15, Try.ntmps15
      go_wp2_with fail
      (with_reducible refine HD1.out.mono ?_); rintro e w1 ⟨rfl, rfl⟩
      go_wp2_with fail
      (with_reducible refine HD2.out.mono ?_); rintro e w1 ⟨rfl, rfl⟩
      go_wp2_with fail
      (with_reducible refine HD3.out.mono ?_); rintro e w1 ⟨rfl, rfl⟩
      go_wp2
      go_ret2
      exact ⟨rfl, rfl⟩
    · have hne : (fe != 0) = true := by simpa using c1
      go_enter Try.func15, Try.ntmps15
      go_wp2_with fail
      (with_reducible refine HD1.out.mono ?_); rintro e w1 ⟨rfl, rfl⟩
      go_wp2_with fail
      (with_reducible refine HD2.out.mono ?_); rintro e w1 ⟨rfl, rfl⟩
      go_wp2_with fail
      (with_reducible refine HD3.out.mono ?_); rintro e w1 ⟨rfl, rfl⟩
      go_wp2
      go_ret2
      exact ⟨rfl, rfl⟩
    · go_enter Try.func15, Try.ntmps15
      go_wp2_with fail
      (with_reducible refine HD1.out.mono ?_); rintro e w1 ⟨rfl, rfl⟩
      go_wp2_with fail
      (with_reducible refine HD2.out.mono ?_); rintro e w1 ⟨rfl, rfl⟩
      go_wp2_with fail
      (with_reducible refine HD3.out.mono ?_); rintro e w1 ⟨rfl, rfl⟩
      go_wp2
      go_ret2
      exact ⟨rfl, rfl⟩
  · rw [if_neg c1] at hEE
    by_cases c2 : (32768 ≤ dv ∧ wi < gv) ∨ ib = false
    · rw [if_pos c2] at hEE
      subst hEE
      have hi1 : 1 ≤ i := by omega
      obtain rfl : de = 0 := by omega
      obtain rfl : fe = 0 := by omega
      have hc : (32768 ≤ dv ∧ wi < gv) ∨ (ib = false ∧ dv < 32768) ∨ (ib = false ∧ 32768 ≤ dv ∧ gv ≤ wi) := by
        rcases c2 with c2 | c2
        · exact .inl c2
        · by_cases c3 : 32768 ≤ dv
          · by_cases c4 : wi < gv
            · exact .inl ⟨c3, c4⟩
            · exact .inr (.inr ⟨c2, c3, by omega⟩)
          · exact .inr (.inl ⟨c2, by omega⟩)
      clear c1 c2 hE
      rcases hc with ⟨c1, c2⟩ | ⟨rfl, c1⟩ | ⟨rfl, c1, c2⟩
      · go_enter Try.func15, Try.ntmps15
        go_wp2_with fail
        (with_reducible refine HD1.out.mono ?_); rintro e w1 ⟨rfl, rfl⟩
        go_wp2_with fail
        (with_reducible refine HD2.out.mono ?_); rintro e w1 ⟨rfl, rfl⟩
        go_wp2_with fail
        (with_reducible refine HD3.out.mono ?_); rintro e w1 ⟨rfl, rfl⟩
        go_wp2
        go_ret2
        exact ⟨rfl, rfl⟩
      all_goals
        go_enter Try.func15, Try.ntmps15
        go_wp2_with fail
        (with_reducible refine HD1.out.mono ?_); rintro e w1 ⟨rfl, rfl⟩
        go_wp2_with fail
        (with_reducible refine HD2.out.mono ?_); rintro e w1 ⟨rfl, rfl⟩
        go_wp2_with fail
        (with_reducible refine HD3.out.mono ?_); rintro e w1 ⟨rfl, rfl⟩
        go_wp2_with fail
        (with_reducible refine HI.out.mono ?_); rintro e w1 ⟨rfl, rfl⟩
        go_wp2
        go_ret2
        exact ⟨rfl, rfl⟩
    · rw [if_neg c2] at hEE
      exact absurd hEE hE
set_option maxRecDepth 100000 in
set_option maxHeartbeats 32000000 in
theorem rrrcv_ok {S : Nat} {s : RcS} (hn : s.l.length ≤ 29999) {base : Nat} (b q i : Int) (hE : rcRvE s b q i = 0) :
    Acts 15 #[.pointer (some ⟨S, 0, none⟩), .int .i64 b, .int .i64 q, .int .i64 i] base (RrP S s) (fun v : Value => .tuple #[v, .int .i64 0]) fun v =>
      Star (LsP csI 1 3 v (rcMo s (rcM s b) ++ rcMo (rcPut (rcMv s (rcM s b)) ⟨q, i⟩) (rcRn (rcPut (rcMv s (rcM s b)) ⟨q, i⟩)))) (RrP S (rcMv (rcPut (rcMv s (rcM s b)) ⟨q, i⟩) (rcRn (rcPut (rcMv s (rcM s b)) ⟨q, i⟩)))) := by
  intro T w hP hb0 hs
  obtain ⟨e1, e2, e3, e4, e5⟩ := rcRvE_ok hE
  have hb := (both_bd (ds_num e1)).2
  have hq := (both_bd (ds_num e2)).2
  have hok := hP.1
  have HXQ := Lib.hid (show (0 ≤ q ∧ q < 65536) ∧ 1 ≤ i from ⟨hq, e3⟩)
  have HA0 := Lib.hid (RcA.start hP)
  obtain ⟨h0, h1, h2, vL, h3, h4⟩ := hP
  have d0 := h3.read 0
  have d1 := h3.read 1
  simp [rrC] at d0 d1
  have HD1 := Lib.hid (refDist_any s.nx b w)
  have HD2 := Lib.hid (refDist_any b s.nx w)
  have HD3 := Lib.hid (refDist_any b q w)
  have HI := Lib.hid (refInside_any b s.w q w)
  have HBF := Lib.hid (refBefore_any s.nx b w)
  rw [e1] at HD1
  rw [e2] at HD3
  rw [e5] at HI
  have HNE := Lib.hid (fun (h : befB s.nx b = true) k (hk : k ≤ rcM s b) => rc_ne hok.nx hb h hk)
  have HNO := Lib.hid (fun (h : befB s.nx b = false) => rcM_no h)
  have HLE := Lib.hid (fun k (hk : k < rcM s b) => rcM_left hok.nx hb hk)
  have hM := rcM_le (s := s) (b := b)
  have hl1 := rcMv_len s (rcM s b)
  have hp2 := rcPut_len (rcMv s (rcM s b)) ⟨q, i⟩
  have HOM := Lib.hid (rcMo_len s)
  have HMV := Lib.hid (rcMv_len s)
  obtain ⟨M, hM_⟩ : ∃ M, rcM s b = M := ⟨_, rfl⟩
  rw [hM_] at HNE HNO HLE hM hl1 hp2 ⊢
  obtain ⟨s1, hs1⟩ : ∃ s1, rcMv s M = s1 := ⟨_, rfl⟩
  have HS1 := Lib.hid hs1
  rw [hs1] at hl1 hp2 ⊢
  obtain ⟨L1, hL1⟩ : ∃ L1, rcMo s M = L1 := ⟨_, rfl⟩
  have HL1 := Lib.hid hL1
  have hL1n : L1.length ≤ M := by rw [← hL1]; exact HOM.out M
  rw [hL1]
  obtain ⟨s2, hs2⟩ : ∃ s2, rcPut s1 ⟨q, i⟩ = s2 := ⟨_, rfl⟩
  have HS2 := Lib.hid hs2
  rw [hs2] at hp2 ⊢
  have hK := rcRn_le s2
  have HKY := Lib.hid (fun k (hk : k < rcRn s2) => rcRn_yes s2 hk)
  have HKE := Lib.hid (rcRn_end s2)
  have HOM2 := Lib.hid (rcMo_len s2)
  have HMV2 := Lib.hid (rcMv_len s2)
  obtain ⟨K, hK_⟩ : ∃ K, rcRn s2 = K := ⟨_, rfl⟩
  rw [hK_] at hK HKY HKE ⊢
  have hc : dsV s.nx b < 32768 ∨ (32768 ≤ dsV s.nx b ∧ dsV b s.nx ≤ s.w) := by omega
  have hl1 : s1.l.length ≤ 30000 := by omega
  clear h0 h1 h2 h3 h4 hb0 hs hM_ hs1 hL1 hs2 hK_ e1 e2 e4 e5 hE hok hb hq
  generalize dsV s.nx b = dv at *
  generalize dsE b s.nx = ge at *
  generalize dsV b s.nx = gv at *
  generalize dsV b q = fv at *
  generalize hbf : befB s.nx b = bf at *
  clear hbf
  rcases hc with c1_ | ⟨c1_, c2_⟩
  all_goals
    go_enter Try.func15, Try.ntmps15
    go_wp2_with fail
    (with_reducible refine HD1.out.mono ?_); rintro e w1 ⟨rfl, rfl⟩
    go_wp2_with fail
    (with_reducible refine HD2.out.mono ?_); rintro e w1 ⟨rfl, rfl⟩
    go_wp2_with fail
    (with_reducible refine HD3.out.mono ?_); rintro e w1 ⟨rfl, rfl⟩
    go_wp2_with fail
    (with_reducible refine HI.out.mono ?_); rintro e w1 ⟨rfl, rfl⟩
    clear HD1 HD2 HD3 HI
    cases bf
    · have hM0 := HNO.out rfl
      have HA1 := Lib.hid (show RcA T w S (.slice none L1.length 0) L1 s1 w by
        have h8 := HS1.out
        have h9 := HL1.out
        rw [hM0] at h8 h9
        rw [← h8, ← h9]; exact HA0.out)
      have HNL := Lib.hid (show L1.length = 0 by rw [← HL1.out, hM0]; rfl)
      go_wp2_with fail
      (with_reducible refine HBF.out.mono ?_); rintro e w1 ⟨rfl, rfl⟩
      clear HBF HNE HNO HLE HA0 HOM HMV hM0 d0 d1
      obtain ⟨A, hA_⟩ : ∃ A : Option Addr, none = A := ⟨_, rfl⟩
      obtain ⟨c, hc_⟩ : ∃ c : Nat, 0 = c := ⟨_, rfl⟩
      have HZ := Lib.hid (show Value.slice none 0 0 = Value.slice A L1.length c by rw [HNL.out, ← hA_, ← hc_])
      rw [hA_, hc_] at HA1
      rw [HZ.out]
      clear hA_ hc_ HZ HNL
      have HBQ := Lib.hid ((refBefore_any q s1.nx w).mono fun e w' h => (show e = .returned (.bool (befB q s1.nx)) ∧ w = w' from h))
      obtain ⟨c0, c1, z1⟩ := HA1.out.cells
      obtain ⟨b0, hb0_⟩ : ∃ b0, befB q s1.nx = b0 := ⟨_, rfl⟩
      have HB0 := Lib.hid hb0_
      rw [hb0_] at HBQ
      clear hb0_
      go_wp2_with fail
      (with_reducible refine HBQ.out.mono ?_); rintro e w5 ⟨rfl, rfl⟩
      clear HBQ c0 c1 z1
      go_wp2_with fail
      go_loopw [18, 19] (fun s18 s19 wq => ∃ (m : Nat) (th : Bool), m ≤ s1.l.length ∧ s19 = .int .i64 m ∧ s18 = .bool th ∧ Hid (th = (b0 || (s1.l.take m).any (fun x => x.q == q))) ∧ Hid (RcA T w S (.slice A L1.length c) L1 s1 wq)) (fun _ s19 _ => s1.l.length - (intOf s19).toNat)
      case atStart => exact ⟨0, b0, Nat.zero_le _, rfl, rfl, Lib.hid (by simp), HA1⟩
      case round =>
        obtain ⟨m, th, hm, rfl, rfl, HTH, HA⟩ := hrel
        clear HA1
        obtain ⟨A5, c5, dd2, hls⟩ := HA.out.list
        by_cases hlm : m < s1.l.length
        · have hlm' : (m : Int) < s1.l.length := by omega
          have hm0 : (0 : Int) ≤ m := by omega
          have hmn : s1.l.length ≤ 30000 := hl1
          have hany := any_next' (fun x => x.q == q) s1.l hlm
          obtain ⟨bb, off, c', e1, _, _, hbw, _, hcell⟩ := hls.el hlm
          obtain ⟨rfl, rfl⟩ : A5 = some ⟨bb, off, none⟩ ∧ c5 = c' := by simpa using e1
          have d1 : wr.cell? ⟨bb, off + m * 2, none⟩ = some (.int .i64 s1.l[m].q) := hcell m hlm 0 (by omega)
          obtain ⟨lq, hlq⟩ : ∃ lq, s1.l[m].q = lq := ⟨_, rfl⟩
          rw [hlq] at d1 hany
          have HTN := Lib.hid (show (th || (lq == q)) = (b0 || (s1.l.take (m + 1)).any (fun x => x.q == q)) by rw [hany, HTH.out, Bool.or_assoc])
          clear hany hlq hcell e1 hls HTH HKY HKE HOM2 HMV2
          cases th
          · have HTN2 := Lib.hid (show (lq == q) = (b0 || (s1.l.take (m + 1)).any (fun x => x.q == q)) by have := HTN.out; simpa using this)
            clear HTN
            obtain ⟨rr, hrr⟩ : ∃ rr, (lq == q) = rr := ⟨_, rfl⟩
            rw [hrr] at HTN2
            go_wp2
            go_roundw
            case rel => exact ⟨m + 1, rr, by omega, by go_num, rfl, HTN2, HA⟩
            case measure => simp [intOf]; omega
          · have HTN2 := Lib.hid (show true = (b0 || (s1.l.take (m + 1)).any (fun x => x.q == q)) by have := HTN.out; simpa using this)
            clear HTN
            go_wp2
            go_roundw
            case rel => exact ⟨m + 1, true, by omega, by go_num, rfl, HTN2, HA⟩
            case measure => simp [intOf]; omega
        · obtain rfl : m = s1.l.length := by omega
          have hth : th = rcThere s1 q := by
            have h9 := HTH.out
            rw [List.take_length, there_any] at h9
            unfold rcThere; rw [HB0.out]; exact h9
          have HPT := Lib.hid (show s2 = if th = true then s1 else rcIn s1 ⟨q, i⟩ by rw [hth, ← HS2.out]; rfl)
          clear HTH hth hls
          cases th
          · have HX := Lib.hid (RcA.ins HA.out (by omega) HXQ.out)
            clear HA
            go_wp2_with fail
            (with_reducible refine HX.out.mono ?_); rintro e w6 ⟨rfl, h1⟩
            have HA2 := Lib.hid (show RcA T w S (.slice A L1.length c) (L1 ++ rcMo s2 0) (rcMv s2 0) w6 by
              show RcA T w S _ (L1 ++ []) s2 w6
              rw [List.append_nil, HPT.out]; exact h1)
            clear h1 HX HPT dd2
            go_wp2_with fail
            go_loopw [16] (fun s5 wq => ∃ (j : Nat) (A : Option Addr) (c : Nat), j ≤ K ∧ s5 = .slice A (L1 ++ rcMo s2 j).length c ∧ Hid (RcA T w S (.slice A (L1 ++ rcMo s2 j).length c) (L1 ++ rcMo s2 j) (rcMv s2 j) wq)) (fun _ wq => rcHeld S wq)
            case atStart => exact ⟨0, A, c, Nat.zero_le _, by simp [rcMo], by simpa [rcMo] using HA2⟩
            case round =>
              obtain ⟨j, A, c, hj, rfl, HA⟩ := hrel
              clear HA2
              obtain ⟨c0, c1, z1⟩ := HA.out.cells
              have hnx := HA.out.ok.nx
              have hlk := HMV2.out j
              have hok2 := HOM2.out j
              have HT := Lib.hid (RcA.take HA.out (by omega) (rcMv s2 j).nx)
              have HTP := Lib.hid (rcTk_pos (q := (rcMv s2 j).nx) (fun x hx => (HA.out.ok.e x hx).2))
              have HHD := Lib.hid (RcA.held HA.out)
              have hlen : (L1 ++ rcMo s2 j).length ≤ 99999 := by rw [List.length_append]; omega
              by_cases htk : rcTk (rcMv s2 j).l (rcMv s2 j).nx = 0
              · have hjK : j = K := by
                  rcases Nat.lt_or_ge j K with h1 | h1
                  · exact absurd htk (HKY.out j h1)
                  · omega
                subst hjK
                have HRM := Lib.hid (rcRm_not (q := (rcMv s2 j).nx) (fun x hx => (HA.out.ok.e x hx).2) htk)
                rw [htk] at HT
                clear HA HKY HKE HOM2 HMV2 HTP htk
                generalize hLe : L1 ++ rcMo s2 j = Lk at *
                have HLE := Lib.hid hLe
                generalize hse : rcMv s2 j = sk at *
                have HSE := Lib.hid hse
                clear hLe hse
                go_wp2_with fail
                (with_reducible refine HT.out.mono ?_); rintro e w3 ⟨rfl, h3⟩
                rw [HRM.out] at h3
                have HF := Lib.hid (RcA.done h3)
                have HF2 := Lib.hid (show (∃ T', Star (LsP csI 1 3 (.slice A Lk.length c) (L1 ++ rcMo s2 j)) (RrP S (rcMv s2 j)) T' w3 ∧ ∀ j, T' j → T j ∨ w.heap.size ≤ j) ∧ Chg T w w3 by
                  rw [HLE.out, HSE.out]; exact HF.out)
                clear h3 HT HF
                go_wp2
                go_ret2
                exact ⟨_, rfl, HF2.out⟩
              · have hjK : j < K := by
                  rcases Nat.lt_or_ge j K with h1 | h1
                  · exact h1
                  · obtain rfl : j = K := by omega
                    exact absurd HKE.out htk
                have HEQ := Lib.hid (And.intro (show L1 ++ rcMo s2 (j + 1) = (L1 ++ rcMo s2 j) ++ rcSo (rcMv s2 j) from (List.append_assoc _ _ _).symm) (show rcMv s2 (j + 1) = rcSt (rcMv s2 j) from rfl))
                have HLT := Lib.hid (rcRm_lt (rcTk_of htk))
                clear HA HKY HKE HOM2 HMV2
                generalize rcMv s2 j = sk at *
                generalize L1 ++ rcMo s2 j = Lk at *
                obtain ⟨tk, htk_⟩ : ∃ tk, rcTk sk.l sk.nx = tk := ⟨_, rfl⟩
                have HSO := Lib.hid (show rcSo sk = if 0 < tk then [tk] else [] by unfold rcSo; rw [htk_])
                rw [htk_] at HT HTP htk
                have htp := HTP.out
                obtain ⟨r, hr⟩ : ∃ r, (sk.nx + 1) % 65536 = r := ⟨_, rfl⟩
                have w1 : IntKind.i64.wrap (sk.nx + 1) = sk.nx + 1 := IntWalk.i64_in _ (by omega)
                have w2 : Int.tmod (sk.nx + 1) 65536 = r := by rw [Int.tmod_eq_emod_of_nonneg (by omega)]; exact hr
                have w3_ : IntKind.i64.wrap r = r := IntWalk.i64_in _ (by omega)
                have HNX := Lib.hid (fun (W : World) (v : Value) (L : List Int) (h : RcA T w S v L ⟨sk.w, sk.nx, rcRm sk.l sk.nx⟩ W) => (by have h9 := RcA.next (s := sk) h; rw [hr] at h9; exact h9 : RcA T w S v L (rcSt sk) (W.setCell ⟨S, 1, none⟩ (.int .i64 r))))
                clear htk_ hr HTP
                go_wp2_with fail
                (with_reducible refine HT.out.mono ?_); rintro e w3 ⟨rfl, h3⟩
                clear HT c0 c1 z1
                have htpos : 0 < tk := by omega
                have hne : (tk == 0) = false := by simpa using htk
                have HLE2 := Lib.hid hlen
                obtain ⟨A9, c9, w4, hrun, h4⟩ := RcA.app h3 HLE2.out tk
                obtain ⟨c0, c1, z1⟩ := h4.cells
                have hso := HSO.out
                rw [if_pos htpos] at hso
                have h5 := HNX.out w4 _ _ h4
                have HF := Lib.hid (show RcA T w S (.slice A9 (L1 ++ rcMo s2 (j + 1)).length c9) (L1 ++ rcMo s2 (j + 1)) (rcMv s2 (j + 1)) (w4.setCell ⟨S, 1, none⟩ (.int .i64 r)) by
                  rw [HEQ.out.1, HEQ.out.2, hso]
                  simpa using h5)
                have HVE := Lib.hid (show Value.slice A9 (Lk.length + 1) c9 = .slice A9 (L1 ++ rcMo s2 (j + 1)).length c9 by rw [HEQ.out.1, hso]; simp)
                have HME := Lib.hid (show rcHeld S (w4.setCell ⟨S, 1, none⟩ (.int .i64 r)) < rcHeld S wr by
                  rw [RcA.held HF.out, HHD.out, HEQ.out.2]
                  have h9 := HLT.out
                  show (rcRm sk.l sk.nx).length < sk.l.length
                  omega)
                clear h3 h4 h5 hso HNX HEQ HSO
                simp only at c0 c1
                go_wp2_with (at_builtin; refine wpList_append_run rfl (.tmp 152) (.tmp 154) 22 rfl rfl rfl hrun ?_)
                go_roundw
                case rel => exact ⟨j + 1, A9, c9, by omega, HVE.out, HF⟩
                case measure => exact HME.out
          · have HA2 := Lib.hid (show RcA T w S (.slice A L1.length c) (L1 ++ rcMo s2 0) (rcMv s2 0) wr by
              show RcA T w S _ (L1 ++ []) s2 wr
              rw [List.append_nil, HPT.out]; exact HA.out)
            clear HA HPT
            go_wp2_with fail
            go_loopw [16] (fun s5 wq => ∃ (j : Nat) (A : Option Addr) (c : Nat), j ≤ K ∧ s5 = .slice A (L1 ++ rcMo s2 j).length c ∧ Hid (RcA T w S (.slice A (L1 ++ rcMo s2 j).length c) (L1 ++ rcMo s2 j) (rcMv s2 j) wq)) (fun _ wq => rcHeld S wq)
            case atStart => exact ⟨0, A, c, Nat.zero_le _, by simp [rcMo], by simpa [rcMo] using HA2⟩
            case round =>
              obtain ⟨j, A, c, hj, rfl, HA⟩ := hrel
              clear HA2
              obtain ⟨c0, c1, z1⟩ := HA.out.cells
              have hnx := HA.out.ok.nx
              have hlk := HMV2.out j
              have hok2 := HOM2.out j
              have HT := Lib.hid (RcA.take HA.out (by omega) (rcMv s2 j).nx)
              have HTP := Lib.hid (rcTk_pos (q := (rcMv s2 j).nx) (fun x hx => (HA.out.ok.e x hx).2))
              have HHD := Lib.hid (RcA.held HA.out)
              have hlen : (L1 ++ rcMo s2 j).length ≤ 99999 := by rw [List.length_append]; omega
              by_cases htk : rcTk (rcMv s2 j).l (rcMv s2 j).nx = 0
              · have hjK : j = K := by
                  rcases Nat.lt_or_ge j K with h1 | h1
                  · exact absurd htk (HKY.out j h1)
                  · omega
                subst hjK
                have HRM := Lib.hid (rcRm_not (q := (rcMv s2 j).nx) (fun x hx => (HA.out.ok.e x hx).2) htk)
                rw [htk] at HT
                clear HA HKY HKE HOM2 HMV2 HTP htk
                generalize hLe : L1 ++ rcMo s2 j = Lk at *
                have HLE := Lib.hid hLe
                generalize hse : rcMv s2 j = sk at *
                have HSE := Lib.hid hse
                clear hLe hse
                go_wp2_with fail
                (with_reducible refine HT.out.mono ?_); rintro e w3 ⟨rfl, h3⟩
                rw [HRM.out] at h3
                have HF := Lib.hid (RcA.done h3)
                have HF2 := Lib.hid (show (∃ T', Star (LsP csI 1 3 (.slice A Lk.length c) (L1 ++ rcMo s2 j)) (RrP S (rcMv s2 j)) T' w3 ∧ ∀ j, T' j → T j ∨ w.heap.size ≤ j) ∧ Chg T w w3 by
                  rw [HLE.out, HSE.out]; exact HF.out)
                clear h3 HT HF
                go_wp2
                go_ret2
                exact ⟨_, rfl, HF2.out⟩
              · have hjK : j < K := by
                  rcases Nat.lt_or_ge j K with h1 | h1
                  · exact h1
                  · obtain rfl : j = K := by omega
                    exact absurd HKE.out htk
                have HEQ := Lib.hid (And.intro (show L1 ++ rcMo s2 (j + 1) = (L1 ++ rcMo s2 j) ++ rcSo (rcMv s2 j) from (List.append_assoc _ _ _).symm) (show rcMv s2 (j + 1) = rcSt (rcMv s2 j) from rfl))
                have HLT := Lib.hid (rcRm_lt (rcTk_of htk))
                clear HA HKY HKE HOM2 HMV2
                generalize rcMv s2 j = sk at *
                generalize L1 ++ rcMo s2 j = Lk at *
                obtain ⟨tk, htk_⟩ : ∃ tk, rcTk sk.l sk.nx = tk := ⟨_, rfl⟩
                have HSO := Lib.hid (show rcSo sk = if 0 < tk then [tk] else [] by unfold rcSo; rw [htk_])
                rw [htk_] at HT HTP htk
                have htp := HTP.out
                obtain ⟨r, hr⟩ : ∃ r, (sk.nx + 1) % 65536 = r := ⟨_, rfl⟩
                have w1 : IntKind.i64.wrap (sk.nx + 1) = sk.nx + 1 := IntWalk.i64_in _ (by omega)
                have w2 : Int.tmod (sk.nx + 1) 65536 = r := by rw [Int.tmod_eq_emod_of_nonneg (by omega)]; exact hr
                have w3_ : IntKind.i64.wrap r = r := IntWalk.i64_in _ (by omega)
                have HNX := Lib.hid (fun (W : World) (v : Value) (L : List Int) (h : RcA T w S v L ⟨sk.w, sk.nx, rcRm sk.l sk.nx⟩ W) => (by have h9 := RcA.next (s := sk) h; rw [hr] at h9; exact h9 : RcA T w S v L (rcSt sk) (W.setCell ⟨S, 1, none⟩ (.int .i64 r))))
                clear htk_ hr HTP
                go_wp2_with fail
                (with_reducible refine HT.out.mono ?_); rintro e w3 ⟨rfl, h3⟩
                clear HT c0 c1 z1
                have htpos : 0 < tk := by omega
                have hne : (tk == 0) = false := by simpa using htk
                have HLE2 := Lib.hid hlen
                obtain ⟨A9, c9, w4, hrun, h4⟩ := RcA.app h3 HLE2.out tk
                obtain ⟨c0, c1, z1⟩ := h4.cells
                have hso := HSO.out
                rw [if_pos htpos] at hso
                have h5 := HNX.out w4 _ _ h4
                have HF := Lib.hid (show RcA T w S (.slice A9 (L1 ++ rcMo s2 (j + 1)).length c9) (L1 ++ rcMo s2 (j + 1)) (rcMv s2 (j + 1)) (w4.setCell ⟨S, 1, none⟩ (.int .i64 r)) by
                  rw [HEQ.out.1, HEQ.out.2, hso]
                  simpa using h5)
                have HVE := Lib.hid (show Value.slice A9 (Lk.length + 1) c9 = .slice A9 (L1 ++ rcMo s2 (j + 1)).length c9 by rw [HEQ.out.1, hso]; simp)
                have HME := Lib.hid (show rcHeld S (w4.setCell ⟨S, 1, none⟩ (.int .i64 r)) < rcHeld S wr by
                  rw [RcA.held HF.out, HHD.out, HEQ.out.2]
                  have h9 := HLT.out
                  show (rcRm sk.l sk.nx).length < sk.l.length
                  omega)
                clear h3 h4 h5 hso HNX HEQ HSO
                simp only at c0 c1
                go_wp2_with (at_builtin; refine wpList_append_run rfl (.tmp 152) (.tmp 154) 22 rfl rfl rfl hrun ?_)
                go_roundw
                case rel => exact ⟨j + 1, A9, c9, by omega, HVE.out, HF⟩
                case measure => exact HME.out
    · go_wp2_with fail
      (with_reducible refine HBF.out.mono ?_); rintro e w1 ⟨rfl, rfl⟩
      clear HBF d0 d1
      go_wp2_with fail
      go_loopw [16] (fun s16 wr => ∃ (k : Nat) (A : Option Addr) (c : Nat), k ≤ M ∧ s16 = .slice A (rcMo s k).length c ∧ Hid (RcA T w S (.slice A (rcMo s k).length c) (rcMo s k) (rcMv s k) wr)) (fun _ wr => rcLeft b S wr)
      case atStart => exact ⟨0, none, 0, Nat.zero_le _, rfl, HA0⟩
      case round =>
        obtain ⟨k, A, c, hk, rfl, HA⟩ := hrel
        clear HA0
        have hne := HNE.out (by simp) k hk
        obtain ⟨c0, c1, z1⟩ := HA.out.cells
        have hnx := HA.out.ok.nx
        by_cases hlt : k < M
        · have hne2 : ((rcMv s k).nx != b) = true := by rw [hne]; simpa using hlt
          have HL1_ := Lib.hid (HLE.out k hlt)
          have hlk := HMV.out k
          have hok := HOM.out k
          have HT := Lib.hid (RcA.take HA.out (by omega) (rcMv s k).nx)
          have HLF := Lib.hid (RcA.left (b := b) HA.out)
          have HEQ := Lib.hid (And.intro (show rcMo s (k + 1) = rcMo s k ++ rcSo (rcMv s k) from rfl) (show rcMv s (k + 1) = rcSt (rcMv s k) from rfl))
          have HTP := Lib.hid (rcTk_pos (q := (rcMv s k).nx) (fun x hx => (HA.out.ok.e x hx).2))
          clear HA HNE HNO HLE HKY HKE HOM HOM2 HMV HMV2 hne HS1 HS2 HL1 HXQ
          generalize rcMv s k = sk at *
          generalize rcMo s k = Lk at *
          obtain ⟨tk, htk_⟩ : ∃ tk, rcTk sk.l sk.nx = tk := ⟨_, rfl⟩
          have HSO := Lib.hid (show rcSo sk = if 0 < tk then [tk] else [] by unfold rcSo; rw [htk_])
          rw [htk_] at HT HTP
          have htp := HTP.out
          obtain ⟨r, hr⟩ : ∃ r, (sk.nx + 1) % 65536 = r := ⟨_, rfl⟩
          have w1 : IntKind.i64.wrap (sk.nx + 1) = sk.nx + 1 := IntWalk.i64_in _ (by omega)
          have w2 : Int.tmod (sk.nx + 1) 65536 = r := by rw [Int.tmod_eq_emod_of_nonneg (by omega)]; exact hr
          have w3_ : IntKind.i64.wrap r = r := IntWalk.i64_in _ (by omega)
          have HNX := Lib.hid (fun (W : World) (v : Value) (L : List Int) (h : RcA T w S v L ⟨sk.w, sk.nx, rcRm sk.l sk.nx⟩ W) => (by have h9 := RcA.next (s := sk) h; rw [hr] at h9; exact h9 : RcA T w S v L (rcSt sk) (W.setCell ⟨S, 1, none⟩ (.int .i64 r))))
          clear htk_ hr HTP
          go_wp2_with fail
          (with_reducible refine HT.out.mono ?_); rintro e w3 ⟨rfl, h3⟩
          clear HT c0 c1 z1
          by_cases htpos : 0 < tk
          · have HLE2 := Lib.hid (show Lk.length ≤ 99999 by omega)
            obtain ⟨A9, c9, w4, hrun, h4⟩ := RcA.app h3 HLE2.out tk
            obtain ⟨c0, c1, z1⟩ := h4.cells
            have hso := HSO.out
            rw [if_pos htpos] at hso
            have h5 := HNX.out w4 _ _ h4
            have HF := Lib.hid (show RcA T w S (.slice A9 (rcMo s (k + 1)).length c9) (rcMo s (k + 1)) (rcMv s (k + 1)) (w4.setCell ⟨S, 1, none⟩ (.int .i64 r)) by
              rw [HEQ.out.1, HEQ.out.2, hso]
              simpa using h5)
            have HVE := Lib.hid (show Value.slice A9 (Lk.length + 1) c9 = .slice A9 (rcMo s (k + 1)).length c9 by rw [HEQ.out.1, hso]; simp)
            have HME := Lib.hid (show rcLeft b S (w4.setCell ⟨S, 1, none⟩ (.int .i64 r)) < rcLeft b S wr by rw [RcA.left HF.out, HLF.out]; exact HL1_.out)
            clear h3 h4 h5 hso HNX HEQ HSO
            simp only at c0 c1
            go_wp2_with (at_builtin; refine wpList_append_run rfl (.tmp 95) (.tmp 97) 22 rfl rfl rfl hrun ?_)
            go_roundw
            case rel => exact ⟨k + 1, A9, c9, by omega, HVE.out, HF⟩
            case measure => exact HME.out
          · have htz : tk = 0 := by omega
            subst htz
            obtain ⟨c0, c1, z1⟩ := h3.cells
            have hso := HSO.out
            rw [if_neg (by omega)] at hso
            have h5 := HNX.out w3 _ _ h3
            have HF := Lib.hid (show RcA T w S (.slice A (rcMo s (k + 1)).length c) (rcMo s (k + 1)) (rcMv s (k + 1)) (w3.setCell ⟨S, 1, none⟩ (.int .i64 r)) by
              rw [HEQ.out.1, HEQ.out.2, hso]
              simpa using h5)
            have HVE := Lib.hid (show Value.slice A Lk.length c = .slice A (rcMo s (k + 1)).length c by rw [HEQ.out.1, hso]; simp)
            have HME := Lib.hid (show rcLeft b S (w3.setCell ⟨S, 1, none⟩ (.int .i64 r)) < rcLeft b S wr by rw [RcA.left HF.out, HLF.out]; exact HL1_.out)
            clear h3 h5 hso HNX HEQ HSO
            simp only at c0 c1
            go_wp2
            go_roundw
            case rel => exact ⟨k + 1, A, c, by omega, HVE.out, HF⟩
            case measure => exact HME.out
        · obtain rfl : k = M := by omega
          have hne2 : ((rcMv s k).nx != b) = false := by rw [hne]; simp
          have HA1 := Lib.hid (show RcA T w S (.slice A L1.length c) L1 s1 wr by
            have h9 := HA.out
            rw [HS1.out, HL1.out] at h9; exact h9)
          rw [HL1.out]
          have h11 := c1
          rw [HS1.out] at hne2 h11
          clear HA HNE HNO HLE HOM HMV hne c1
          have HBQ := Lib.hid ((refBefore_any q s1.nx wr).mono fun e w' h => (show e = .returned (.bool (befB q s1.nx)) ∧ wr = w' from h))
          obtain ⟨c0, c1, z1⟩ := HA1.out.cells
          obtain ⟨b0, hb0_⟩ : ∃ b0, befB q s1.nx = b0 := ⟨_, rfl⟩
          have HB0 := Lib.hid hb0_
          rw [hb0_] at HBQ
          clear hb0_
          go_wp2_with fail
          (with_reducible refine HBQ.out.mono ?_); rintro e w5 ⟨rfl, rfl⟩
          clear HBQ c0 c1 z1
          go_wp2_with fail
          go_loopw [18, 19] (fun s18 s19 wq => ∃ (m : Nat) (th : Bool), m ≤ s1.l.length ∧ s19 = .int .i64 m ∧ s18 = .bool th ∧ Hid (th = (b0 || (s1.l.take m).any (fun x => x.q == q))) ∧ Hid (RcA T w S (.slice A L1.length c) L1 s1 wq)) (fun _ s19 _ => s1.l.length - (intOf s19).toNat)
          case atStart => exact ⟨0, b0, Nat.zero_le _, rfl, rfl, Lib.hid (by simp), HA1⟩
          case round =>
            obtain ⟨m, th, hm, rfl, rfl, HTH, HA⟩ := hrel
            clear HA1
            obtain ⟨A5, c5, dd2, hls⟩ := HA.out.list
            by_cases hlm : m < s1.l.length
            · have hlm' : (m : Int) < s1.l.length := by omega
              have hm0 : (0 : Int) ≤ m := by omega
              have hmn : s1.l.length ≤ 30000 := hl1
              have hany := any_next' (fun x => x.q == q) s1.l hlm
              obtain ⟨bb, off, c', e1, _, _, hbw, _, hcell⟩ := hls.el hlm
              obtain ⟨rfl, rfl⟩ : A5 = some ⟨bb, off, none⟩ ∧ c5 = c' := by simpa using e1
              have d1 : wr.cell? ⟨bb, off + m * 2, none⟩ = some (.int .i64 s1.l[m].q) := hcell m hlm 0 (by omega)
              obtain ⟨lq, hlq⟩ : ∃ lq, s1.l[m].q = lq := ⟨_, rfl⟩
              rw [hlq] at d1 hany
              have HTN := Lib.hid (show (th || (lq == q)) = (b0 || (s1.l.take (m + 1)).any (fun x => x.q == q)) by rw [hany, HTH.out, Bool.or_assoc])
              clear hany hlq hcell e1 hls HTH HKY HKE HOM2 HMV2
              cases th
              · have HTN2 := Lib.hid (show (lq == q) = (b0 || (s1.l.take (m + 1)).any (fun x => x.q == q)) by have := HTN.out; simpa using this)
                clear HTN
                obtain ⟨rr, hrr⟩ : ∃ rr, (lq == q) = rr := ⟨_, rfl⟩
                rw [hrr] at HTN2
                go_wp2
                go_roundw
                case rel => exact ⟨m + 1, rr, by omega, by go_num, rfl, HTN2, HA⟩
                case measure => simp [intOf]; omega
              · have HTN2 := Lib.hid (show true = (b0 || (s1.l.take (m + 1)).any (fun x => x.q == q)) by have := HTN.out; simpa using this)
                clear HTN
                go_wp2
                go_roundw
                case rel => exact ⟨m + 1, true, by omega, by go_num, rfl, HTN2, HA⟩
                case measure => simp [intOf]; omega
            · obtain rfl : m = s1.l.length := by omega
              have hth : th = rcThere s1 q := by
                have h9 := HTH.out
                rw [List.take_length, there_any] at h9
                unfold rcThere; rw [HB0.out]; exact h9
              have HPT := Lib.hid (show s2 = if th = true then s1 else rcIn s1 ⟨q, i⟩ by rw [hth, ← HS2.out]; rfl)
              clear HTH hth hls
              cases th
              · have HX := Lib.hid (RcA.ins HA.out (by omega) HXQ.out)
                clear HA
                go_wp2_with fail
                (with_reducible refine HX.out.mono ?_); rintro e w6 ⟨rfl, h1⟩
                have HA2 := Lib.hid (show RcA T w S (.slice A L1.length c) (L1 ++ rcMo s2 0) (rcMv s2 0) w6 by
                  show RcA T w S _ (L1 ++ []) s2 w6
                  rw [List.append_nil, HPT.out]; exact h1)
                clear h1 HX HPT dd2
                go_wp2_with fail
                go_loopw [16] (fun s5 wq => ∃ (j : Nat) (A : Option Addr) (c : Nat), j ≤ K ∧ s5 = .slice A (L1 ++ rcMo s2 j).length c ∧ Hid (RcA T w S (.slice A (L1 ++ rcMo s2 j).length c) (L1 ++ rcMo s2 j) (rcMv s2 j) wq)) (fun _ wq => rcHeld S wq)
                case atStart => exact ⟨0, A, c, Nat.zero_le _, by simp [rcMo], by simpa [rcMo] using HA2⟩
                case round =>
                  obtain ⟨j, A, c, hj, rfl, HA⟩ := hrel
                  clear HA2
                  obtain ⟨c0, c1, z1⟩ := HA.out.cells
                  have hnx := HA.out.ok.nx
                  have hlk := HMV2.out j
                  have hok2 := HOM2.out j
                  have HT := Lib.hid (RcA.take HA.out (by omega) (rcMv s2 j).nx)
                  have HTP := Lib.hid (rcTk_pos (q := (rcMv s2 j).nx) (fun x hx => (HA.out.ok.e x hx).2))
                  have HHD := Lib.hid (RcA.held HA.out)
                  have hlen : (L1 ++ rcMo s2 j).length ≤ 99999 := by rw [List.length_append]; omega
                  by_cases htk : rcTk (rcMv s2 j).l (rcMv s2 j).nx = 0
                  · have hjK : j = K := by
                      rcases Nat.lt_or_ge j K with h1 | h1
                      · exact absurd htk (HKY.out j h1)
                      · omega
                    subst hjK
                    have HRM := Lib.hid (rcRm_not (q := (rcMv s2 j).nx) (fun x hx => (HA.out.ok.e x hx).2) htk)
                    rw [htk] at HT
                    clear HA HKY HKE HOM2 HMV2 HTP htk
                    generalize hLe : L1 ++ rcMo s2 j = Lk at *
                    have HLE := Lib.hid hLe
                    generalize hse : rcMv s2 j = sk at *
                    have HSE := Lib.hid hse
                    clear hLe hse
                    go_wp2_with fail
                    (with_reducible refine HT.out.mono ?_); rintro e w3 ⟨rfl, h3⟩
                    rw [HRM.out] at h3
                    have HF := Lib.hid (RcA.done h3)
                    have HF2 := Lib.hid (show (∃ T', Star (LsP csI 1 3 (.slice A Lk.length c) (L1 ++ rcMo s2 j)) (RrP S (rcMv s2 j)) T' w3 ∧ ∀ j, T' j → T j ∨ w.heap.size ≤ j) ∧ Chg T w w3 by
                      rw [HLE.out, HSE.out]; exact HF.out)
                    clear h3 HT HF
                    go_wp2
                    go_ret2
                    exact ⟨_, rfl, HF2.out⟩
                  · have hjK : j < K := by
                      rcases Nat.lt_or_ge j K with h1 | h1
                      · exact h1
                      · obtain rfl : j = K := by omega
                        exact absurd HKE.out htk
                    have HEQ := Lib.hid (And.intro (show L1 ++ rcMo s2 (j + 1) = (L1 ++ rcMo s2 j) ++ rcSo (rcMv s2 j) from (List.append_assoc _ _ _).symm) (show rcMv s2 (j + 1) = rcSt (rcMv s2 j) from rfl))
                    have HLT := Lib.hid (rcRm_lt (rcTk_of htk))
                    clear HA HKY HKE HOM2 HMV2
                    generalize rcMv s2 j = sk at *
                    generalize L1 ++ rcMo s2 j = Lk at *
                    obtain ⟨tk, htk_⟩ : ∃ tk, rcTk sk.l sk.nx = tk := ⟨_, rfl⟩
                    have HSO := Lib.hid (show rcSo sk = if 0 < tk then [tk] else [] by unfold rcSo; rw [htk_])
                    rw [htk_] at HT HTP htk
                    have htp := HTP.out
                    obtain ⟨r, hr⟩ : ∃ r, (sk.nx + 1) % 65536 = r := ⟨_, rfl⟩
                    have w1 : IntKind.i64.wrap (sk.nx + 1) = sk.nx + 1 := IntWalk.i64_in _ (by omega)
                    have w2 : Int.tmod (sk.nx + 1) 65536 = r := by rw [Int.tmod_eq_emod_of_nonneg (by omega)]; exact hr
                    have w3_ : IntKind.i64.wrap r = r := IntWalk.i64_in _ (by omega)
                    have HNX := Lib.hid (fun (W : World) (v : Value) (L : List Int) (h : RcA T w S v L ⟨sk.w, sk.nx, rcRm sk.l sk.nx⟩ W) => (by have h9 := RcA.next (s := sk) h; rw [hr] at h9; exact h9 : RcA T w S v L (rcSt sk) (W.setCell ⟨S, 1, none⟩ (.int .i64 r))))
                    clear htk_ hr HTP
                    go_wp2_with fail
                    (with_reducible refine HT.out.mono ?_); rintro e w3 ⟨rfl, h3⟩
                    clear HT c0 c1 z1
                    have htpos : 0 < tk := by omega
                    have hne : (tk == 0) = false := by simpa using htk
                    have HLE2 := Lib.hid hlen
                    obtain ⟨A9, c9, w4, hrun, h4⟩ := RcA.app h3 HLE2.out tk
                    obtain ⟨c0, c1, z1⟩ := h4.cells
                    have hso := HSO.out
                    rw [if_pos htpos] at hso
                    have h5 := HNX.out w4 _ _ h4
                    have HF := Lib.hid (show RcA T w S (.slice A9 (L1 ++ rcMo s2 (j + 1)).length c9) (L1 ++ rcMo s2 (j + 1)) (rcMv s2 (j + 1)) (w4.setCell ⟨S, 1, none⟩ (.int .i64 r)) by
                      rw [HEQ.out.1, HEQ.out.2, hso]
                      simpa using h5)
                    have HVE := Lib.hid (show Value.slice A9 (Lk.length + 1) c9 = .slice A9 (L1 ++ rcMo s2 (j + 1)).length c9 by rw [HEQ.out.1, hso]; simp)
                    have HME := Lib.hid (show rcHeld S (w4.setCell ⟨S, 1, none⟩ (.int .i64 r)) < rcHeld S wr by
                      rw [RcA.held HF.out, HHD.out, HEQ.out.2]
                      have h9 := HLT.out
                      show (rcRm sk.l sk.nx).length < sk.l.length
                      omega)
                    clear h3 h4 h5 hso HNX HEQ HSO
                    simp only at c0 c1
                    go_wp2_with (at_builtin; refine wpList_append_run rfl (.tmp 152) (.tmp 154) 22 rfl rfl rfl hrun ?_)
                    go_roundw
                    case rel => exact ⟨j + 1, A9, c9, by omega, HVE.out, HF⟩
                    case measure => exact HME.out
              · have HA2 := Lib.hid (show RcA T w S (.slice A L1.length c) (L1 ++ rcMo s2 0) (rcMv s2 0) wr by
                  show RcA T w S _ (L1 ++ []) s2 wr
                  rw [List.append_nil, HPT.out]; exact HA.out)
                clear HA HPT
                go_wp2_with fail
                go_loopw [16] (fun s5 wq => ∃ (j : Nat) (A : Option Addr) (c : Nat), j ≤ K ∧ s5 = .slice A (L1 ++ rcMo s2 j).length c ∧ Hid (RcA T w S (.slice A (L1 ++ rcMo s2 j).length c) (L1 ++ rcMo s2 j) (rcMv s2 j) wq)) (fun _ wq => rcHeld S wq)
                case atStart => exact ⟨0, A, c, Nat.zero_le _, by simp [rcMo], by simpa [rcMo] using HA2⟩
                case round =>
                  obtain ⟨j, A, c, hj, rfl, HA⟩ := hrel
                  clear HA2
                  obtain ⟨c0, c1, z1⟩ := HA.out.cells
                  have hnx := HA.out.ok.nx
                  have hlk := HMV2.out j
                  have hok2 := HOM2.out j
                  have HT := Lib.hid (RcA.take HA.out (by omega) (rcMv s2 j).nx)
                  have HTP := Lib.hid (rcTk_pos (q := (rcMv s2 j).nx) (fun x hx => (HA.out.ok.e x hx).2))
                  have HHD := Lib.hid (RcA.held HA.out)
                  have hlen : (L1 ++ rcMo s2 j).length ≤ 99999 := by rw [List.length_append]; omega
                  by_cases htk : rcTk (rcMv s2 j).l (rcMv s2 j).nx = 0
                  · have hjK : j = K := by
                      rcases Nat.lt_or_ge j K with h1 | h1
                      · exact absurd htk (HKY.out j h1)
                      · omega
                    subst hjK
                    have HRM := Lib.hid (rcRm_not (q := (rcMv s2 j).nx) (fun x hx => (HA.out.ok.e x hx).2) htk)
                    rw [htk] at HT
                    clear HA HKY HKE HOM2 HMV2 HTP htk
                    generalize hLe : L1 ++ rcMo s2 j = Lk at *
                    have HLE := Lib.hid hLe
                    generalize hse : rcMv s2 j = sk at *
                    have HSE := Lib.hid hse
                    clear hLe hse
                    go_wp2_with fail
                    (with_reducible refine HT.out.mono ?_); rintro e w3 ⟨rfl, h3⟩
                    rw [HRM.out] at h3
                    have HF := Lib.hid (RcA.done h3)
                    have HF2 := Lib.hid (show (∃ T', Star (LsP csI 1 3 (.slice A Lk.length c) (L1 ++ rcMo s2 j)) (RrP S (rcMv s2 j)) T' w3 ∧ ∀ j, T' j → T j ∨ w.heap.size ≤ j) ∧ Chg T w w3 by
                      rw [HLE.out, HSE.out]; exact HF.out)
                    clear h3 HT HF
                    go_wp2
                    go_ret2
                    exact ⟨_, rfl, HF2.out⟩
                  · have hjK : j < K := by
                      rcases Nat.lt_or_ge j K with h1 | h1
                      · exact h1
                      · obtain rfl : j = K := by omega
                        exact absurd HKE.out htk
                    have HEQ := Lib.hid (And.intro (show L1 ++ rcMo s2 (j + 1) = (L1 ++ rcMo s2 j) ++ rcSo (rcMv s2 j) from (List.append_assoc _ _ _).symm) (show rcMv s2 (j + 1) = rcSt (rcMv s2 j) from rfl))
                    have HLT := Lib.hid (rcRm_lt (rcTk_of htk))
                    clear HA HKY HKE HOM2 HMV2
                    generalize rcMv s2 j = sk at *
                    generalize L1 ++ rcMo s2 j = Lk at *
                    obtain ⟨tk, htk_⟩ : ∃ tk, rcTk sk.l sk.nx = tk := ⟨_, rfl⟩
                    have HSO := Lib.hid (show rcSo sk = if 0 < tk then [tk] else [] by unfold rcSo; rw [htk_])
                    rw [htk_] at HT HTP htk
                    have htp := HTP.out
                    obtain ⟨r, hr⟩ : ∃ r, (sk.nx + 1) % 65536 = r := ⟨_, rfl⟩
                    have w1 : IntKind.i64.wrap (sk.nx + 1) = sk.nx + 1 := IntWalk.i64_in _ (by omega)
                    have w2 : Int.tmod (sk.nx + 1) 65536 = r := by rw [Int.tmod_eq_emod_of_nonneg (by omega)]; exact hr
                    have w3_ : IntKind.i64.wrap r = r := IntWalk.i64_in _ (by omega)
                    have HNX := Lib.hid (fun (W : World) (v : Value) (L : List Int) (h : RcA T w S v L ⟨sk.w, sk.nx, rcRm sk.l sk.nx⟩ W) => (by have h9 := RcA.next (s := sk) h; rw [hr] at h9; exact h9 : RcA T w S v L (rcSt sk) (W.setCell ⟨S, 1, none⟩ (.int .i64 r))))
                    clear htk_ hr HTP
                    go_wp2_with fail
                    (with_reducible refine HT.out.mono ?_); rintro e w3 ⟨rfl, h3⟩
                    clear HT c0 c1 z1
                    have htpos : 0 < tk := by omega
                    have hne : (tk == 0) = false := by simpa using htk
                    have HLE2 := Lib.hid hlen
                    obtain ⟨A9, c9, w4, hrun, h4⟩ := RcA.app h3 HLE2.out tk
                    obtain ⟨c0, c1, z1⟩ := h4.cells
                    have hso := HSO.out
                    rw [if_pos htpos] at hso
                    have h5 := HNX.out w4 _ _ h4
                    have HF := Lib.hid (show RcA T w S (.slice A9 (L1 ++ rcMo s2 (j + 1)).length c9) (L1 ++ rcMo s2 (j + 1)) (rcMv s2 (j + 1)) (w4.setCell ⟨S, 1, none⟩ (.int .i64 r)) by
                      rw [HEQ.out.1, HEQ.out.2, hso]
                      simpa using h5)
                    have HVE := Lib.hid (show Value.slice A9 (Lk.length + 1) c9 = .slice A9 (L1 ++ rcMo s2 (j + 1)).length c9 by rw [HEQ.out.1, hso]; simp)
                    have HME := Lib.hid (show rcHeld S (w4.setCell ⟨S, 1, none⟩ (.int .i64 r)) < rcHeld S wr by
                      rw [RcA.held HF.out, HHD.out, HEQ.out.2]
                      have h9 := HLT.out
                      show (rcRm sk.l sk.nx).length < sk.l.length
                      omega)
                    clear h3 h4 h5 hso HNX HEQ HSO
                    simp only at c0 c1
                    go_wp2_with (at_builtin; refine wpList_append_run rfl (.tmp 152) (.tmp 154) 22 rfl rfl rfl hrun ?_)
                    go_roundw
                    case rel => exact ⟨j + 1, A9, c9, by omega, HVE.out, HF⟩
                    case measure => exact HME.out
end Go.Proofs.Ythmncipenjhknaa

