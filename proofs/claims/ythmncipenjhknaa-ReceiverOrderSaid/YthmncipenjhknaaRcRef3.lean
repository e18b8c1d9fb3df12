/-
  Layer 17: contracts of the reference's release and Skip. Written by gen_rcref3.py.
-/
import Derived.Test.YthmncipenjhknaaRcRef2
import Derived.Test.YthmncipenjhknaaAt
namespace Go.Proofs.Ythmncipenjhknaa
open Go.ChangeShapes Go.WideShapes Go.ChangeAt Go.RowKit
set_option linter.unusedVariables false

/-- Before, k numbers on. -/
theorem rc_bef {s : RcS} {b : Int} (h : 0 ≤ s.nx ∧ s.nx < 65536) (hb : 0 ≤ b ∧ b < 65536) {k : Nat} (hk : k ≤ rcM s b) : befB (rcMv s k).nx b = decide (k < rcM s b) := by
  have h0 := rcMv_nx h k
  have hn : 0 ≤ (rcMv s k).nx ∧ (rcMv s k).nx < 65536 := by rw [h0]; omega
  have b1 := both_yes (isNum_yes h.1 h.2) (isNum_yes hb.1 hb.2)
  have b2 := both_yes (isNum_yes hn.1 hn.2) (isNum_yes hb.1 hb.2)
  have d1 := (ds_yes b1).1
  unfold rcM at hk ⊢
  cases hbf : befB s.nx b
  · rw [hbf] at hk
    simp at hk
    subst hk
    have e : rcMv s 0 = s := rfl
    rw [e, hbf]
    simp
  · rw [hbf] at hk
    simp only [if_true] at hk ⊢
    rw [d1] at hk ⊢
    have hd : 1 ≤ (b - s.nx) % 65536 ∧ (b - s.nx) % 65536 ≤ 32767 := by
      unfold befB at hbf
      rw [b1] at hbf
      simpa using hbf
    refine bef_is b2 ?_
    rw [h0]
    apply decide_eq_decide.2
    omega
theorem rcM_le {s : RcS} {b : Int} : rcM s b ≤ 65536 := by
  unfold rcM
  split
  · unfold dsV; split <;> omega
  · omega
theorem rcRm_not {l : List RcE} {q : Int} (h : ∀ x ∈ l, 1 ≤ x.i) (h0 : rcTk l q = 0) : rcRm l q = l := by
  unfold rcRm
  rw [if_neg]
  intro hk
  unfold rcTk at h0
  rw [dif_pos hk] at h0
  have := h _ (List.getElem_mem hk)
  omega
theorem rcTk_pos {l : List RcE} {q : Int} (h : ∀ x ∈ l, 1 ≤ x.i) : 0 ≤ rcTk l q := by
  unfold rcTk
  split
  · rename_i hk
    have := h _ (List.getElem_mem hk)
    omega
  · omega
theorem RowP.ls {b0 : Nat} {v : Value} {l : List Int} {T : Nat → Prop} {w : World} (h : RowP csI 1 3 b0 v l T w) : LsP csI 1 3 v l T w :=
  ⟨fun k hk => (own_lt h.2 ((h.1 k).1 hk)).2, (intElt.row_ls1 h.2 rfl).wider fun k hk => (h.1 k).2 hk⟩
/-- The object and the row of what is released. -/
def RcA (T : Nat → Prop) (w0 : World) (S : Nat) (v : Value) (L : List Int) (s : RcS) (w1 : World) : Prop := At T w0 (Star (RowP csI 1 3 w0.heap.size v L) (RrP S s)) w1
section
variable {T : Nat → Prop} {w0 w1 w2 : World} {S : Nat} {v : Value} {L : List Int} {s : RcS} {base : Nat}
theorem RcA.start (hp : RrP S s T w0) : RcA T w0 S (.slice none 0 0) [] s w0 := At.row0 (At.start hp) _
theorem RcA.ok (h : RcA T w0 S v L s w1) : RcOk s := by obtain ⟨T1, hp⟩ := At.getR h; exact hp.1
theorem RcA.cells (h : RcA T w0 S v L s w1) : w1.cell? ⟨S, 0, none⟩ = some (.int .i64 s.w) ∧ w1.cell? ⟨S, 1, none⟩ = some (.int .i64 s.nx) ∧ w1.frozen? ⟨S, 1, none⟩ = false := by
  obtain ⟨T1, h0, h1, h2, vL, h3, h4⟩ := At.getR h
  have d0 := h3.read 0
  have d1 := h3.read 1
  simp [rrC] at d0 d1
  exact ⟨d0, d1, h3.free 1⟩
theorem RcA.shape (h : RcA T w0 S v L s w1) : ∃ A c, v = .slice A L.length c := by
  obtain ⟨T1, h1, h2⟩ := At.getL h
  exact ow_shape h2
theorem RcA.step (h : RcA T w0 S v L s w1) (hb : Below w1.heap.size w1 w2) : RcA T w0 S v L s w2 := At.step (base := 0) h (RowP.frm.star RrP.frm) hb
theorem RcA.take (h : RcA T w0 S v L s w1) (hn : s.l.length ≤ 99999) (q : Int) : Calls Try.prog 33 #[.pointer (some ⟨S, 0, none⟩), .int .i64 q] w1 fun e w2 => e = .returned (.int .i64 (rcTk s.l q)) ∧ RcA T w0 S v L ⟨s.w, s.nx, rcRm s.l q⟩ w2 :=
  At.call1 (base := 0) h (fun _ _ => Nat.zero_le _) (Nat.zero_le _) (Acts.right RowP.frm (rrtake_any hn q))
theorem RcA.next (h : RcA T w0 S v L ⟨s.w, s.nx, rcRm s.l s.nx⟩ w1) : RcA T w0 S v L (rcSt s) (w1.setCell ⟨S, 1, none⟩ (.int .i64 ((s.nx + 1) % 65536))) := by
  refine At.store h RowP.frm fun T1 ⟨h0, h1, h2, vL, h3, h4⟩ => ⟨⟨⟨h0.w, by simp only [rcSt]; omega, h0.e⟩, fun k hk => by simpa [World.setCell] using h1 k hk, h2, vL, ?_, ?_⟩, (Chg.refl T1 w1).setCell h2 1 _⟩
  · exact h3.put 1 _
  · exact (((RrP.list h3 h4).keep fun b hb => Below.heap_setCell _ _ _ _ (by simpa using hb.2)).wider fun b hb => hb.1)
theorem RcA.app (h : RcA T w0 S v L s w1) (hn : L.length ≤ 99999) (x : Int) :
    ∃ A c w2, (Builtin.append_ #[22, 22] 22 #[v, .slice (some ⟨w1.heap.size, 0, none⟩) 1 1]).run Try.prog (w1.alloc (.cells #[.int .i64 x] 3)) = .ok (.slice A (L.length + 1) c) w2 ∧ RcA T w0 S (.slice A (L.length + 1) c) (L ++ [x]) s w2 :=
  At.app intElt h RrP.frm hn x
theorem RcA.done (h : RcA T w0 S v L s w1) : (∃ T', Star (LsP csI 1 3 v L) (RrP S s) T' w1 ∧ ∀ j, T' j → T j ∨ w0.heap.size ≤ j) ∧ Chg T w0 w1 := by
  obtain ⟨T1, hp, h2, h3⟩ := h
  exact ⟨⟨T1, Star.map (fun A => RowP.ls) hp, h2⟩, h3⟩
end
/-- How far the expected number is from the base (a measure). -/
def rcLeft (b : Int) (S : Nat) (w : World) : Nat := match w.cell? ⟨S, 1, none⟩ with
  | some (.int _ z) => ((b - z) % 65536).toNat
  | _ => 0
/-- How many packets are held (a measure). -/
def rcHeld (S : Nat) (w : World) : Nat := match w.cell? ⟨S, 2, none⟩ with
  | some (.slice _ n _) => n
  | _ => 0
theorem RcA.left {T : Nat → Prop} {w0 w1 : World} {S : Nat} {v : Value} {L : List Int} {s : RcS} {b : Int} (h : RcA T w0 S v L s w1) : rcLeft b S w1 = ((b - s.nx) % 65536).toNat := by
  unfold rcLeft; rw [h.cells.2.1]
theorem RcA.held {T : Nat → Prop} {w0 w1 : World} {S : Nat} {v : Value} {L : List Int} {s : RcS} (h : RcA T w0 S v L s w1) : rcHeld S w1 = s.l.length := by
  obtain ⟨T1, h0, h1, h2, vL, h3, h4⟩ := At.getR h
  obtain ⟨A, c, rfl, _⟩ := h4.shape
  have d2 := h3.read 2
  simp [rrC] at d2
  unfold rcHeld; rw [d2]
theorem rcM_left {s : RcS} {b : Int} (h : 0 ≤ s.nx ∧ s.nx < 65536) (hb : 0 ≤ b ∧ b < 65536) {k : Nat} (hk : k < rcM s b) : ((b - (rcMv s (k + 1)).nx) % 65536).toNat < ((b - (rcMv s k).nx) % 65536).toNat := by
  have h0 := rcMv_nx h k
  have h1 := rcMv_nx h (k + 1)
  have hbf := rc_bef h hb (k := k) (by omega)
  have hn : 0 ≤ (rcMv s k).nx ∧ (rcMv s k).nx < 65536 := by rw [h0]; omega
  have b2 := both_yes (isNum_yes hn.1 hn.2) (isNum_yes hb.1 hb.2)
  rw [show decide (k < rcM s b) = true by simpa using hk] at hbf
  unfold befB at hbf
  rw [b2] at hbf
  simp at hbf
  rw [h0] at hbf ⊢
  rw [h1]
  omega
set_option maxRecDepth 100000 in
set_option maxHeartbeats 16000000 in
theorem rrrel_any {S : Nat} {s : RcS} (hn : s.l.length ≤ 30000) {base : Nat} (b : Int) (hb : 0 ≤ b ∧ b < 65536) :
    Acts 28 #[.pointer (some ⟨S, 0, none⟩), .int .i64 b] base (RrP S s) (fun v : Value => v) fun v => Star (LsP csI 1 3 v (rcMo s (rcM s b) ++ rcMo (rcMv s (rcM s b)) (rcRn (rcMv s (rcM s b))))) (RrP S (rcMv (rcMv s (rcM s b)) (rcRn (rcMv s (rcM s b))))) := by
  intro T w hP hb0 hs
  have hok := hP.1
  have HA0 := Lib.hid (RcA.start hP)
  have HBF := Lib.hid (fun k (hk : k ≤ rcM s b) => rc_bef hok.nx hb hk)
  have HLE := Lib.hid (fun k (hk : k < rcM s b) => rcM_left hok.nx hb hk)
  have hM := rcM_le (s := s) (b := b)
  have hK := rcRn_le (rcMv s (rcM s b))
  have hl2 := rcMv_len s (rcM s b)
  have HKY := Lib.hid (fun k (hk : k < rcRn (rcMv s (rcM s b))) => rcRn_yes (rcMv s (rcM s b)) hk)
  have HKE := Lib.hid (rcRn_end (rcMv s (rcM s b)))
  have HOM := Lib.hid (rcMo_len s)
  have HOM2 := Lib.hid (rcMo_len (rcMv s (rcM s b)))
  have HMV := Lib.hid (rcMv_len s)
  have HMV2 := Lib.hid (rcMv_len (rcMv s (rcM s b)))
  obtain ⟨M, hM_⟩ : ∃ M, rcM s b = M := ⟨_, rfl⟩
  rw [hM_] at HBF HLE hM hK hl2 HKY HKE HOM2 HMV2 ⊢
  obtain ⟨s2, hs2⟩ : ∃ s2, rcMv s M = s2 := ⟨_, rfl⟩
  have HS2 := Lib.hid hs2
  rw [hs2] at hK hl2 HKY HKE HOM2 HMV2 ⊢
  obtain ⟨K, hK_⟩ : ∃ K, rcRn s2 = K := ⟨_, rfl⟩
  rw [hK_] at hK HKY HKE ⊢
  have HBB := Lib.hid hb
  clear hP hb0 hs hM_ hs2 hK_ hok hb
  go_enter Try.func28, Try.ntmps28
  go_wp2_with fail
  go_loopw [5] (fun s5 wr => ∃ (k : Nat) (A : Option Addr) (c : Nat), k ≤ M ∧ s5 = .slice A (rcMo s k).length c ∧ Hid (RcA T w S (.slice A (rcMo s k).length c) (rcMo s k) (rcMv s k) wr)) (fun _ wr => rcLeft b S wr)
  case atStart => exact ⟨0, none, 0, Nat.zero_le _, rfl, HA0⟩
  case round =>
    obtain ⟨k, A, c, hk, rfl, HA⟩ := hrel
    clear HA0
    have hbf := HBF.out k hk
    obtain ⟨c0, c1, z1⟩ := HA.out.cells
    have hnx := HA.out.ok.nx
    have HX := Lib.hid ((refBefore_any (rcMv s k).nx b wr).mono fun e w' h => (show e = .returned (.bool (decide (k < M))) ∧ wr = w' by rw [← hbf]; exact h))
    clear hbf
    by_cases hlt : k < M
    · have hdec : decide (k < M) = true := by simpa using hlt
      rw [hdec] at HX
      have HL1 := Lib.hid (HLE.out k hlt)
      have hlk := HMV.out k
      have hok := HOM.out k
      have HT := Lib.hid (RcA.take HA.out (by omega) (rcMv s k).nx)
      have HLF := Lib.hid (RcA.left (b := b) HA.out)
      have HEQ := Lib.hid (And.intro (show rcMo s (k + 1) = rcMo s k ++ rcSo (rcMv s k) from rfl) (show rcMv s (k + 1) = rcSt (rcMv s k) from rfl))
      have HTP := Lib.hid (rcTk_pos (q := (rcMv s k).nx) (fun x hx => (HA.out.ok.e x hx).2))
      clear HA HBF HLE HKY HKE HOM HOM2 HMV HMV2 hdec
      generalize rcMv s k = sk at *
      generalize rcMo s k = Lk at *
      obtain ⟨tk, htk_⟩ : ∃ tk, rcTk sk.l sk.nx = tk := ⟨_, rfl⟩
      have HSO := Lib.hid (show rcSo sk = if 0 < tk then [tk] else [] by unfold rcSo; rw [htk_])
      rw [htk_] at HT HTP
      have htp := HTP.out
      obtain ⟨r, hr⟩ : ∃ r, (sk.nx + 1) % 65536 = r := ⟨_, rfl⟩
      have w1 : IntKind.i64.wrap (sk.nx + 1) = sk.nx + 1 := IntWalk.i64_in _ (by omega)
      have w2 : Int.tmod (sk.nx + 1) 65536 = r := by rw [Int.tmod_eq_emod_of_nonneg (by omega)]; exact hr
      have w3_ : IntKind.i64.wrap r = r := IntWalk.i64_in _ (by omega)
      have HNX := Lib.hid (fun (W : World) (v : Value) (L : List Int) (h : RcA T w S v L ⟨sk.w, sk.nx, rcRm sk.l sk.nx⟩ W) => (by have h9 := RcA.next (s := sk) h; rw [hr] at h9; exact h9 : RcA T w S v L (rcSt sk) (W.setCell ⟨S, 1, none⟩ (.int .i64 r))))
      clear htk_ hr HTP
      go_wp2_with fail
      (with_reducible refine HX.out.mono ?_); rintro e w2 ⟨rfl, rfl⟩
      clear HX
      go_wp2_with fail
      (with_reducible refine HT.out.mono ?_); rintro e w3 ⟨rfl, h3⟩
      clear HT c0 c1 z1
      by_cases htpos : 0 < tk
      · have HLE2 := Lib.hid (show Lk.length ≤ 99999 by omega)
        obtain ⟨A9, c9, w4, hrun, h4⟩ := RcA.app h3 HLE2.out tk
        obtain ⟨c0, c1, z1⟩ := h4.cells
        have hso := HSO.out
        rw [if_pos htpos] at hso
        have h5 := HNX.out w4 _ _ h4
        have HF := Lib.hid (show RcA T w S (.slice A9 (rcMo s (k + 1)).length c9) (rcMo s (k + 1)) (rcMv s (k + 1)) (w4.setCell ⟨S, 1, none⟩ (.int .i64 r)) by
          rw [HEQ.out.1, HEQ.out.2, hso]
          simpa using h5)
        have HVE := Lib.hid (show Value.slice A9 (Lk.length + 1) c9 = .slice A9 (rcMo s (k + 1)).length c9 by rw [HEQ.out.1, hso]; simp)
        have HME := Lib.hid (show rcLeft b S (w4.setCell ⟨S, 1, none⟩ (.int .i64 r)) < rcLeft b S wr by rw [RcA.left HF.out, HLF.out]; exact HL1.out)
        clear h3 h4 h5 hso HNX HEQ HSO
        simp only at c0 c1
        go_wp2_with (at_builtin; refine wpList_append_run rfl (.tmp 22) (.tmp 24) 22 rfl rfl rfl hrun ?_)
        go_roundw
        case rel => exact ⟨k + 1, A9, c9, by omega, HVE.out, HF⟩
        case measure => exact HME.out
      · have htz : tk = 0 := by omega
        subst htz
        obtain ⟨c0, c1, z1⟩ := h3.cells
        have hso := HSO.out
        rw [if_neg (by omega)] at hso
        have h5 := HNX.out w3 _ _ h3
        have HF := Lib.hid (show RcA T w S (.slice A (rcMo s (k + 1)).length c) (rcMo s (k + 1)) (rcMv s (k + 1)) (w3.setCell ⟨S, 1, none⟩ (.int .i64 r)) by
          rw [HEQ.out.1, HEQ.out.2, hso]
          simpa using h5)
        have HVE := Lib.hid (show Value.slice A Lk.length c = .slice A (rcMo s (k + 1)).length c by rw [HEQ.out.1, hso]; simp)
        have HME := Lib.hid (show rcLeft b S (w3.setCell ⟨S, 1, none⟩ (.int .i64 r)) < rcLeft b S wr by rw [RcA.left HF.out, HLF.out]; exact HL1.out)
        clear h3 h5 hso HNX HEQ HSO
        simp only at c0 c1
        go_wp2
        go_roundw
        case rel => exact ⟨k + 1, A, c, by omega, HVE.out, HF⟩
        case measure => exact HME.out
    · obtain rfl : k = M := by omega
      have hdec : decide (k < k) = false := by simp
      rw [hdec] at HX
      have HA2 := Lib.hid (show RcA T w S (.slice A (rcMo s k).length c) (rcMo s k ++ rcMo s2 0) (rcMv s2 0) wr by
        have h9 := HA.out
        rw [HS2.out] at h9
        show RcA T w S _ (rcMo s k ++ []) s2 wr
        rw [List.append_nil]; exact h9)
      have hok := HOM.out k
      generalize hL1_ : rcMo s k = L1 at *
      have HL1E := Lib.hid hL1_
      clear HA HBF HLE HOM HMV hdec hnx hL1_
      go_wp2_with fail
      (with_reducible refine HX.out.mono ?_); rintro e w2 ⟨rfl, rfl⟩
      clear HX c0 c1 z1
      go_wp2_with fail
      go_loopw [5] (fun s5 wq => ∃ (j : Nat) (A : Option Addr) (c : Nat), j ≤ K ∧ s5 = .slice A (L1 ++ rcMo s2 j).length c ∧ Hid (RcA T w S (.slice A (L1 ++ rcMo s2 j).length c) (L1 ++ rcMo s2 j) (rcMv s2 j) wq)) (fun _ wq => rcHeld S wq)
      case atStart => exact ⟨0, A, c, Nat.zero_le _, by simp [rcMo], by simpa [rcMo] using HA2⟩
      case round =>
        obtain ⟨j, A, c, hj, rfl, HA⟩ := hrel
        clear HA2
        obtain ⟨c0, c1, z1⟩ := HA.out.cells
        have hnx := HA.out.ok.nx
        have hlk := HMV2.out j
        have hok2 := HOM2.out j
        have HT := Lib.hid (RcA.take HA.out (by omega) (rcMv s2 j).nx)
        have HTP := Lib.hid (rcTk_pos (q := (rcMv s2 j).nx) (fun x hx => (HA.out.ok.e x hx).2))
        have HHD := Lib.hid (RcA.held HA.out)
        have hlen : (L1 ++ rcMo s2 j).length ≤ 99999 := by rw [List.length_append]; omega
        by_cases htk : rcTk (rcMv s2 j).l (rcMv s2 j).nx = 0
        · have hjK : j = K := by
            rcases Nat.lt_or_ge j K with h1 | h1
            · exact absurd htk (HKY.out j h1)
            · omega
          subst hjK
          have HRM := Lib.hid (rcRm_not (q := (rcMv s2 j).nx) (fun x hx => (HA.out.ok.e x hx).2) htk)
          rw [htk] at HT
          clear HA HKY HKE HOM2 HMV2 HTP htk
          generalize hLe : L1 ++ rcMo s2 j = Lk at *
          have HLE := Lib.hid hLe
          generalize hse : rcMv s2 j = sk at *
          have HSE := Lib.hid hse
          clear hLe hse
          go_wp2_with fail
          (with_reducible refine HT.out.mono ?_); rintro e w3 ⟨rfl, h3⟩
          rw [HRM.out] at h3
          have HF := Lib.hid (RcA.done h3)
          have HF2 := Lib.hid (show (∃ T', Star (LsP csI 1 3 (.slice A Lk.length c) (rcMo s k ++ rcMo s2 j)) (RrP S (rcMv s2 j)) T' w3 ∧ ∀ j, T' j → T j ∨ w.heap.size ≤ j) ∧ Chg T w w3 by
            rw [HL1E.out, HLE.out, HSE.out]; exact HF.out)
          clear h3 HT HF
          go_wp2
          go_ret
          exact ⟨_, rfl, HF2.out⟩
        · have hjK : j < K := by
            rcases Nat.lt_or_ge j K with h1 | h1
            · exact h1
            · obtain rfl : j = K := by omega
              exact absurd HKE.out htk
          have HEQ := Lib.hid (And.intro (show L1 ++ rcMo s2 (j + 1) = (L1 ++ rcMo s2 j) ++ rcSo (rcMv s2 j) from (List.append_assoc _ _ _).symm) (show rcMv s2 (j + 1) = rcSt (rcMv s2 j) from rfl))
          have HLT := Lib.hid (rcRm_lt (rcTk_of htk))
          clear HA HKY HKE HOM2 HMV2
          generalize rcMv s2 j = sk at *
          generalize L1 ++ rcMo s2 j = Lk at *
          obtain ⟨tk, htk_⟩ : ∃ tk, rcTk sk.l sk.nx = tk := ⟨_, rfl⟩
          have HSO := Lib.hid (show rcSo sk = if 0 < tk then [tk] else [] by unfold rcSo; rw [htk_])
          rw [htk_] at HT HTP htk
          have htp := HTP.out
          obtain ⟨r, hr⟩ : ∃ r, (sk.nx + 1) % 65536 = r := ⟨_, rfl⟩
          have w1 : IntKind.i64.wrap (sk.nx + 1) = sk.nx + 1 := IntWalk.i64_in _ (by omega)
          have w2 : Int.tmod (sk.nx + 1) 65536 = r := by rw [Int.tmod_eq_emod_of_nonneg (by omega)]; exact hr
          have w3_ : IntKind.i64.wrap r = r := IntWalk.i64_in _ (by omega)
          have HNX := Lib.hid (fun (W : World) (v : Value) (L : List Int) (h : RcA T w S v L ⟨sk.w, sk.nx, rcRm sk.l sk.nx⟩ W) => (by have h9 := RcA.next (s := sk) h; rw [hr] at h9; exact h9 : RcA T w S v L (rcSt sk) (W.setCell ⟨S, 1, none⟩ (.int .i64 r))))
          clear htk_ hr HTP
          go_wp2_with fail
          (with_reducible refine HT.out.mono ?_); rintro e w3 ⟨rfl, h3⟩
          clear HT c0 c1 z1
          have htpos : 0 < tk := by omega
          have hne : (tk == 0) = false := by simpa using htk
          have HLE2 := Lib.hid hlen
          obtain ⟨A9, c9, w4, hrun, h4⟩ := RcA.app h3 HLE2.out tk
          obtain ⟨c0, c1, z1⟩ := h4.cells
          have hso := HSO.out
          rw [if_pos htpos] at hso
          have h5 := HNX.out w4 _ _ h4
          have HF := Lib.hid (show RcA T w S (.slice A9 (L1 ++ rcMo s2 (j + 1)).length c9) (L1 ++ rcMo s2 (j + 1)) (rcMv s2 (j + 1)) (w4.setCell ⟨S, 1, none⟩ (.int .i64 r)) by
            rw [HEQ.out.1, HEQ.out.2, hso]
            simpa using h5)
          have HVE := Lib.hid (show Value.slice A9 (Lk.length + 1) c9 = .slice A9 (L1 ++ rcMo s2 (j + 1)).length c9 by rw [HEQ.out.1, hso]; simp)
          have HME := Lib.hid (show rcHeld S (w4.setCell ⟨S, 1, none⟩ (.int .i64 r)) < rcHeld S wr by
            rw [RcA.held HF.out, HHD.out, HEQ.out.2]
            have h9 := HLT.out
            show (rcRm sk.l sk.nx).length < sk.l.length
            omega)
          clear h3 h4 h5 hso HNX HEQ HSO
          simp only at c0 c1
          go_wp2_with (at_builtin; refine wpList_append_run rfl (.tmp 44) (.tmp 46) 22 rfl rfl rfl hrun ?_)
          go_roundw
          case rel => exact ⟨j + 1, A9, c9, by omega, HVE.out, HF⟩
          case measure => exact HME.out
end Go.Proofs.Ythmncipenjhknaa

