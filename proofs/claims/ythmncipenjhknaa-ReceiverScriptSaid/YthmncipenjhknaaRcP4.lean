/-
  Layer 17: contracts of the program's release and pass. Written by gen_rcp4.py.
-/
import Derived.Test.YthmncipenjhknaaRcP3
namespace Go.Proofs.Ythmncipenjhknaa
open Go.ChangeShapes Go.WideShapes Go.ChangeAt Go.RowKit
set_option linter.unusedVariables false

/-- The object and a row of ids that grows. -/
def PrA (b0 : Nat) (T : Nat → Prop) (w0 : World) (R : Nat) (v : Value) (L : List Int) (s : RcS) (w1 : World) : Prop := At T w0 (Star (RowP csI 1 3 b0 v L) (RcP R s)) w1
section
variable {T : Nat → Prop} {w0 w1 w2 : World} {b0 R : Nat} {v : Value} {L : List Int} {s : RcS} {base : Nat}
theorem PrA.start (hp : RcP R s T w0) (b0 : Nat) : PrA b0 T w0 R (.slice none 0 0) [] s w0 := At.row0 (At.start hp) _
theorem PrA.open_ (h : PrA b0 T w0 R v L s w1) : ∃ M, RcIv s ∧ ∀ W, Below w1.heap.size w1 W → RcD R M s W := by
  obtain ⟨T1, hp⟩ := At.getR h
  obtain ⟨M, h1, _, _, h2⟩ := hp.open_
  exact ⟨M, h1, h2⟩
theorem PrA.step (h : PrA b0 T w0 R v L s w1) (hb : Below w1.heap.size w1 w2) : PrA b0 T w0 R v L s w2 := At.step (base := 0) h (RowP.frm.star RcP.frm) hb
theorem PrA.take (h : PrA b0 T w0 R v L s w1) {q : Int} (hq : 0 ≤ q ∧ q < 65536) : Calls Try.prog 42 #[.pointer (some ⟨R, 0, none⟩), .int .i64 q] w1 fun e w2 => e = .returned (.int .i64 (rcTk s.l q)) ∧ PrA b0 T w0 R v L ⟨s.w, s.nx, rcRm s.l q⟩ w2 :=
  At.call1 (base := 0) h (fun _ _ => Nat.zero_le _) (Nat.zero_le _) (Acts.right RowP.frm (prtake_any hq))
theorem PrA.setNx (h : PrA b0 T w0 R v L s w1) {b : Int} (hb : RcIv ⟨s.w, b, s.l⟩) : PrA b0 T w0 R v L ⟨s.w, b, s.l⟩ (w1.setCell ⟨R, 1, none⟩ (.int .i64 b)) :=
  At.store h RowP.frm fun T1 hp => hp.setNx hb
theorem PrA.app (h : PrA w0.heap.size T w0 R v L s w1) (hn : L.length ≤ 99999) (x : Int) :
    ∃ A c w2, (Builtin.append_ #[22, 22] 22 #[v, .slice (some ⟨w1.heap.size, 0, none⟩) 1 1]).run Try.prog (w1.alloc (.cells #[.int .i64 x] 3)) = .ok (.slice A (L.length + 1) c) w2 ∧ PrA w0.heap.size T w0 R (.slice A (L.length + 1) c) (L ++ [x]) s w2 :=
  At.app intElt h RcP.frm hn x
theorem PrA.left {b : Int} (h : PrA b0 T w0 R v L s w1) : rcLeft b R w1 = ((b - s.nx) % 65536).toNat := by
  obtain ⟨M, _, hr⟩ := h.open_
  unfold rcLeft; rw [(hr w1 (Below.refl _ _)).c1]
theorem PrA.done (h : PrA b0 T w0 R v L s w1) : (∃ T', Star (LsP csI 1 3 v L) (RcP R s) T' w1 ∧ ∀ j, T' j → T j ∨ w0.heap.size ≤ j) ∧ Chg T w0 w1 := by
  obtain ⟨T1, ⟨A, B, hT, hd, hp, hq⟩, h2, h3⟩ := h
  refine ⟨⟨T1, ⟨A, B, hT, hd, ⟨fun k hk => (own_lt hp.2 ((hp.1 k).1 hk)).2, (intElt.row_ls1 hp.2 rfl).wider fun k hk => (hp.1 k).2 hk⟩, hq⟩, h2⟩, h3⟩
theorem PrA.doneR (h : PrA b0 T w0 R v L s w1) : (∃ T', Star (RowP csI 1 3 0 v L) (RcP R s) T' w1 ∧ ∀ j, T' j → T j ∨ w0.heap.size ≤ j) ∧ Chg T w0 w1 := by
  obtain ⟨T1, hp, h2, h3⟩ := h
  exact ⟨⟨T1, Star.map (fun A h => h.low) hp, h2⟩, h3⟩
end
/-! ### release -/
set_option maxRecDepth 100000 in
set_option maxHeartbeats 16000000 in
theorem prrel_any {R : Nat} {s : RcS} {base : Nat} : Acts 26 #[.pointer (some ⟨R, 0, none⟩)] base (RcP R s) (fun v : Value => v) fun v => Star (LsP csI 1 3 v (rcMo s (rcRn s))) (RcP R (rcMv s (rcRn s))) := by
  intro T w hP hb0 hs
  have hiv := hP.iv
  have hlen := hiv.len
  have hK := rcRn_le s
  have HKY := Lib.hid (fun k (hk : k < rcRn s) => rcRn_yes s hk)
  have HKE := Lib.hid (rcRn_end s)
  have HOM := Lib.hid (rcMo_len s)
  have hn0 := hiv.ok.nx
  obtain ⟨K, hK_⟩ : ∃ K, rcRn s = K := ⟨_, rfl⟩
  rw [hK_] at hK HKY HKE ⊢
  have hK64 : K ≤ 64 := by omega
  obtain ⟨b, hb_⟩ : ∃ b, s.nx + (K : Int) = b := ⟨_, rfl⟩
  have HLE := Lib.hid (fun k (hk : k < K) => (by rw [rcMv_nx hn0 k, rcMv_nx hn0 (k + 1), ← hb_]; omega : ((b - (rcMv s (k + 1)).nx) % 65536).toNat < ((b - (rcMv s k).nx) % 65536).toNat))
  have HA0 := Lib.hid (PrA.start hP w.heap.size)
  have HI0 := Lib.hid hiv
  clear hP hb0 hs hiv hlen hn0 hK_ hb_ hK
  go_enter Try.func26, Try.ntmps26
  go_wp2_with fail
  go_loopw [3] (fun s3 wr => ∃ (k : Nat) (A : Option Addr) (c : Nat), k ≤ K ∧ s3 = .slice A (rcMo s k).length c ∧ Hid (PrA w.heap.size T w R (.slice A (rcMo s k).length c) (rcMo s k) (rcMv s k) wr)) (fun _ wr => rcLeft b R wr)
  case atStart => exact ⟨0, none, 0, Nat.zero_le _, rfl, HA0⟩
  case round =>
    obtain ⟨k, A, c, hk, rfl, HA⟩ := hrel
    clear HA0
    have hok := HOM.out k
    obtain ⟨M, hiv, hr⟩ := HA.out.open_
    have hnb := hiv.ok.nx
    have HLF := Lib.hid (PrA.left (b := b) HA.out)
    have htp := rcTk_pos (q := (rcMv s k).nx) (fun x hx => (hiv.ok.e x hx).2)
    obtain ⟨tk, htk_⟩ : ∃ tk, rcTk (rcMv s k).l (rcMv s k).nx = tk := ⟨_, rfl⟩
    have HC4 := Lib.hid (fun (W : World) (hw : Below wr.drew.heap.size wr.drew W) => (by
      have h9 := hr W ((Below.refl _ wr).drew.trans hw)
      have h8 := h9.lk _ hnb
      rw [htk_] at h8
      exact ⟨h9.c2, h9.c1, h8⟩ : W.cell? ⟨R, 2, none⟩ = some (.map (some M)) ∧ W.cell? ⟨R, 1, none⟩ = some (.int .i64 (rcMv s k).nx) ∧ (Instr.lookup 56 (.map (some M)) (.int .i64 (rcMv s k).nx) false).run Try.prog W = .ok (.int .i64 tk) W))
    rw [htk_] at htp
    by_cases hlt : k < K
    · have htn : tk ≠ 0 := by rw [← htk_]; exact HKY.out k hlt
      have HL1 := Lib.hid (HLE.out k hlt)
      have HEQ := Lib.hid (And.intro (show rcMo s (k + 1) = rcMo s k ++ rcSo (rcMv s k) from rfl) (show rcMv s (k + 1) = rcSt (rcMv s k) from rfl))
      have HSO := Lib.hid (show rcSo (rcMv s k) = [tk] by unfold rcSo; rw [htk_, if_pos (by omega)])
      have HTK := Lib.hid htk_
      have hstv := hiv.st
      obtain ⟨r, hr_⟩ : ∃ r, ((rcMv s k).nx + 1) % 65536 = r := ⟨_, rfl⟩
      have HST := Lib.hid (show rcSt (rcMv s k) = ⟨(rcMv s k).w, r, rcRm (rcMv s k).l (rcMv s k).nx⟩ by unfold rcSt; rw [hr_])
      have HIV := Lib.hid (show RcIv ⟨(rcMv s k).w, r, rcRm (rcMv s k).l (rcMv s k).nx⟩ by rw [← HST.out]; exact hstv)
      have HNX := Lib.hid (fun (W : World) => (by
        have h9 := next6_any (rcMv s k).nx 1 W
        obtain ⟨a1, a2⟩ := nx_yes (s := (rcMv s k).nx) (n := 1) (isNum_yes hnb.1 hnb.2) (by omega) (by omega)
        rw [a1, a2, hr_] at h9
        exact h9 : Calls Try.prog 43 #[.int .i64 (rcMv s k).nx, .int .i64 1] W fun e w' => e = .returned (.tuple #[.int .i64 r, .int .i64 0]) ∧ W = w'))
      have htn' : (tk != 0) = true := by simpa using htn
      clear HKY HKE HOM HLE hiv hr hstv hr_ htk_ htn HI0
      generalize rcMv s k = sk at *
      generalize rcMo s k = Lk at *
      obtain ⟨skw, nx, skl⟩ := sk
      simp only at HC4 hnb HNX HIV HST HTK HL1 HLF
      go_wp2_with fail
      refine wp_region_looseS 35 (by kernel_rfl) (by kernel_rfl) (StB wr.drew (fun vI => [.pointer (some ⟨R, 0, none⟩), .pointer (some ⟨R, 0, none⟩), .pointer (some ⟨R, 2, none⟩), .map (some M), .pointer (some ⟨R, 0, none⟩), .pointer (some ⟨R, 0, none⟩), .pointer (some ⟨R, 1, none⟩), .int .i64 nx, .int .i64 tk, .bool true].getD vI undef)) rfl StB.start ?_ ?_
      · simp only [OblAllS]
        refine ⟨?_, ?_, ?_, ?_, ?_, ?_, ?_, ?_, ?_, ?_, trivial⟩
        · intro L wx vals hi hu hcl hC
          have HCx := Lib.hid hC
          clear hC hcl hu hi
          simp only [fillA, if_true, Act.put]
          simp
          go_wp2
          exact ⟨rfl, HCx.out.quiet 0 rfl⟩
        · intro L wx vals hi hu hcl hC
          simp [predL, predE, Region.binds, UpL] at hu
          have e0 : vals 0 = .pointer (some ⟨R, 0, none⟩) := hC.v 0 (by simp [hu])
          have HCx := Lib.hid hC
          clear hC hcl hu hi
          simp only [fillA, if_true, Act.put]
          simp
          simp only [e0]
          clear e0
          go_wp2
          exact ⟨rfl, HCx.out.quiet 1 rfl⟩
        · intro L wx vals hi hu hcl hC
          simp [predL, predE, Region.binds, UpL] at hu
          have e1 : vals 1 = .pointer (some ⟨R, 0, none⟩) := hC.v 1 (by simp [hu])
          have HCx := Lib.hid hC
          clear hC hcl hu hi
          simp only [fillA, if_true, Act.put]
          simp
          simp only [e1]
          clear e1
          go_wp2
          exact ⟨rfl, HCx.out.quiet 2 rfl⟩
        · intro L wx vals hi hu hcl hC
          simp [predL, predE, Region.binds, UpL] at hu
          have e2 : vals 2 = .pointer (some ⟨R, 2, none⟩) := hC.v 2 (by simp [hu])
          have h0 := (HC4.out wx hC.b).1
          have HCx := Lib.hid hC
          clear hC hcl hu hi
          simp only [fillA, if_true, Act.put]
          simp
          simp only [e2]
          clear e2
          go_wp2
          exact ⟨rfl, HCx.out.quiet 3 rfl⟩
        · intro L wx vals hi hu hcl hC
          have HCx := Lib.hid hC
          clear hC hcl hu hi
          simp only [fillA, if_true, Act.put]
          simp
          go_wp2
          exact ⟨rfl, HCx.out.quiet 4 rfl⟩
        · intro L wx vals hi hu hcl hC
          simp [predL, predE, Region.binds, UpL] at hu
          have e4 : vals 4 = .pointer (some ⟨R, 0, none⟩) := hC.v 4 (by simp [hu])
          have HCx := Lib.hid hC
          clear hC hcl hu hi
          simp only [fillA, if_true, Act.put]
          simp
          simp only [e4]
          clear e4
          go_wp2
          exact ⟨rfl, HCx.out.quiet 5 rfl⟩
        · intro L wx vals hi hu hcl hC
          simp [predL, predE, Region.binds, UpL] at hu
          have e5 : vals 5 = .pointer (some ⟨R, 0, none⟩) := hC.v 5 (by simp [hu])
          have HCx := Lib.hid hC
          clear hC hcl hu hi
          simp only [fillA, if_true, Act.put]
          simp
          simp only [e5]
          clear e5
          go_wp2
          exact ⟨rfl, HCx.out.quiet 6 rfl⟩
        · intro L wx vals hi hu hcl hC
          simp [predL, predE, Region.binds, UpL] at hu
          have e6 : vals 6 = .pointer (some ⟨R, 1, none⟩) := hC.v 6 (by simp [hu])
          have h0 := (HC4.out wx hC.b).2.1
          have HCx := Lib.hid hC
          clear hC hcl hu hi
          simp only [fillA, if_true, Act.put]
          simp
          simp only [e6]
          clear e6
          go_wp2
          exact ⟨rfl, HCx.out.quiet 7 rfl⟩
        · intro L wx vals hi hu hcl hC
          simp [predL, predE, Region.binds, UpL] at hu
          have e3 : vals 3 = .map (some M) := hC.v 3 (by simp [hu])
          have e7 : vals 7 = .int .i64 nx := hC.v 7 (by simp [hu])
          have h0 := (HC4.out wx hC.b).2.2
          have HCx := Lib.hid hC
          clear hC hcl hu hi
          simp only [fillA, if_true, Act.put]
          simp
          simp only [e3, e7]
          clear e3 e7
          go_wp2
          exact ⟨rfl, HCx.out.quiet 8 rfl⟩
        · intro L wx vals hi hu hcl hC
          simp [predL, predE, Region.binds, UpL] at hu
          have e8 : vals 8 = .int .i64 tk := hC.v 8 (by simp [hu])
          have HCx := Lib.hid hC
          clear hC hcl hu hi
          simp only [fillA, if_true, Act.put]
          simp
          simp only [e8]
          clear e8
          go_wp2
          exact ⟨rfl, HCx.out.quiet 9 rfl⟩
      · intro wz vals U hC hall
        have e9 : vals 9 = .bool true := hC.v 9 (hall 9 (by simp))
        have HA1 := Lib.hid (HA.out.step ((Below.refl _ wr).drew.trans hC.b))
        simp only [fillA, if_true, Act.put]
        simp
        simp only [e9]
        clear hC hall e9 HC4 HA
        generalize vals 0 = t_0 at *
        generalize vals 1 = t_1 at *
        generalize vals 2 = t_2 at *
        generalize vals 3 = t_3 at *
        generalize vals 4 = t_4 at *
        generalize vals 5 = t_5 at *
        generalize vals 6 = t_6 at *
        generalize vals 7 = t_7 at *
        generalize vals 8 = t_8 at *
        generalize vals 9 = t_9 at *
        obtain ⟨M2, _, hr2⟩ := HA1.out.open_
        have c1 := (hr2 wz (Below.refl _ _)).c1
        simp only at c1
        have HT := Lib.hid (HA1.out.take hnb)
        rw [HTK.out] at HT
        clear hr2 HA1
        go_wp2_with fail
        (with_reducible refine HT.out.mono ?_); rintro e w3 ⟨rfl, h3⟩
        clear HT c1
        obtain ⟨A9, c9, w4, hrun, h4⟩ := PrA.app h3 (by omega) tk
        obtain ⟨M3, _, hr3⟩ := h4.open_
        have c1 := (hr3 w4 (Below.refl _ _)).c1
        have z1 := (hr3 w4 (Below.refl _ _)).f1
        simp only at c1
        have HN := Lib.hid (HNX.out w4)
        have hso := HSO.out
        have HF := Lib.hid (show PrA w.heap.size T w R (.slice A9 (rcMo s (k + 1)).length c9) (rcMo s (k + 1)) (rcMv s (k + 1)) (w4.setCell ⟨R, 1, none⟩ (.int .i64 r)) by
          rw [HEQ.out.1, HEQ.out.2, hso]
          have h9 := h4.setNx (b := r) HIV.out
          rw [List.length_append]
          rw [HST.out]
          exact h9)
        have HVE := Lib.hid (show Value.slice A9 (Lk.length + 1) c9 = .slice A9 (rcMo s (k + 1)).length c9 by rw [HEQ.out.1, hso]; simp)
        have HME := Lib.hid (show rcLeft b R (w4.setCell ⟨R, 1, none⟩ (.int .i64 r)) < rcLeft b R wr by rw [PrA.left HF.out, HLF.out]; exact HL1.out)
        clear h3 h4 hso HNX HEQ HSO hr3 HST HIV
        go_wp2_with (at_builtin; refine wpList_append_run rfl (.tmp 14) (.tmp 21) 22 rfl rfl rfl hrun ?_)
        (with_reducible refine HN.out.mono ?_); rintro e w5 ⟨rfl, rfl⟩
        clear HN
        go_wp2
        go_roundw
        case rel => exact ⟨k + 1, A9, c9, by omega, HVE.out, HF⟩
        case measure => exact HME.out
    · obtain rfl : k = K := by omega
      have ht0 : tk = 0 := by rw [← htk_]; exact HKE.out
      subst ht0
      have HEQ0 : ∃ Lk sk, rcMo s k = Lk ∧ rcMv s k = sk := ⟨_, _, rfl, rfl⟩
      obtain ⟨Lk, sk, hq1, hq2⟩ := HEQ0
      have HEQ := Lib.hid (And.intro hq1 hq2)
      rw [hq1, hq2] at HA
      rw [hq2] at HC4 hnb HLF
      rw [hq1]
      clear HKY HKE HOM HLE hiv hr htk_ htp hlt hok hq1 hq2 HI0
      obtain ⟨skw, nx, skl⟩ := sk
      simp only at HC4 hnb HLF
      generalize htk0 : (0 : Int) = tk at HC4
      have htn' : (tk != 0) = false := by rw [← htk0]; rfl
      go_wp2_with fail
      refine wp_region_looseS 35 (by kernel_rfl) (by kernel_rfl) (StB wr.drew (fun vI => [.pointer (some ⟨R, 0, none⟩), .pointer (some ⟨R, 0, none⟩), .pointer (some ⟨R, 2, none⟩), .map (some M), .pointer (some ⟨R, 0, none⟩), .pointer (some ⟨R, 0, none⟩), .pointer (some ⟨R, 1, none⟩), .int .i64 nx, .int .i64 tk, .bool false].getD vI undef)) rfl StB.start ?_ ?_
      · simp only [OblAllS]
        refine ⟨?_, ?_, ?_, ?_, ?_, ?_, ?_, ?_, ?_, ?_, trivial⟩
        · intro L wx vals hi hu hcl hC
          have HCx := Lib.hid hC
          clear hC hcl hu hi
          simp only [fillA, if_true, Act.put]
          simp
          go_wp2
          exact ⟨rfl, HCx.out.quiet 0 rfl⟩
        · intro L wx vals hi hu hcl hC
          simp [predL, predE, Region.binds, UpL] at hu
          have e0 : vals 0 = .pointer (some ⟨R, 0, none⟩) := hC.v 0 (by simp [hu])
          have HCx := Lib.hid hC
          clear hC hcl hu hi
          simp only [fillA, if_true, Act.put]
          simp
          simp only [e0]
          clear e0
          go_wp2
          exact ⟨rfl, HCx.out.quiet 1 rfl⟩
        · intro L wx vals hi hu hcl hC
          simp [predL, predE, Region.binds, UpL] at hu
          have e1 : vals 1 = .pointer (some ⟨R, 0, none⟩) := hC.v 1 (by simp [hu])
          have HCx := Lib.hid hC
          clear hC hcl hu hi
          simp only [fillA, if_true, Act.put]
          simp
          simp only [e1]
          clear e1
          go_wp2
          exact ⟨rfl, HCx.out.quiet 2 rfl⟩
        · intro L wx vals hi hu hcl hC
          simp [predL, predE, Region.binds, UpL] at hu
          have e2 : vals 2 = .pointer (some ⟨R, 2, none⟩) := hC.v 2 (by simp [hu])
          have h0 := (HC4.out wx hC.b).1
          have HCx := Lib.hid hC
          clear hC hcl hu hi
          simp only [fillA, if_true, Act.put]
          simp
          simp only [e2]
          clear e2
          go_wp2
          exact ⟨rfl, HCx.out.quiet 3 rfl⟩
        · intro L wx vals hi hu hcl hC
          have HCx := Lib.hid hC
          clear hC hcl hu hi
          simp only [fillA, if_true, Act.put]
          simp
          go_wp2
          exact ⟨rfl, HCx.out.quiet 4 rfl⟩
        · intro L wx vals hi hu hcl hC
          simp [predL, predE, Region.binds, UpL] at hu
          have e4 : vals 4 = .pointer (some ⟨R, 0, none⟩) := hC.v 4 (by simp [hu])
          have HCx := Lib.hid hC
          clear hC hcl hu hi
          simp only [fillA, if_true, Act.put]
          simp
          simp only [e4]
          clear e4
          go_wp2
          exact ⟨rfl, HCx.out.quiet 5 rfl⟩
        · intro L wx vals hi hu hcl hC
          simp [predL, predE, Region.binds, UpL] at hu
          have e5 : vals 5 = .pointer (some ⟨R, 0, none⟩) := hC.v 5 (by simp [hu])
          have HCx := Lib.hid hC
          clear hC hcl hu hi
          simp only [fillA, if_true, Act.put]
          simp
          simp only [e5]
          clear e5
          go_wp2
          exact ⟨rfl, HCx.out.quiet 6 rfl⟩
        · intro L wx vals hi hu hcl hC
          simp [predL, predE, Region.binds, UpL] at hu
          have e6 : vals 6 = .pointer (some ⟨R, 1, none⟩) := hC.v 6 (by simp [hu])
          have h0 := (HC4.out wx hC.b).2.1
          have HCx := Lib.hid hC
          clear hC hcl hu hi
          simp only [fillA, if_true, Act.put]
          simp
          simp only [e6]
          clear e6
          go_wp2
          exact ⟨rfl, HCx.out.quiet 7 rfl⟩
        · intro L wx vals hi hu hcl hC
          simp [predL, predE, Region.binds, UpL] at hu
          have e3 : vals 3 = .map (some M) := hC.v 3 (by simp [hu])
          have e7 : vals 7 = .int .i64 nx := hC.v 7 (by simp [hu])
          have h0 := (HC4.out wx hC.b).2.2
          have HCx := Lib.hid hC
          clear hC hcl hu hi
          simp only [fillA, if_true, Act.put]
          simp
          simp only [e3, e7]
          clear e3 e7
          go_wp2
          exact ⟨rfl, HCx.out.quiet 8 rfl⟩
        · intro L wx vals hi hu hcl hC
          simp [predL, predE, Region.binds, UpL] at hu
          have e8 : vals 8 = .int .i64 tk := hC.v 8 (by simp [hu])
          have HCx := Lib.hid hC
          clear hC hcl hu hi
          simp only [fillA, if_true, Act.put]
          simp
          simp only [e8]
          clear e8
          go_wp2
          exact ⟨rfl, HCx.out.quiet 9 rfl⟩
      · intro wz vals U hC hall
        have e9 : vals 9 = .bool false := hC.v 9 (hall 9 (by simp))
        have HA1 := Lib.hid (HA.out.step ((Below.refl _ wr).drew.trans hC.b))
        simp only [fillA, if_true, Act.put]
        simp
        simp only [e9]
        clear hC hall e9 HC4 HA
        generalize vals 0 = t_0 at *
        generalize vals 1 = t_1 at *
        generalize vals 2 = t_2 at *
        generalize vals 3 = t_3 at *
        generalize vals 4 = t_4 at *
        generalize vals 5 = t_5 at *
        generalize vals 6 = t_6 at *
        generalize vals 7 = t_7 at *
        generalize vals 8 = t_8 at *
        generalize vals 9 = t_9 at *
        have HF := Lib.hid (show (∃ T', Star (LsP csI 1 3 (.slice A Lk.length c) (rcMo s k)) (RcP R (rcMv s k)) T' wz ∧ ∀ j, T' j → T j ∨ w.heap.size ≤ j) ∧ Chg T w wz by
          rw [HEQ.out.1, HEQ.out.2]; exact PrA.done HA1.out)
        clear HA1
        go_wp2
        go_ret
        exact ⟨.slice A Lk.length c, rfl, HF.out⟩
/-! ### pass -/
/-- The object, the list of numbers and a row of ids that grows. -/
def PsA (T : Nat → Prop) (w0 : World) (R : Nat) (v : Value) (L : List Int) (u : Value) (N : List Int) (s : RcS) (w1 : World) : Prop := At T w0 (Star (RowP csI 1 3 w0.heap.size v L) (Star (LsP csI 1 3 u N) (RcP R s))) w1
section
variable {T : Nat → Prop} {w0 w1 w2 : World} {R : Nat} {v u : Value} {L N : List Int} {s : RcS}
theorem PsA.open_ (h : PsA T w0 R v L u N s w1) : (∃ M, RcIv s ∧ ∀ W, Below w1.heap.size w1 W → RcD R M s W) ∧ LsA csI 1 3 u N w1 := by
  obtain ⟨T1, A, B, _, _, hp, hq⟩ := At.getR h
  obtain ⟨M, h1, _, _, h2⟩ := hq.open_
  exact ⟨⟨M, h1, h2⟩, hp.2.any hp.1⟩
theorem PsA.take (h : PsA T w0 R v L u N s w1) {q : Int} (hq : 0 ≤ q ∧ q < 65536) : Calls Try.prog 42 #[.pointer (some ⟨R, 0, none⟩), .int .i64 q] w1 fun e w2 => e = .returned (.int .i64 (rcTk s.l q)) ∧ PsA T w0 R v L u N ⟨s.w, s.nx, rcRm s.l q⟩ w2 :=
  At.call1 (base := 0) h (fun _ _ => Nat.zero_le _) (Nat.zero_le _) (Acts.right RowP.frm (Acts.right LsP.frm (prtake_any hq)))
theorem PsA.app (h : PsA T w0 R v L u N s w1) (hn : L.length ≤ 99999) (x : Int) :
    ∃ A c w2, (Builtin.append_ #[22, 22] 22 #[v, .slice (some ⟨w1.heap.size, 0, none⟩) 1 1]).run Try.prog (w1.alloc (.cells #[.int .i64 x] 3)) = .ok (.slice A (L.length + 1) c) w2 ∧ PsA T w0 R (.slice A (L.length + 1) c) (L ++ [x]) u N s w2 :=
  At.app intElt h (LsP.frm.star RcP.frm) hn x
theorem PsA.fin (h : PsA T w0 R v L u N s w1) : PrA w0.heap.size T w0 R v L s w1 := At.drop (At.imp h fun _ => Star.pick2)
end
theorem take_map {l : List RcE} {k p : Nat} (hk : k < l.length) (hp : k < p) : (l.take (min (k + 1) p)).map (·.i) = (l.take (min k p)).map (·.i) ++ [l[k].i] := by
  rw [show min (k + 1) p = k + 1 by omega, show min k p = k by omega, List.take_succ_eq_append_getElem hk, List.map_append, List.map_singleton]
set_option maxRecDepth 100000 in
set_option maxHeartbeats 16000000 in
theorem prpass_any {R : Nat} {s : RcS} {base : Nat} (b : Int) : Acts 25 #[.pointer (some ⟨R, 0, none⟩), .int .i64 b] base (RcP R s) (fun v : Value => v) fun v => Star (RowP csI 1 3 0 v (rcMo s (rcM s b))) (RcP R (rcMv s (rcM s b))) := by
  intro T w hP hb0 hs
  obtain ⟨M, hiv, _, _, hr⟩ := hP.open_
  have c1 := (hr w (Below.refl _ _)).c1
  have HB := Lib.hid (before_any s.nx b w)
  cases hbf : befB s.nx b
  · rw [hbf] at HB
    have HF := Lib.hid (show (∃ T', Star (RowP csI 1 3 0 (.slice none 0 0) (rcMo s (rcM s b))) (RcP R (rcMv s (rcM s b))) T' w ∧ ∀ j, T' j → T j ∨ w.heap.size ≤ j) ∧ Chg T w w by
      rw [rcM_zero hbf]
      exact (PrA.start hP 0).doneR)
    clear hP hb0 hs hiv hr hbf
    go_enter Try.func25, Try.ntmps25
    go_wp2_with fail
    (with_reducible refine HB.out.mono ?_); rintro e w1 ⟨rfl, rfl⟩
    go_wp2
    go_ret
    exact ⟨_, rfl, HF.out⟩
  · rw [hbf] at HB
    have hivm := hiv.mv (rcM_le (s := s) (b := b))
    obtain ⟨p, hpl, hbefs, e1, e2⟩ := rc_pass hiv hbf
    rw [e1] at hivm
    rw [e1, e2]
    obtain ⟨LF, hLF⟩ : ∃ LF, (s.l.take p).map (·.i) = LF := ⟨_, rfl⟩
    have HLF := Lib.hid hLF
    rw [hLF]
    clear hLF
    have hlen := hiv.len
    have HN := Lib.hid (prnum_any hP)
    obtain ⟨qs, hqs⟩ : ∃ qs, s.l.map (·.q) = qs := ⟨_, rfl⟩
    have hql : qs.length = s.l.length := by rw [← hqs, List.length_map]
    have hqk : ∀ k (hk : k < qs.length), qs[k] = (s.l[k]'(by omega)).q := fun k hk => by simp [← hqs]
    have HEL := Lib.hid (fun k (hk : k < qs.length) => (by rw [hqk k hk]; exact (hiv.ok.e _ (List.getElem_mem _)).1 : 0 ≤ qs[k] ∧ qs[k] < 65536))
    have HBF := Lib.hid (fun k (hk : k < qs.length) (W : World) => (by
      have h9 := before_any qs[k] b W
      rw [hqk k hk, hbefs k (by omega)] at h9
      rw [hqk k hk]; exact h9 : Calls Try.prog 41 #[.int .i64 qs[k], .int .i64 b] W fun e w' => e = .returned (.bool (decide (k < p))) ∧ W = w'))
    have HTK := Lib.hid (fun k (hk : k < qs.length) (hk2 : k < p) => (by
      have h1 : s.l.drop k = (s.l[k]'(by omega)) :: s.l.drop (k + 1) := List.drop_eq_getElem_cons (by omega)
      have h2 : min k p = k := by omega
      have h3 : min (k + 1) p = k + 1 := by omega
      rw [h2, h3, h1, rcTk_cons, rcRm_cons, hqk k hk, if_pos rfl, if_pos rfl]
      refine ⟨s.l[k].i, rfl, rfl, ?_⟩
      have h4 := take_map (l := s.l) (k := k) (p := p) (by omega) hk2
      rw [h2, h3] at h4; exact h4 : ∃ x, rcTk (s.l.drop (min k p)) qs[k] = x ∧ rcRm (s.l.drop (min k p)) qs[k] = s.l.drop (min (k + 1) p) ∧ (s.l.take (min (k + 1) p)).map (·.i) = (s.l.take (min k p)).map (·.i) ++ [x]))
    have HLL := Lib.hid (fun k => (by rw [List.length_map, List.length_take]; omega : ((s.l.take (min k p)).map (·.i)).length ≤ 64))
    have HEND := Lib.hid (fun k (hk : k = qs.length) => (by rw [hk, hql, show min s.l.length p = p by omega] : min k p = p))
    rw [hqs] at HN
    have hq64 : qs.length ≤ 64 := by omega
    have HIV := Lib.hid hivm
    have HP0 := Lib.hid hP
    obtain ⟨n, hn⟩ : ∃ n, qs.length = n := ⟨_, rfl⟩
    have HNN := Lib.hid hn
    clear hP hb0 hs hiv hr hbf hivm hbefs e1 e2 hlen hqs hqk hql hpl
    obtain ⟨sw, nx, l⟩ := s
    simp only at c1 HB HIV HLL HTK HP0 HLF ⊢
    unfold GotLs at HN
    go_enter Try.func25, Try.ntmps25
    go_wp2_with fail
    (with_reducible refine HB.out.mono ?_); rintro e w1 ⟨rfl, rfl⟩
    go_wp2_with fail
    (with_reducible refine HN.out.mono ?_); rintro e w1 ⟨u, rfl, hu, hb1⟩
    clear HN HB c1
    have HA0 := Lib.hid (show PsA T w R (.slice none 0 0) ((l.take (min 0 p)).map (·.i)) u qs ⟨sw, nx, l.drop (min 0 p)⟩ w1 by
      rw [show min 0 p = 0 by omega, List.take_zero, List.drop_zero]
      refine At.row0 (T := T) (w := w) (P := Star (LsP csI 1 3 u qs) (RcP R ⟨sw, nx, l⟩)) ?_ _
      exact ⟨fun k => (w.heap.size ≤ k ∧ k < w1.heap.size) ∨ T k, ⟨fun k => w.heap.size ≤ k ∧ k < w1.heap.size, T, fun k => Iff.rfl, fun k hk ht => by have := (RcP.frm (base := 0)).lt HP0.out k ht; omega, ⟨fun k hk => hk.2, hu⟩, HP0.out.later hb1⟩, fun k hk => hk.elim (fun h => .inr h.1) .inl, Chg.of_below hb1⟩)
    obtain ⟨Av, cv, rfl, _, _⟩ := hu.shape
    rw [hn] at HA0 hq64 ⊢
    clear hu hb1 HP0 hn
    go_wp2_with fail
    go_loopw [5, 18] (fun s5 s18 wr => ∃ (k : Nat) (A : Option Addr) (c : Nat), k ≤ n ∧ s18 = .int .i64 k ∧ s5 = .slice A ((l.take (min k p)).map (·.i)).length c ∧ Hid (PsA T w R (.slice A ((l.take (min k p)).map (·.i)).length c) ((l.take (min k p)).map (·.i)) (.slice Av n cv) qs ⟨sw, nx, l.drop (min k p)⟩ wr)) (fun _ s18 _ => n - (intOf s18).toNat)
    case atStart => exact ⟨0, none, 0, Nat.zero_le _, rfl, by simp, by simpa using HA0⟩
    case round =>
      obtain ⟨k, A, c, hk, rfl, rfl, HA⟩ := hrel
      clear HA0
      by_cases hlt : k < n
      · have hlt' : (k : Int) < n := by omega
        have hk0 : (0 : Int) ≤ k := by omega
        have hkq : k < qs.length := by have := HNN.out; omega
        obtain ⟨_, hls⟩ := HA.out.open_
        obtain ⟨bb, off, c', e1, _, _, hbw, _, hcell⟩ := hls.el hkq
        rw [HNN.out] at e1
        obtain ⟨rfl, rfl⟩ : Av = some ⟨bb, off, none⟩ ∧ cv = c' := by simpa using e1
        have q0 : wr.cell? ⟨bb, off + k, none⟩ = some (.int .i64 qs[k]) := by have h9 := hcell k hkq 0 (by omega); rw [Nat.mul_one] at h9; exact h9
        have hqb := HEL.out k hkq
        have HBK := Lib.hid (HBF.out k hkq wr)
        have HTK1 := Lib.hid (HTK.out k hkq)
        have HT := Lib.hid (HA.out.take hqb)
        have hll := HLL.out k
        clear hls e1 hcell HBF HTK HEL HNN HEND
        generalize qs[k] = q at *
        by_cases hkp : k < p
        · obtain ⟨x, ht1, ht2, ht3⟩ := HTK1.out hkp
          rw [show decide (k < p) = true by simpa using hkp] at HBK
          simp only at HT
          rw [ht1, ht2] at HT
          have HT3 := Lib.hid ht3
          clear ht1 ht2 ht3 HTK1 HA HLL
          generalize (l.take (min k p)).map (·.i) = Lk at *
          go_wp2_with fail
          (with_reducible refine HBK.out.mono ?_); rintro e w2 ⟨rfl, rfl⟩
          go_wp2_with fail
          (with_reducible refine HT.out.mono ?_); rintro e w3 ⟨rfl, h3⟩
          obtain ⟨A9, c9, w4, hrun, h4⟩ := PsA.app h3 (by omega) x
          have HF := Lib.hid (show PsA T w R (.slice A9 ((l.take (min (k + 1) p)).map (·.i)).length c9) ((l.take (min (k + 1) p)).map (·.i)) (.slice (some ⟨bb, off, none⟩) n cv) qs ⟨sw, nx, l.drop (min (k + 1) p)⟩ w4 by
            rw [HT3.out, List.length_append]; exact h4)
          have HVE := Lib.hid (show Value.slice A9 (Lk.length + 1) c9 = .slice A9 ((l.take (min (k + 1) p)).map (·.i)).length c9 by rw [HT3.out, List.length_append]; rfl)
          clear HT HBK h3 h4 HT3 q0
          go_wp2_with (at_builtin; refine wpList_append_run rfl (.tmp 25) (.tmp 29) 22 rfl rfl rfl hrun ?_)
          go_roundw
          case rel => exact ⟨k + 1, A9, c9, by omega, by go_num, HVE.out, HF⟩
          case measure => simp [intOf]; omega
        · rw [show decide (k < p) = false by simpa using hkp] at HBK
          have hmn : min (k + 1) p = min k p := by omega
          have HF := Lib.hid (show PsA T w R (.slice A ((l.take (min (k + 1) p)).map (·.i)).length c) ((l.take (min (k + 1) p)).map (·.i)) (.slice (some ⟨bb, off, none⟩) n cv) qs ⟨sw, nx, l.drop (min (k + 1) p)⟩ wr by
            rw [hmn]; exact HA.out)
          have HVE := Lib.hid (show Value.slice A ((l.take (min k p)).map (·.i)).length c = .slice A ((l.take (min (k + 1) p)).map (·.i)).length c by rw [hmn])
          clear HT HTK1 HA HLL hmn
          generalize (l.take (min k p)).map (·.i) = Lk at *
          go_wp2_with fail
          (with_reducible refine HBK.out.mono ?_); rintro e w2 ⟨rfl, rfl⟩
          clear HBK q0
          go_wp2
          go_roundw
          case rel => exact ⟨k + 1, A, c, by omega, by go_num, HVE.out, HF⟩
          case measure => simp [intOf]; omega
      · obtain rfl : k = n := by omega
        have he := HEND.out k HNN.out.symm
        rw [he] at HA ⊢
        have HA2 := Lib.hid (PsA.fin HA.out)
        obtain ⟨M9, _, hr9⟩ := HA2.out.open_
        have z1 := (hr9 wr (Below.refl _ _)).f1
        have c1 := (hr9 wr (Below.refl _ _)).c1
        simp only at c1
        have h9 := HA2.out.setNx (b := b) HIV.out
        rw [HLF.out] at h9 ⊢
        have HF := Lib.hid h9.doneR
        clear HA HA2 hr9 HBF HTK HEL HNN HEND HLL he h9 HLF
        go_wp2
        go_ret
        exact ⟨.slice A LF.length c, rfl, HF.out⟩
end Go.Proofs.Ythmncipenjhknaa

