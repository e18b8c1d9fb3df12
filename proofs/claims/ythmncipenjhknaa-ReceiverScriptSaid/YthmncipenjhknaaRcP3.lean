/-
  Layer 17: contracts of the program's numbers, Holding, slices.Index, slices.Contains and Holds. Written by gen_rcp3.py.
-/
import Derived.Test.YthmncipenjhknaaRcP2
namespace Go.Proofs.Ythmncipenjhknaa
open Go.ChangeShapes Go.WideShapes Go.ChangeAt Go.RowKit
set_option linter.unusedVariables false

/-- A row of the call's own that grows; nothing old has turned. -/
def RwA (w : World) (v : Value) (L : List Int) (w1 : World) : Prop := w1.ownsRow w.heap.size 3 1 v L.length (srs csI L) ∧ Below w.heap.size w w1
section
variable {w w1 w2 : World} {v : Value} {L : List Int}
theorem RwA.start : RwA w (.slice none 0 0) [] w := ⟨World.ownsRow_nil _ _ _ _, Below.refl _ _⟩
theorem RwA.step (h : RwA w v L w1) (hb : Below w1.heap.size w1 w2) : RwA w v L w2 := ⟨row_from h.1 hb, h.2.trans (hb.mono h.2.size)⟩
theorem RwA.app (h : RwA w v L w1) (hn : L.length ≤ 99999) (x : Int) :
    ∃ A c w2, (Builtin.append_ #[22, 22] 22 #[v, .slice (some ⟨w1.heap.size, 0, none⟩) 1 1]).run Try.prog (w1.alloc (.cells #[.int .i64 x] 3)) = .ok (.slice A (L.length + 1) c) w2 ∧ RwA w (.slice A (L ++ [x]).length c) (L ++ [x]) w2 := by
  obtain ⟨A, c, w3, hrun, hv, hb⟩ := intElt.app_new x h.1 (by omega) h.2.size
  refine ⟨A, c, w3, hrun, ?_, h.2.trans hb⟩
  rw [List.length_append]; exact hv
theorem RwA.got (h : RwA w v L w1) : LsG csI 1 3 w1 (fun b => w.heap.size ≤ b ∧ b < w1.heap.size) v L ∧ Below w.heap.size w w1 := ⟨intElt.row_ls h.1 rfl, h.2⟩
end
/-! ### numbers -/
theorem nuK_next (s : RcS) (k : Nat) : nuK s (k + 1) = nuK s k ++ (if rcTk s.l ((s.nx + k) % 65536) = 0 then [] else [(s.nx + k) % 65536]) := rfl
set_option maxRecDepth 100000 in
set_option maxHeartbeats 8000000 in
theorem prnum_any {R : Nat} {s : RcS} {T : Nat → Prop} {w : World} (h : RcP R s T w) : Calls Try.prog 39 #[.pointer (some ⟨R, 0, none⟩)] w (GotLs csI 1 3 (s.l.map (·.q)) w) := by
  obtain ⟨M, hiv, _, _, hr⟩ := h.open_
  have hwb := hiv.w
  have hnx := hiv.ok.nx
  rw [← nu_all hiv]
  have HLN := Lib.hid (nuK_len s)
  have HNS := Lib.hid (nuK_next s)
  have HN0 := Lib.hid (show nuK s 0 = [] from rfl)
  obtain ⟨wn, hwn⟩ : ∃ wn : Nat, s.w.toNat = wn := ⟨_, rfl⟩
  have hwe : s.w = wn := by omega
  have hwn2 : wn ≤ 64 := by omega
  rw [hwn]
  have HRD := Lib.hid (fun (W : World) (hb : Below w.heap.size w W) => (by
    have h9 := hr W hb
    exact ⟨by rw [h9.c0, hwe], h9.c1, h9.c2, h9.lk⟩ : W.cell? ⟨R, 0, none⟩ = some (.int .i64 (wn : Int)) ∧ W.cell? ⟨R, 1, none⟩ = some (.int .i64 s.nx) ∧ W.cell? ⟨R, 2, none⟩ = some (.map (some M)) ∧ ∀ q : Int, 0 ≤ q ∧ q < 65536 → (Instr.lookup 56 (.map (some M)) (.int .i64 q) false).run Try.prog W = .ok (.int .i64 (rcTk s.l q)) W))
  have hnum := isNum_yes hnx.1 hnx.2
  have HNX := Lib.hid (fun (W : World) (k : Nat) (hk : k < wn) => (by
    have h9 := next6_any s.nx k W
    obtain ⟨a1, a2⟩ := nx_yes (s := s.nx) (n := k) hnum (by omega) (by omega)
    rw [a1, a2] at h9
    exact h9 : Calls Try.prog 43 #[.int .i64 s.nx, .int .i64 (k : Nat)] W fun e w' => e = .returned (.tuple #[.int .i64 ((s.nx + k) % 65536), .int .i64 0]) ∧ W = w'))
  have HBD := Lib.hid (fun k : Nat => (by omega : 0 ≤ (s.nx + k) % 65536 ∧ (s.nx + k) % 65536 < 65536))
  obtain ⟨d0, _, _, _⟩ := HRD.out w (Below.refl _ _)
  clear h hr hwb hnx hiv hwn hwe hnum
  generalize nuK s = nu at *
  generalize rcTk s.l = tkf at *
  generalize s.nx = nx at *
  unfold GotLs
  go_enter Try.func39, Try.ntmps39
  go_wp2_with fail
  go_loopw [3, 11] (fun s3 s11 wr => ∃ (k : Nat) (A : Option Addr) (c : Nat), k ≤ wn ∧ s11 = .int .i64 k ∧ s3 = .slice A (nu k).length c ∧ Hid (RwA w (.slice A (nu k).length c) (nu k) wr)) (fun _ s11 _ => wn - (intOf s11).toNat)
  case atStart => exact ⟨0, none, 0, Nat.zero_le _, rfl, by rw [HN0.out]; rfl, by rw [HN0.out]; exact Lib.hid RwA.start⟩
  case round =>
    obtain ⟨k, A, c, hk, rfl, rfl, HA⟩ := hrel
    by_cases hlt : k < wn
    · have hlt' : (k : Int) < wn := by omega
      obtain ⟨_, c1, c2, lk⟩ := HRD.out wr HA.out.2
      have HNK := Lib.hid (HNX.out wr k hlt)
      have hqb := HBD.out k
      have hns := HNS.out k
      have hln := HLN.out k
      obtain ⟨q, hq⟩ : ∃ q, (nx + (k : Int)) % 65536 = q := ⟨_, rfl⟩
      rw [hq] at HNK hqb hns
      have hlk := lk q hqb
      clear HRD HNX HBD lk HNS HLN hq d0
      generalize tkf q = tk at *
      by_cases htk : tk = 0
      · subst htk
        rw [if_pos rfl, List.append_nil] at hns
        have HA2 := Lib.hid (show RwA w (.slice A (nu (k + 1)).length c) (nu (k + 1)) wr by rw [hns]; exact HA.out)
        have HVE := Lib.hid (show Value.slice A (nu k).length c = .slice A (nu (k + 1)).length c by rw [hns])
        clear hns HA
        go_wp2_with fail
        (with_reducible refine HNK.out.mono ?_); rintro e w2 ⟨rfl, rfl⟩
        go_wp2
        go_roundw
        case rel => exact ⟨k + 1, A, c, by omega, by go_num, HVE.out, HA2⟩
        case measure => simp [intOf]; omega
      · rw [if_neg htk] at hns
        have htk' : (tk != 0) = true := by simpa using htk
        obtain ⟨A2, c2_, w3, hrun, hA2⟩ := HA.out.app (by omega) q
        have HA2 := Lib.hid (show RwA w (.slice A2 (nu (k + 1)).length c2_) (nu (k + 1)) w3 by rw [hns]; exact hA2)
        have HVE := Lib.hid (show Value.slice A2 ((nu k).length + 1) c2_ = .slice A2 (nu (k + 1)).length c2_ by rw [hns, List.length_append]; rfl)
        clear hns HA hA2 htk
        go_wp2_with fail
        (with_reducible refine HNK.out.mono ?_); rintro e w2 ⟨rfl, rfl⟩
        go_wp2_with (at_builtin; refine wpList_append_run rfl (.tmp 30) (.tmp 32) 22 rfl rfl rfl hrun ?_)
        go_roundw
        case rel => exact ⟨k + 1, A2, c2_, by omega, by go_num, HVE.out, HA2⟩
        case measure => simp [intOf]; omega
    · obtain rfl : k = wn := by omega
      have HF := Lib.hid HA.out.got
      clear HRD HNX HBD HNS HLN HA
      go_wp2
      go_ret
      exact ⟨_, rfl, HF.out⟩
/-! ### Holding -/
set_option maxRecDepth 100000 in
set_option maxHeartbeats 8000000 in
theorem prhlg_any {R : Nat} {s : RcS} {T : Nat → Prop} {w : World} (h : RcP R s T w) : Calls Try.prog 36 #[.pointer (some ⟨R, 0, none⟩)] w (GotLs csI 1 3 (rcHl s) w) := by
  have HN := Lib.hid (prnum_any h)
  obtain ⟨M, hiv, _, _, hr⟩ := h.open_
  have HRD := Lib.hid hr
  have hlen := hiv.len
  obtain ⟨qs, hqs⟩ : ∃ qs, s.l.map (·.q) = qs := ⟨_, rfl⟩
  obtain ⟨is, his⟩ : ∃ is, rcHl s = is := ⟨_, rfl⟩
  have hl1 : qs.length = s.l.length := by rw [← hqs, List.length_map]
  have hl2 : is.length = s.l.length := by rw [← his]; unfold rcHl; rw [List.length_map]
  have HEL := Lib.hid (fun k (hk : k < qs.length) (hk2 : k < is.length) => (by
    have h1 : qs[k] = (s.l[k]'(by omega)).q := by simp [← hqs]
    have h2 : is[k] = (s.l[k]'(by omega)).i := by simp [← his, rcHl]
    have h3 := hiv.at_ (k := k) (by omega)
    exact ⟨by rw [h1]; exact (hiv.ok.e _ (List.getElem_mem _)).1, by rw [h1, h2]; exact h3.1⟩ : (0 ≤ qs[k] ∧ qs[k] < 65536) ∧ rcTk s.l qs[k] = is[k]))
  rw [hqs] at HN
  rw [his]
  have hle : qs.length = is.length := by omega
  have hlen2 : is.length ≤ 64 := by omega
  clear hqs his hl1 hl2 hlen hiv hr h
  unfold GotLs at *
  go_enter Try.func36, Try.ntmps36
  go_wp2_with fail
  (with_reducible refine HN.out.mono ?_); rintro e w0 ⟨v, rfl, hv, hb0⟩
  clear HN
  have HV := Lib.hid (fun k (hk : k < qs.length) => hv.el hk)
  obtain ⟨Av, cv, rfl, hcv, _⟩ := hv.shape
  have HB0 := Lib.hid hb0
  obtain ⟨n, hn⟩ : ∃ n, qs.length = n := ⟨_, rfl⟩
  have HNN := Lib.hid hn
  rw [hn] at hcv hle
  have hn2 : n ≤ 64 := by omega
  rw [hn]
  clear hv hb0 hn
  go_wp2_with fail
  go_loopw [3, 9] (fun s3 s9 wr => ∃ (k : Nat) (A : Option Addr) (c : Nat), k ≤ n ∧ s9 = .int .i64 k ∧ s3 = .slice A k c ∧ Hid (RwA w0 (.slice A k c) (is.take k) wr)) (fun _ s9 _ => n - (intOf s9).toNat)
  case atStart => exact ⟨0, none, 0, Nat.zero_le _, rfl, rfl, Lib.hid (by simpa using (RwA.start (w := w0)))⟩
  case round =>
    obtain ⟨k, A, c, hk, rfl, rfl, HA⟩ := hrel
    by_cases hlt : k < n
    · have hlt' : (k : Int) < n := by omega
      have hk0 : (0 : Int) ≤ k := by omega
      have hkq : k < qs.length := by have := HNN.out; omega
      obtain ⟨bb, off, c', e1, _, _, hbw, _, hcell⟩ := HV.out k hkq
      rw [HNN.out] at e1
      obtain ⟨rfl, rfl⟩ : Av = some ⟨bb, off, none⟩ ∧ cv = c' := by simpa using e1
      have q0 : w0.cell? ⟨bb, off + k, none⟩ = some (.int .i64 qs[k]) := by have h9 := hcell k hkq 0 (by omega); rw [Nat.mul_one] at h9; exact h9
      have g0 := (HA.out.2.cell (p := ⟨bb, off + k, none⟩) hbw).trans q0
      obtain ⟨hqb, htk⟩ := HEL.out k hkq (by omega)
      have hd := HRD.out wr (HB0.out.trans (HA.out.2.mono HB0.out.size))
      have c2 := hd.c2
      have hlk := hd.lk _ hqb
      rw [htk] at hlk
      have hta : is.take (k + 1) = is.take k ++ [is[k]'(by omega)] := List.take_succ_eq_append_getElem (by omega)
      have hlt_ : (is.take k).length = k := by rw [List.length_take]; omega
      generalize is[k]'(by omega) = x at *
      generalize qs[k] = q at *
      obtain ⟨A2, c2_, w3, hrun, hA2⟩ := HA.out.app (by omega) x
      rw [hlt_] at hrun
      have HA2 := Lib.hid (show RwA w0 (.slice A2 (k + 1) c2_) (is.take (k + 1)) w3 by
        rw [hta]
        have h9 := hA2
        rw [List.length_append, hlt_] at h9; exact h9)
      clear hA2 hta hlt_ HA HRD HV HEL q0 e1 hcell htk hd HNN
      go_wp2_with (at_builtin; refine wpList_append_run rfl (.tmp 13) (.tmp 20) 22 rfl rfl rfl hrun ?_)
      go_roundw
      case rel => exact ⟨k + 1, A2, c2_, by omega, by go_num, rfl, HA2⟩
      case measure => simp [intOf]; omega
    · obtain rfl : k = n := by omega
      have h9 := HA.out
      rw [List.take_of_length_le (by omega)] at h9
      have HF := Lib.hid (show LsG csI 1 3 wr (fun b => w.heap.size ≤ b ∧ b < wr.heap.size) (.slice A k c) is ∧ Below w.heap.size w wr from
        ⟨(RwA.got h9).1.wider fun b hb => ⟨Nat.le_trans HB0.out.size hb.1, hb.2⟩, HB0.out.trans (h9.2.mono HB0.out.size)⟩)
      clear h9 HA HRD HV HEL HNN
      go_wp2
      go_ret
      exact ⟨_, rfl, HF.out⟩
/-! ### slices.Index, slices.Contains -/
def ixI (L : List Int) (x : Int) : Int := if L.any (· == x) = true then L.findIdx (· == x) else -1
theorem ix_hit {L : List Int} {x : Int} {k : Nat} (hk : k < L.length) (h : L[k] = x) (h2 : ∀ j (hj : j < L.length), j < k → L[j] ≠ x) : ixI L x = k := by
  have ha : L.any (· == x) = true := List.any_eq_true.2 ⟨L[k], List.getElem_mem hk, by simp [h]⟩
  unfold ixI
  rw [if_pos ha]
  have h3 : L.findIdx (· == x) = k := by
    have h4 : L.findIdx (· == x) ≤ L.length := List.findIdx_le_length
    rcases Nat.lt_trichotomy (L.findIdx (· == x)) k with h1 | h1 | h1
    · have h5 := List.findIdx_getElem (p := (· == x)) (xs := L) (w := by omega)
      exact absurd (eq_of_beq h5) (h2 _ (by omega) h1)
    · exact h1
    · have h5 := List.not_of_lt_findIdx (p := (· == x)) (xs := L) h1
      simp [h] at h5
  rw [h3]
theorem ix_miss {L : List Int} {x : Int} (h2 : ∀ j (hj : j < L.length), L[j] ≠ x) : ixI L x = -1 := by
  unfold ixI
  rw [if_neg]
  intro h
  obtain ⟨y, hy, e⟩ := List.any_eq_true.1 h
  obtain ⟨j, hj, rfl⟩ := List.getElem_of_mem hy
  exact h2 j hj (eq_of_beq e)
theorem ix_ge (L : List Int) (x : Int) : decide (0 ≤ ixI L x) = L.any (· == x) := by
  unfold ixI
  cases h : L.any (· == x)
  · simp
  · simp
set_option maxRecDepth 100000 in
set_option maxHeartbeats 8000000 in
theorem index_int {v : Value} {L : List Int} {w : World} (h : LsA csI 1 3 v L w) (hn : L.length ≤ 100000) (x : Int) : Calls Try.prog 48 #[v, .int .i64 x] w fun e w' => e = .returned (.int .i64 (ixI L x)) ∧ w = w' := by
  have HV := Lib.hid (fun k (hk : k < L.length) => h.el hk)
  obtain ⟨Av, cv, rfl, hcv, _⟩ := h.shape
  have HY := Lib.hid (fun k (hk : k < L.length) (h : L[k] = x) h2 => ix_hit (x := x) hk h h2)
  have HM := Lib.hid (fun h2 => ix_miss (L := L) (x := x) h2)
  obtain ⟨n, hn_⟩ : ∃ n, L.length = n := ⟨_, rfl⟩
  have HNN := Lib.hid hn_
  rw [hn_] at hcv hn
  rw [hn_]
  clear h hn_
  generalize ixI L x = r at *
  go_enter Try.func48, Try.ntmps48
  go_wp2_with fail
  go_loopw [8] (fun s8 wr => ∃ k : Nat, k ≤ n ∧ s8 = .int .i64 k ∧ Hid (∀ j (hj : j < L.length), j < k → L[j] ≠ x) ∧ Hid (wr = w)) (fun s8 _ => n - (intOf s8).toNat)
  case atStart => exact ⟨0, Nat.zero_le _, rfl, Lib.hid (fun j _ hj => by omega), Lib.hid rfl⟩
  case round =>
    obtain ⟨k, hk, rfl, HN, HWW⟩ := hrel
    obtain rfl := HWW.out
    by_cases hlt : k < n
    · have hlt' : (k : Int) < n := by omega
      have hk0 : (0 : Int) ≤ k := by omega
      have hkq : k < L.length := by have := HNN.out; omega
      obtain ⟨bb, off, c', e1, _, _, hbw, _, hcell⟩ := HV.out k hkq
      rw [HNN.out] at e1
      obtain ⟨rfl, rfl⟩ : Av = some ⟨bb, off, none⟩ ∧ cv = c' := by simpa using e1
      have q0 : wr.cell? ⟨bb, off + k, none⟩ = some (.int .i64 L[k]) := by have h9 := hcell k hkq 0 (by omega); rw [Nat.mul_one] at h9; exact h9
      have HN2 := Lib.hid (fun (h : L[k] ≠ x) j (hj : j < L.length) (hjk : j < k + 1) => (by
        rcases Nat.lt_or_ge j k with h1 | h1
        · exact HN.out j hj h1
        · obtain rfl : j = k := by omega
          exact h : L[j] ≠ x))
      have HY2 := Lib.hid (fun (h : L[k] = x) => HY.out k hkq h HN.out)
      generalize L[k] = g at *
      clear HV HY HM e1 hcell HN HNN
      by_cases hq : g = x
      · subst hq
        have hr := HY2.out rfl
        subst hr
        clear HY2 HN2
        go_wp2
        go_ret
        exact ⟨rfl, rfl⟩
      · have HN3 := Lib.hid (HN2.out hq)
        have hqq : (x == g) = false := by simp only [beq_eq_false_iff_ne, ne_eq]; exact fun e => hq e.symm
        clear HN2 HY2 hq
        go_wp2
        go_roundw
        case rel => exact ⟨k + 1, by omega, by go_num, HN3, by first | exact Lib.hid rfl | exact Lib.hid trivial⟩
        case measure => simp [intOf]; omega
    · obtain rfl : k = n := by omega
      have hr := HM.out fun j hj => HN.out j hj (by have := HNN.out; omega)
      subst hr
      clear HV HY HM HN HNN
      go_wp2
      go_ret
      exact ⟨rfl, rfl⟩
set_option maxHeartbeats 4000000 in
theorem contains_int {v : Value} {L : List Int} {w : World} (h : LsA csI 1 3 v L w) (hn : L.length ≤ 100000) (x : Int) : Calls Try.prog 38 #[v, .int .i64 x] w fun e w' => e = .returned (.bool (L.any (· == x))) ∧ w = w' := by
  have HI := Lib.hid (index_int h hn x)
  rw [← ix_ge]
  generalize ixI L x = i at *
  clear h hn
  go_enter Try.func38, Try.ntmps38
  go_wp2_with fail
  (with_reducible refine HI.out.mono ?_); rintro e w2 ⟨rfl, rfl⟩
  go_wp2
  go_ret
  exact ⟨rfl, rfl⟩
/-! ### Holds -/
theorem rcHo_is (s : RcS) (i : Int) : (rcHl s).any (· == i) = rcHo s.l i := by unfold rcHl rcHo; rw [List.any_map]; rfl
set_option maxHeartbeats 4000000 in
theorem prholds_any0 {R : Nat} {s : RcS} {T : Nat → Prop} {w : World} (h : RcP R s T w) (i : Int) : Calls Try.prog 19 #[.pointer (some ⟨R, 0, none⟩), .int .i64 i] w (Calm (.bool (rcHo s.l i)) w) := by
  have HH := Lib.hid (prhlg_any h)
  have hlen : (rcHl s).length ≤ 100000 := by unfold rcHl; rw [List.length_map]; have := h.iv.len; omega
  rw [← rcHo_is]
  have HC := Lib.hid (fun (W : World) (v : Value) (hv : LsA csI 1 3 v (rcHl s) W) => contains_int hv hlen i)
  clear h hlen
  generalize rcHl s = L at *
  generalize L.any (· == i) = r at *
  unfold GotLs at HH
  unfold Calm
  go_enter Try.func19, Try.ntmps19
  go_wp2_with fail
  (with_reducible refine HH.out.mono ?_); rintro e w2 ⟨v, rfl, hv, hb⟩
  have HK := Lib.hid (HC.out w2 v (hv.any fun b hb => hb.2))
  have HB := Lib.hid hb
  clear HH HC hv hb
  go_wp2_with fail
  (with_reducible refine HK.out.mono ?_); rintro e w3 ⟨rfl, rfl⟩
  go_wp2
  go_ret
  exact ⟨rfl, HB.out⟩
end Go.Proofs.Ythmncipenjhknaa

