/-
  Layer 13: contract of the program's subtract: the active flows' tags stored one by one, the remembered ones by a range over their map.
-/
import Derived.Test.YtkfhjpgapmfiaaaPsUpd
import Derived.Test.YtkfhjpgapmfiaaaTail
import Derived.LoopTactic
namespace Go.Proofs.Ytkfhjpgapmfiaaa
open Go.ChangeShapes Go.WideShapes Go.ChangeAt Go.RowKit
set_option linter.unusedVariables false

def Sf.sub (s : Sf) (b : Int) : Sf := { s with st := fun g => if s.on g = true then s.st g - b else s.st g, om := fun g => max (s.om g - b) 0, now := s.now - b, away := s.away + b }
theorem sub_tag {s : Sf} {g : Nat} {b : Int} (h : s.on g = true) : (s.sub b).tag g = subT b (s.tag g) := by unfold Sf.sub Sf.tag subT; simp only [if_pos h]
/-- Some of the active flows have their new tags: those of M. -/
def mixF (s t : Sf) (M : List Tg) : Int → Option Value := fun k => if (M.any fun y => decide (y.f = k)) = true then actF t k else actF s k
theorem mix_none (s t : Sf) : mixF s t [] = actF s := by funext k; simp [mixF]
theorem mix_next {s t : Sf} {L : List Tg} {i : Nat} (hi : i < L.length) {v : Value} (hv : actF t L[i].f = some v) : iset (mixF s t (L.take i)) L[i].f (some v) = mixF s t (L.take (i + 1)) := by
  funext k
  unfold mixF
  rw [List.take_succ_eq_append_getElem hi, List.any_append]
  by_cases e : k = L[i].f
  · subst e; rw [iset_at]; simp [hv]
  · rw [iset_ne _ _ e]
    have : ¬ L[i].f = k := fun h => e h.symm
    simp [this]
theorem mix_all {s t : Sf} {L : List Tg} (hL : RepL L s) (ho : t.on = s.on) : mixF s t L = actF t := by
  funext k
  unfold mixF
  split
  · rfl
  · rename_i h
    have hk : s.here k = false := by
      cases e : s.here k with
      | false => rfl
      | true =>
        obtain ⟨n, rfl, h1, h2⟩ := here_nat e
        obtain ⟨j, hj, ej⟩ := hL.place h1 h2
        exact absurd (List.any_eq_true.2 ⟨L[j], List.getElem_mem hj, by rw [ej]; simp [Sf.tag]⟩) h
    rw [act_no hk, act_no (by unfold Sf.here at hk ⊢; rw [ho]; exact hk)]
/-- A remembered tag made less, but not below 0. -/
def lowV (b : Int) : Value → Value
  | .int q x => .int q (max (x - b) 0)
  | v => v
/-- The remembered tags: those still to come are the old ones. -/
def lowF (b : Int) (G : Int → Option Value) (left : Int → Bool) : Int → Option Value := fun k => if left k = true then G k else (G k).map (lowV b)
theorem low_start (b : Int) (G : Int → Option Value) : lowF b G (fun k => (G k).isSome) = G := by
  funext k; unfold lowF
  split
  · rfl
  · rename_i h
    cases e : G k with
    | none => rfl
    | some v => simp [e] at h
theorem low_next {b : Int} {G : Int → Option Value} {left : Int → Bool} {k : Int} {v : Value} (h : G k = some v) : iset (lowF b G left) k (some (lowV b v)) = lowF b G (fun i => left i && decide (i ≠ k)) := by
  funext i
  by_cases e : i = k
  · subst e; rw [iset_at]; simp [lowF, h]
  · rw [iset_ne _ _ e]; simp [lowF, e]
theorem low_end {b : Int} {G : Int → Option Value} {left : Int → Bool} (h : ∀ k, left k = false) {s : Sf} (hb : 0 ≤ b) (hR : RemF s G) : RemF (s.sub b) (lowF b G left) := by
  intro n hn
  have h1 := hR n hn
  unfold lowF
  rw [if_neg (by simp [h])]
  show _ = Value.int .i64 (max (s.om n - b) 0)
  cases e : G n with
  | none =>
    rw [e] at h1
    simp only [Option.getD_none, Value.int.injEq, true_and] at h1
    simp only [Option.map_none, Option.getD_none, Value.int.injEq, true_and]; omega
  | some v =>
    rw [e] at h1
    simp only [Option.getD_some] at h1
    subst h1
    rfl
theorem MapR.left_eq {w : World} {b r cnt : Nat} {F : Int → Option Value} {left : Int → Bool} (h : MapR w b r F left cnt) : w.rangeLeft b r = cnt := by
  obtain ⟨es, clock, since, seen, c0, h1, _, h3, _, h5, _⟩ := h
  simp only [World.rangeLeft, h1, h3]; exact h5
/-- Who knows the list knows what subtract is asked to store. -/
theorem sub_facts {s : Sf} (hs : SfOk s) {b : Int} (h0 : 0 ≤ b) (hst : ∀ g, s.on g = true → b ≤ s.st g) :
    rbE (tgl s 32) b = 0 ∧ rbL (tgl s 32) b = (tgl s 32).map (subT b) ∧ ∀ i (hi : i < (tgl s 32).length), ∃ n : Nat, n < 32 ∧ (tgl s 32)[i].f = n ∧ actF (s.sub b) n = some (aggT (subT b (tgl s 32)[i])) := by
  have h := tgl_rep s
  obtain ⟨e1, e2⟩ := rb_0 (L := tgl s 32) (b := b) (h.valid hs.wt hs.st) h0 (fun i hi => by
    obtain ⟨g, g1, g2, g3⟩ := h.at_ hi
    rw [g3]; exact hst g g2)
  refine ⟨e1, e2, fun i hi => ?_⟩
  obtain ⟨g, g1, g2, g3⟩ := h.at_ hi
  refine ⟨g, g1, by rw [g3]; rfl, ?_⟩
  rw [act_yes g1 (show (s.sub b).on g = true from g2), sub_tag g2, g3]
set_option maxRecDepth 100000 in
set_option maxHeartbeats 8000000 in
theorem pssub_any {T : Nat → Prop} {R : Nat} {s : Sf} {w : World} (h : PsO T R s w) {b : Int} (h0 : 0 ≤ b) (hnb : b ≤ s.now) (hst : ∀ g, s.on g = true → b ≤ s.st g) (haw : s.away ≤ 1000000000000000000) (hok : SfOk (s.sub b)) :
    Calls Try.prog 39 #[.pointer (some ⟨R, 0, none⟩), .int .i64 b] w (PsAns T R (s.sub b) (.tuple #[]) w) := by
  have HT := pstags_any h
  have h' := h
  obtain ⟨hs, hT, hTR, a, o, hTa, hTo, hw⟩ := h
  obtain ⟨G, hG, hR⟩ := hw.rem
  obtain ⟨c0, c1, c2, c3, c4, _⟩ := hw.cells
  obtain ⟨e1, e2, e3⟩ := sub_facts hs h0 hst
  have hnow := hs.now
  have hom := hs.om
  have hbb : b ≤ 1099511627776 := by omega
  have haw0 := hs.away
  have hle := tgl_le s 32
  obtain ⟨L, hL⟩ : ∃ L, tgl s 32 = L := ⟨_, rfl⟩
  have hrep := tgl_rep s
  rw [hL] at HT e1 e2 e3 hle hrep
  unfold GotT at HT
  have HT := Lib.hid HT
  have HE3 := Lib.hid e3
  have HREP := Lib.hid hrep
  have HR := Lib.hid hR
  have HG := Lib.hid hG
  have HW := Lib.hid hw
  have HOK := Lib.hid hok
  have HTS := Lib.hid (And.intro hTR (And.intro hTa hTo))
  have HTL := Lib.hid hT
  have HB := Lib.hid (And.intro h0 (And.intro hbb hnb))
  have HOM := Lib.hid hom
  have HNOW := Lib.hid (And.intro hnow (And.intro haw haw0))
  have HRB := Lib.hid (fun (A : Option Addr) (c : Nat) (W : World) (B : Nat) (ha : SrAt csT 3 W B W.heap.size A L) => rebaseT_any A c L B _ b W (Nat.le_refl _) (by omega) ha)
  rw [e1, e2] at HRB
  have HTG := Lib.hid (fun (A : Option Addr) (W : World) (B i : Nat) (hi : i < L.length) (ha : SrAt csT 3 W B W.heap.size A (L.map (subT b))) => ha.tg (k := i) (by simpa using hi))
  simp only [List.getElem_map] at HTG
  unfold GotTE at HRB
  simp only [List.length_map] at HRB
  have HMX := Lib.hid (fun i (hi : i < L.length) (v : Value) (hv : actF (s.sub b) L[i].f = some v) => mix_next (s := s) hi hv)
  obtain ⟨N, hN⟩ : ∃ N, L.length = N := ⟨_, rfl⟩
  have HNL := Lib.hid hN
  rw [hN] at HT HRB hle
  have hRne : a ≠ R := hw.aR
  have hRno : o ≠ R := hw.oR
  have hao : a ≠ o := hw.ne
  have HNE := Lib.hid (And.intro hRne (And.intro hRno hao))
  have HLT := Lib.hid hw.lts
  have HBLK := Lib.hid hw.blk
  have HACT := Lib.hid hw.act
  clear e1 e2 e3 hnow hom haw haw0 hL hrep hR hG hw hok hTR hTa hTo hT h' hs h0 hnb hst hN c0 c1 c2 c3 c4 hRne hRno hao hbb
  go_enter Try.func39, Try.ntmps39
  go_wp2_with fail
  (with_reducible refine HT.out.mono ?_); rintro e w1 ⟨A1, d1, rfl, ha1, hb1⟩
  have HRB2 := Lib.hid (HRB.out A1 d1 w1 _ ha1)
  have HB1 := Lib.hid hb1
  clear HRB HT ha1 hb1
  go_wp2_with fail
  (with_reducible refine HRB2.out.mono ?_); rintro e w2 ⟨A2, d2, rfl, ha2, hb2⟩
  have HA2 := Lib.hid ha2
  have HB2 := Lib.hid (HB1.out.trans (hb2.mono HB1.out.size))
  have hz12 := HB1.out.size
  have hz2 := hb2.size
  have HZ := Lib.hid (And.intro hz12 hz2)
  have hM0 : Hid (MapI w2 a (mixF s (s.sub b) (L.take 0))) := Lib.hid (by rw [List.take_zero, mix_none]; exact HACT.out.keep (HB2.out.block _ HLT.out.2.1))
  have hBK0 : Hid (Whole w2 R 61 #[.int .i64 s.at_, .map (some a), .map (some o), .int .i64 s.now, .int .i64 s.away]) := Lib.hid (HBLK.out.later HB2.out)
  have hG0 : Hid (MapI w2 o G) := Lib.hid (HG.out.keep (HB2.out.block _ HLT.out.2.2))
  have hC0 : Hid (Chg T w2 w2) := Lib.hid (Chg.refl _ _)
  clear HRB2 ha2 hb2 hz12 hz2 HACT HG HBLK
  go_wp2_with fail
  go_loopw [19] (fun s19 wr => ∃ k : Nat, k ≤ N ∧ s19 = .int .i64 k ∧ Hid (MapI wr a (mixF s (s.sub b) (L.take k))) ∧ Hid (Whole wr R 61 #[.int .i64 s.at_, .map (some a), .map (some o), .int .i64 s.now, .int .i64 s.away]) ∧ Hid (MapI wr o G) ∧ Hid (Chg T w2 wr)) (fun s19 _ => N - (intOf s19).toNat)
  case atStart => exact ⟨0, Nat.zero_le _, rfl, hM0, hBK0, hG0, hC0⟩
  case round =>
    obtain ⟨k, hk, rfl, HM, HBK, HGW, HC⟩ := hrel
    by_cases hlt : k < N
    · have hkL : k < L.length := by have := HNL.out; omega
      obtain ⟨n, hn, en, eac⟩ := HE3.out k hkL
      obtain ⟨bb, off, rfl, hbl, hbw, q0, q1, q2⟩ := HTG.out A2 w2 _ k hkL HA2.out
      have hmx := HMX.out k hkL _ (by rw [en]; exact eac)
      rw [en] at hmx
      generalize L[k] = t at *
      obtain ⟨t0, t1, t2⟩ := t
      simp only at en
      subst en
      simp only [subT, aggT] at q0 q1 q2 hmx
      obtain ⟨y, hy⟩ : ∃ y, t2 - b = y := ⟨_, rfl⟩
      rw [hy] at q2 hmx
      have hbT : ¬ T bb := fun hh => by have := HTL.out bb hh; have := HZ.out.1; omega
      have p0 := (HC.out.cell hbw hbT (off + k * 3)).trans q0
      have p1 := (HC.out.cell hbw hbT (off + k * 3 + 1)).trans q1
      have p2 := (HC.out.cell hbw hbT (off + k * 3 + 2)).trans q2
      have hsz := HC.out.size
      have hb3 := (Below.refl wr.heap.size wr).alloc (Nat.le_refl _) (.cells #[.int .i64 n, .int .i64 t1, .int .i64 y] 52)
      have hbk3 := (HBK.out.later hb3)
      have u1 := hbk3.read 1
      simp at u1
      have hX := Whole.fresh wr 52 #[.int .i64 n, .int .i64 t1, .int .i64 y]
      have z0 := hX.read 0
      have z1 := hX.read 1
      have z2 := hX.read 2
      simp at z0 z1 z2
      have hM3 : MapI (wr.alloc (.cells #[.int .i64 n, .int .i64 t1, .int .i64 y] 52)).drew a _ := HM.out.keep (hb3.block _ HM.out.lt)
      obtain ⟨w4, hrun, hM4, hg4, hz4⟩ := hM3.store (P := Try.prog) (T := 58) (K := 3) (E := 52) Try.underlying58 Try.underlying3 (k := n) (by omega) (.agg #[.int .i64 n, .int .i64 t1, .int .i64 y])
      rw [hmx] at hM4
      have HM4 := Lib.hid hM4
      have HBK4 := Lib.hid (grown_blk (show Whole (wr.alloc (.cells #[.int .i64 n, .int .i64 t1, .int .i64 y] 52)).drew R _ _ from hbk3) hg4 HNE.out.1)
      have HG4 := Lib.hid ((show MapI (wr.alloc (.cells #[.int .i64 n, .int .i64 t1, .int .i64 y] 52)).drew o G from HGW.out.keep (hb3.block _ HGW.out.lt)).grown hg4 HNE.out.2.2)
      have HC4 := Lib.hid (((HC.out.alloc (.cells #[.int .i64 n, .int .i64 t1, .int .i64 y] 52)).drew).grownIn hg4 (.inl HTS.out.2.1))
      clear hmx eac q0 q1 q2 hy hbk3 hX hM3 hM4 hg4 hz4 hb3 HM HBK HGW HC hbT HE3 HMX HTG
      go_wp2_with fail
      refine region_tail 7 (by kernel_rfl) (by kernel_rfl) ?_
      simp only [List.take_succ_cons, List.take_zero, List.drop_succ_cons, List.drop_zero]
      repeat still_step
      refine wpStill_nil ?_
      go_wp2
      go_roundw
      case rel => exact ⟨k + 1, by omega, by go_num, HM4, HBK4, HG4, HC4⟩
      case measure => simp [intOf]; omega
    · obtain rfl : k = N := by omega
      have hm := HM.out
      rw [← HNL.out, List.take_length, mix_all (t := s.sub b) HREP.out rfl] at hm
      have HM := Lib.hid hm
      have u2 := HBK.out.read 2
      simp at u2
      obtain ⟨w3, cnt, hrun, hR3, hg3, hz3⟩ := HGW.out.range (P := Try.prog) (T := 59) (K := 3) (E := 2) Try.underlying59
      have keep3 : ∀ b, b < wr.heap.size → w3.heap[b]? = wr.heap[b]? := fun b hb => hg3.block b hb (by simp)
      have hr0 : Hid (∃ left cnt, MapR w3 o wr.heap.size (lowF b G left) left cnt) := Lib.hid ⟨_, cnt, by rw [low_start]; exact hR3⟩
      have hb0 : Hid (Whole w3 R 61 #[.int .i64 s.at_, .map (some a), .map (some o), .int .i64 s.now, .int .i64 s.away]) := Lib.hid (HBK.out.carry (keep3 R HBK.out.size_lt))
      have hm0 : Hid (MapI w3 a (actF (s.sub b))) := Lib.hid (hm.keep (keep3 a hm.lt))
      have hc0 : Hid (Chg T w2 w3) := Lib.hid (HC.out.grown hg3 (fun k e => by cases e))
      have hrw : Hid (w2.heap.size ≤ wr.heap.size) := Lib.hid HC.out.size
      obtain ⟨rr, hrr⟩ : ∃ rr, wr.heap.size = rr := ⟨_, rfl⟩
      rw [hrr] at hr0 hrun hrw
      clear hm HM HBK HGW HC hR3 hg3 hz3 keep3 hrr HE3 HMX HTG HREP HA2 HNL
      go_wp2_with fail
      go_loopw [8] (fun _ wx => Hid (∃ left cnt, MapR wx o rr (lowF b G left) left cnt) ∧ Hid (Whole wx R 61 #[.int .i64 s.at_, .map (some a), .map (some o), .int .i64 s.now, .int .i64 s.away]) ∧ Hid (MapI wx a (actF (s.sub b))) ∧ Hid (Chg T w2 wx)) (fun _ wx => wx.rangeLeft o rr)
      case atStart => exact ⟨hr0, hb0, hm0, hc0⟩
      case round =>
        obtain ⟨HRR, HBK, HM, HC⟩ := hrel
        obtain ⟨left, cnt2, hrr⟩ := HRR.out
        have hme := hrr.left_eq
        rcases hrr.next (P := Try.prog) 0 with ⟨_, hl0, hnx⟩ | ⟨k, v, w5, cnt3, hk, hlk, hnx, hR5, hlt5, hg5, hz5, hen⟩
        · have hrem := low_end (s := s) hl0 HB.out.1 HR.out
          have hn1 := HNOW.out
          have hb1 := HB.out
          have hbk := HBK.out
          have u3 := hbk.read 3
          have u4 := hbk.read 4
          simp at u3 u4
          have uf := hbk.free
          obtain ⟨nw, hnw⟩ : ∃ nw, s.now = nw := ⟨_, rfl⟩
          obtain ⟨aw, haw⟩ : ∃ aw, s.away = aw := ⟨_, rfl⟩
          have e1 : IntKind.i64.wrap (nw - b) = nw - b := IntWalk.i64_in _ (by omega)
          have e2 : IntKind.i64.wrap (aw + b) = aw + b := IntWalk.i64_in _ (by omega)
          have hblk := (hbk.put 3 (.int .i64 (s.now - b))).put 4 (.int .i64 (s.away + b))
          have kk : ∀ b', b' ≠ R → ((wr.setCell ⟨R, 3, none⟩ (.int .i64 (s.now - b))).setCell ⟨R, 4, none⟩ (.int .i64 (s.away + b))).heap[b']? = wr.heap[b']? := fun b' hb' => (Below.heap_setCell _ ⟨R, 4, none⟩ _ b' hb').trans (Below.heap_setCell _ ⟨R, 3, none⟩ _ b' hb')
          have hw5 : PsW ((wr.setCell ⟨R, 3, none⟩ (.int .i64 (s.now - b))).setCell ⟨R, 4, none⟩ (.int .i64 (s.away + b))) R a o (s.sub b) :=
            ⟨hblk, HM.out.keep (kk a HNE.out.1), ⟨_, hrr.map.keep (kk o HNE.out.2.1), hrem⟩, HNE.out.2.2⟩
          have hc5 : Chg T w ((wr.setCell ⟨R, 3, none⟩ (.int .i64 (s.now - b))).setCell ⟨R, 4, none⟩ (.int .i64 (s.away + b))) := (((Chg.of_below HB2.out).trans HC.out).setCell HTS.out.1 3 _).setCell HTS.out.1 4 _
          have HF := Lib.hid (PsAns.mk (x := .tuple #[]) (e := .returned (.tuple #[])) rfl HOK.out hw5 HTS.out.1 (.inl HTS.out.2.1) (.inl HTS.out.2.2) hc5)
          rw [hnw] at u3 HF
          rw [haw] at u4 HF
          clear hrem hn1 hbk hnw haw hblk kk hw5 hc5 hrr hl0 HRR HBK HM HC hme hb1
          go_wp2
          go_end0
          exact HF.out
        · have hkg : G k = some v := by unfold lowF at hk; rw [if_pos hlk] at hk; exact hk
          have hin := hrr.map.inn (k := k) (by rw [hk]; simp)
          obtain ⟨n, rfl⟩ := Int.eq_ofNat_of_zero_le hin.1
          have hn : n < 32 := by omega
          have hvn := HR.out n hn
          rw [hkg] at hvn
          simp only [Option.getD_some] at hvn
          subst hvn
          have hxb := HOM.out n
          have hb1 := HB.out
          obtain ⟨x, hx⟩ : ∃ x, s.om n = x := ⟨_, rfl⟩
          rw [hx] at hkg hk hnx hen hxb
          obtain ⟨w6, hrun6, hR6, hg6, hz6⟩ := hR5.store (P := Try.prog) (T := 59) (K := 3) (E := 2) Try.underlying59 Try.underlying3 (k := n) (by rw [hk]; simp) (.int .i64 (max (x - b) 0))
          rw [show (Value.int .i64 (max (x - b) 0)) = lowV b (.int .i64 x) from rfl, low_next hkg] at hR6
          have hro := hrr.ne
          have hbk5 := HBK.out.carry (hg5.block R HBK.out.size_lt (by have := hrr.lt; intro e; simp at e; have h9 := HBK.out; rw [e] at h9; obtain ⟨_, _, _, _, _, _, _, h3, _⟩ := hrr; have h10 : wr.heap[rr]? = _ := h9; rw [h3] at h10; cases h10))
          have hbk6 := grown_blk hbk5 hg6 HNE.out.2.1
          have hra : rr ≠ a := fun e => by
            obtain ⟨_, _, h3⟩ := HM.out.type
            obtain ⟨_, _, _, _, _, _, _, h4, _⟩ := hrr
            rw [e, h3] at h4; cases h4
          have hm6 := (HM.out.grown hg5 hra).grown hg6 HNE.out.2.2.symm
          have hc6 := (HC.out.grownIn hg5 (.inr hrw.out)).grownIn hg6 (.inl HTS.out.2.2)
          have hme2 := hR6.left_eq
          have hmm : w6.rangeLeft o rr < wr.rangeLeft o rr := by rw [hme, hme2]; exact hlt5
          have HR6 := Lib.hid (show ∃ left cnt, MapR w6 o rr (lowF b G left) left cnt from ⟨_, _, hR6⟩)
          have HBK6 := Lib.hid hbk6
          have HM6 := Lib.hid hm6
          have HC6 := Lib.hid hc6
          have u2 := hbk5.read 2
          simp at u2
          have e1 : IntKind.i64.wrap (x - b) = x - b := IntWalk.i64_in _ (by omega)
          have HMM := Lib.hid hmm
          clear hkg hk hx hxb hb1 hR6 hbk6 hm6 hc6 hme hme2 hmm hrr hlk hR5 hlt5 hg5 hz5 hg6 hz6 hbk5 hro hra hin HRR HBK HM HC
          go_wp2
          go_roundw
          case rel => exact ⟨HR6, HBK6, HM6, HC6⟩
          case measure => exact HMM.out
end Go.Proofs.Ytkfhjpgapmfiaaa

