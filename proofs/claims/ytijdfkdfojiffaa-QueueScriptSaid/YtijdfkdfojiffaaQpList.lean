/-
  Layer 11: contracts of the program's Packets, Clear, Expire, Push and Pop in one.
-/
import Derived.Test.YtijdfkdfojiffaaQpPush
namespace Go.Proofs.Ytijdfkdfojiffaa
open Go.ChangeShapes Go.WideShapes Go.ChangeAt Go.RowKit
set_option linter.unusedVariables false

theorem qpush_any {C : Nat} {b : Qb} {q : Qu} {w : World} (h : QO C b q w) (p : Pk) :
    Calls Try.prog 23 #[.pointer (some ⟨b.H, 0, none⟩), aggP p] w (QAns C b (puT q p) (.int .i64 (puE q p)) w) := by
  cases hv : pkOk p
  · rw [(pu_1 hv).1, (pu_1 hv).2]; exact qpush_bad h hv
  by_cases hm : q.mp < q.L.length + 1
  · rw [(pu_4 hv (.inl hm)).1, (pu_4 hv (.inl hm)).2]; exact qpush_many h hv hm
  exact qpush_rest h hv hm
theorem qpop_any {C : Nat} {b : Qb} {q : Qu} {w : World} (h : QO C b q w) :
    Calls Try.prog 25 #[.pointer (some ⟨b.H, 0, none⟩)] w (QAns C b (qpT q) (.tuple #[aggP (qpV q), .int .i64 (qpE q)]) w) := by
  cases hL : q.L with
  | nil =>
    have e1 : qpT q = q := by unfold qpT; rw [hL]; obtain ⟨a, b, c⟩ := q; simp only at hL; subst hL; rfl
    have e2 : qpV q = pk0 := by unfold qpV; rw [hL]; rfl
    have e3 : qpE q = 5 := by unfold qpE; rw [if_pos hL]
    rw [e1, e2, e3]; exact qpop_no h hL
  | cons p T =>
    have e2 : qpV q = p := by unfold qpV; rw [hL]; rfl
    have e3 : qpE q = 0 := by unfold qpE; rw [if_neg (by rw [hL]; simp)]
    rw [e2, e3]; exact qpop_yes h hL
/-- A list of packets in a row of the call's own. -/
def GotP (L : List Pk) (w : World) (e : Ending) (w' : World) : Prop :=
  ∃ A c, e = .returned (.slice A L.length c) ∧ w'.ownsRow w.heap.size 40 5 (.slice A L.length c) L.length (srs csP L) ∧ Below w.heap.size w w'
set_option maxRecDepth 100000 in
set_option maxHeartbeats 2000000 in
theorem qpackets_any {C : Nat} {b : Qb} {q : Qu} {w : World} (h : QO C b q w) :
    Calls Try.prog 16 #[.pointer (some ⟨b.H, 0, none⟩)] w (GotP q.L w) := by
  obtain ⟨h0, M, P, h1, h2⟩ := h
  obtain ⟨_, _, c2, c3, _⟩ := h1.cells
  have hn := h2.len
  have hf := h0.few
  have hGlt := (h1.lt b.G (.inr (.inl rfl))).2
  have hHlt := (h1.lt b.H (.inl rfl)).2
  have HK := Lib.hid (fun k (hk : k < P.length) => (show P[k] < 64 from h2.lt _ (List.getElem_mem hk)))
  have HC := Lib.hid (fun p (hp : p < 64) => h1.pk hp)
  have HA := Lib.hid (fun i (hi : i < P.length) (hi2 : i < q.L.length) => (show M.getD P[i] pk0 = q.L[i] from h2.at_ hi))
  have HI := Lib.hid (rgitems_any h1.ring)
  have HN := Lib.hid hn
  clear h0 h1 h2
  unfold GotP
  generalize q.L = L at *
  rw [← hn]
  clear hn
  go_enter Try.func16, Try.ntmps16
  go_wp2_with fail
  (with_reducible refine HI.out.mono ?_); intro e w1 hx
  obtain ⟨A, c, rfl, ⟨rfl, rfl, hrow⟩, _, hb1⟩ := hx
  have HR1 := Lib.hid hrow
  have HB1 := Lib.hid hb1
  have C2 := Lib.hid c2
  have hIl := hrow.lt
  have hl64 : P.length ≤ 64 := by have := HN.out; omega
  clear hrow hb1 c2 c3 HI
  go_wp2_with fail
  go_loopw [3, 12] (fun s3 s12 wr => ∃ (k : Nat) (A' : Option Addr) (c' : Nat), k ≤ P.length ∧ s12 = .int .i64 k ∧ s3 = .slice A' k c' ∧ Hid (wr.ownsRow w1.heap.size 40 5 (.slice A' k c') k (srs csP (L.take k))) ∧ Hid (Below w1.heap.size w1 wr)) (fun s3 s12 _ => P.length - (intOf s12).toNat)
  case atStart => exact ⟨0, none, 0, Nat.zero_le _, rfl, rfl, Lib.hid (by simpa [srs] using World.ownsRow_nil w1 w1.heap.size 40 5), Lib.hid (Below.refl _ _)⟩
  case round =>
    obtain ⟨k, A', c', hk, rfl, rfl, HR, HW⟩ := hrel
    by_cases hlt : k < P.length
    · have hkL : k < L.length := by have := HN.out; omega
      have hws := HW.out.size
      have hb := HB1.out.trans (HW.out.mono HB1.out.size)
      have hp64 := HK.out k hlt
      obtain ⟨e0, e1, e2, e3, e4⟩ := HC.out _ hp64
      have ha := HA.out k hlt hkL
      have ht := srs_snoc (cs := csP) (L.take k) L[k]
      rw [← List.take_succ_eq_append_getElem hkL] at ht
      have ci : wr.cell? ⟨w.heap.size, k, none⟩ = some (.int .i64 ((P[k] : Nat) : Int)) := by
        have : plN P k = ((P[k] : Nat) : Int) := by unfold plN; rw [List.getD_eq_getElem?_getD, List.getElem?_eq_getElem hlt]; rfl
        rw [← this]
        exact (HW.out.cell (p := ⟨w.heap.size, k, none⟩) hIl).trans (HR1.out.cell hlt)
      rw [ha] at e0 e1 e2 e3 e4
      generalize P[k] = pp at *
      have hp64' : (pp : Int) < 64 := by omega
      obtain ⟨q', hq⟩ : ∃ q', L[k] = q' := ⟨_, rfl⟩
      rw [hq] at e0 e1 e2 e3 e4 ht
      obtain ⟨q0, q1, q2, q3, q4⟩ := q'
      have d0 : wr.cell? ⟨b.G, pp * 5, none⟩ = some (.int .i64 q0) := (hb.cell (p := ⟨b.G, pp * 5, none⟩) hGlt).trans e0
      have d1 : wr.cell? ⟨b.G, pp * 5 + 1, none⟩ = some (.int .i64 q1) := (hb.cell (p := ⟨b.G, pp * 5 + 1, none⟩) hGlt).trans e1
      have d2 : wr.cell? ⟨b.G, pp * 5 + 2, none⟩ = some (.int .i64 q2) := (hb.cell (p := ⟨b.G, pp * 5 + 2, none⟩) hGlt).trans e2
      have d3 : wr.cell? ⟨b.G, pp * 5 + 3, none⟩ = some (.int .i64 q3) := (hb.cell (p := ⟨b.G, pp * 5 + 3, none⟩) hGlt).trans e3
      have d4 : wr.cell? ⟨b.G, pp * 5 + 4, none⟩ = some (.int .i64 q4) := (hb.cell (p := ⟨b.G, pp * 5 + 4, none⟩) hGlt).trans e4
      have c2 : wr.cell? ⟨b.H, 2, none⟩ = some (.slice (some ⟨b.G, 0, none⟩) 64 64) := (hb.cell (p := ⟨b.H, 2, none⟩) hHlt).trans C2.out
      have HT2 := Lib.hid ht
      have HW2 := Lib.hid (HW.out.alloc hws (.cells #[.int .i64 q0, .int .i64 q1, .int .i64 q2, .int .i64 q3, .int .i64 q4] 40))
      have HR2 := Lib.hid (HR.out.alloc (.cells #[.int .i64 q0, .int .i64 q1, .int .i64 q2, .int .i64 q3, .int .i64 q4] 40))
      have HCL := Lib.hid (newCells wr (csP ⟨q0, q1, q2, q3, q4⟩) 40)
      clear e0 e1 e2 e3 e4 HC HA HK hq HR ht ha hb hp64
      go_wp2_with (at_builtin; go_loud (refine wpList_append_one rfl (.tmp 16) (.tmp 24) 35 rfl Try.underlying35 info_pk rfl (by decide) HR2.out rfl ⟨wr.heap.size, 0, none⟩ rfl (csP_len ⟨q0, q1, q2, q3, q4⟩) HCL.out (csP_one _) (by omega) (by decide) (by simp; omega) ?_); intro v2 w3 he2 hg2 hb2; obtain ⟨A2, c2', rfl⟩ := ow_shape he2; have HE2 := Lib.hid he2; have HG2 := Lib.hid hg2; clear he2 hg2 hb2)
      rw [← HT2.out] at HE2
      have HW4 := Lib.hid (below_grew HW2.out (Nat.le_refl _) HG2.out (fun k e => (World.ownsRow.lt HR2.out k e).1))
      go_roundw
      case rel => exact ⟨k + 1, A2, c2', by omega, by go_num, rfl, HE2, HW4⟩
      case measure => simp [intOf]; omega
    · obtain rfl : k = P.length := by omega
      have hx := HR.out
      rw [HN.out, List.take_length] at hx
      have HF := Lib.hid (show ∃ A c, Ending.returned (.slice A' P.length c') = .returned (.slice A P.length c) ∧ wr.ownsRow w.heap.size 40 5 (.slice A P.length c) P.length (srs csP L) ∧ Below w.heap.size w wr from ⟨_, _, rfl, by rw [HN.out]; exact oww hx HB1.out.size, HB1.out.trans (HW.out.mono HB1.out.size)⟩)
      clear hx HR HW
      go_wp2
      go_ret
      exact HF.out
theorem row_chg {b : Qb} {w0 w w' : World} {t : TypeId} {s n : Nat} {v : Value} {xs : List Value} {base : Nat} (h : w.ownsRow base t s v n xs) (hf : ∀ k, qfoot b k → k < base) (hc : Chg (qfoot b) w w') : w'.ownsRow base t s v n xs :=
  row_keep h fun g h1 h2 => hc.block g h2 (fun e => by have := hf g e; omega)
theorem drop_pop {q : Qu} {k : Nat} (hk : k < q.L.length) : qpT ⟨q.mp, q.mb, q.L.drop k⟩ = ⟨q.mp, q.mb, q.L.drop (k + 1)⟩ := by
  unfold qpT; simp
set_option maxRecDepth 100000 in
set_option maxHeartbeats 2000000 in
theorem qclear_any {C : Nat} {b : Qb} {q : Qu} {w : World} (h : QO C b q w) :
    Calls Try.prog 32 #[.pointer (some ⟨b.H, 0, none⟩)] w (QGot C b (clT q) q.L w) := by
  have hf := h.1.few
  have HP := Lib.hid (qpackets_any h)
  unfold GotP at HP
  have hlt0 := h.lt
  have HO := Lib.hid (fun w' (hb : Below w.heap.size w w') => h.below hb)
  have HT := Lib.hid (fun k (hk : k < q.L.length) => drop_pop hk)
  have HFT : Hid (∀ k, qfoot b k → k < w.heap.size) := Lib.hid (fun k e => (hlt0 k e).2)
  have HZ := Lib.hid (show (⟨q.mp, q.mb, q.L.drop q.L.length⟩ : Qu) = clT q by simp [clT])
  have hlen : ∃ n, q.L.length = n := ⟨_, rfl⟩
  obtain ⟨n, hn⟩ := hlen
  rw [hn] at HP HT HZ hf
  have HN := Lib.hid hn
  clear h hlt0 hn
  go_enter Try.func32, Try.ntmps32
  go_wp2_with fail
  (with_reducible refine HP.out.mono ?_); intro e w1 hx
  obtain ⟨A, c, rfl, hr1, hb1⟩ := hx
  have HR1 := Lib.hid hr1
  have HB1 := Lib.hid hb1
  clear hr1 hb1 HP
  go_wp2_with fail
  go_loopw [8] (fun s8 wr => ∃ (k : Nat), k ≤ n ∧ s8 = .int .i64 k ∧ Hid (QO C b ⟨q.mp, q.mb, q.L.drop k⟩ wr) ∧ Hid (Chg (qfoot b) w wr) ∧ Hid (wr.ownsRow w.heap.size 40 5 (.slice A n c) n (srs csP q.L))) (fun s8 _ => n - (intOf s8).toNat)
  case atStart => exact ⟨0, Nat.zero_le _, rfl, Lib.hid (by rw [List.drop_zero]; exact HO.out _ HB1.out), Lib.hid (Chg.of_below HB1.out), HR1⟩
  case round =>
    obtain ⟨k, hk, rfl, HQ, HC, HR⟩ := hrel
    by_cases hlt : k < n
    · have hx := qpop_any HQ.out
      rw [HT.out k hlt] at hx
      have HX := Lib.hid hx
      clear hx HQ
      go_wp2_with fail
      (with_reducible refine HX.out.mono ?_); intro e w2 hx
      obtain ⟨rfl, hq, hc⟩ := hx
      have HQ2 := Lib.hid hq
      have HC2 := Lib.hid (HC.out.trans hc)
      have HR2 := Lib.hid (row_chg (w0 := w) HR.out HFT.out hc)
      clear hq hc HX
      go_wp2
      go_roundw
      case rel => exact ⟨k + 1, by omega, by go_num, HQ2, HC2, HR2⟩
      case measure => simp [intOf]; omega
    · obtain rfl : k = n := by omega
      have hq := HQ.out
      rw [HZ.out] at hq
      have HF := Lib.hid (show QGot C b (clT q) q.L w (.returned (.slice A k c)) wr from ⟨A, c, by rw [HN.out], ⟨hq, HC.out⟩, SrAt.own csP_len HR.out HN.out.symm⟩)
      clear hq HQ HR HC
      go_wp2
      go_ret
      exact HF.out
end Go.Proofs.Ytijdfkdfojiffaa

