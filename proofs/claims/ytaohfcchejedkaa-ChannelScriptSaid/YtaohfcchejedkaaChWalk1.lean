/-
  Layer 15: the walk of the statement on scripts (ChannelScript). Every input; no condition. Written by gen_chwalk1.py.
-/
import Derived.Test.YtaohfcchejedkaaChAwake
import Derived.Test.YtaohfcchejedkaaChObs
namespace Go.Proofs.Ytaohfcchejedkaa
open Go.ChangeShapes Go.WideShapes Go.ChangeAt Go.RowKit
set_option linter.unusedVariables false

/-- The reference's channel, the program's, the choices. -/
def ChE (base B : Nat) (a : Option Addr) (len cap R S : Nat) (q : Nat) (s t : Ch) : RP := Star (RcP S t) (Star (ChP R s) (GenP base B a len cap q))
section
variable {base B : Nat} {a : Option Addr} {len cap R S q : Nat} {s t : Ch} {w w0 w' : World}
theorem ChE.frm : Frm base (ChE base B a len cap R S q s t) := RcP.frm.star (ChP.frm.star GenP.frm)
theorem ChE.next (h : Inv base w0 (ChE base B a len cap R S q s t) w) {n : Int} (n0 : 1 ≤ n) (n1 : n ≤ 1000000000) (hq : q ≤ 1000000000) :
    Calls Try.prog 8 #[.pointer (some ⟨B, 0, none⟩), .int .i64 n] w fun e w' => ∃ r : Int, 0 ≤ r ∧ r < n ∧ e = .returned (.int .i64 r) ∧ Inv base w0 (ChE base B a len cap R S (q + 1) s t) w' :=
  (Inv.call h (Acts.right RcP.frm (Acts.right ChP.frm (GenP.next n0 n1 hq)))).mono fun e w' ⟨r, e1, h2⟩ => ⟨r.1, r.2.1, r.2.2, e1, h2⟩
theorem ChE.pann (h : Inv base w0 (ChE base B a len cap R S q s t) w) (g : Bool) : Calls Try.prog 15 #[.pointer (some ⟨R, 0, none⟩), .bool g] w fun e w' => e = .returned (.tuple #[]) ∧ Inv base w0 (ChE base B a len cap R S q (s.ann g) t) w' :=
  Inv.call1 h (Acts.right RcP.frm ((pann_any g).star GenP.frm))
theorem ChE.rann (h : Inv base w0 (ChE base B a len cap R S q s t) w) (g : Bool) : Calls Try.prog 16 #[.pointer (some ⟨S, 0, none⟩), .bool g] w fun e w' => e = .returned (.tuple #[]) ∧ Inv base w0 (ChE base B a len cap R S q s (t.ann g)) w' :=
  Inv.call1 h ((rcann_any g).star (ChP.frm.star GenP.frm))
theorem ChE.pobs (h : Inv base w0 (ChE base B a len cap R S q s t) w) (hn : s.l.length ≤ 99999) (g : Bool) : Calls Try.prog 17 #[.pointer (some ⟨R, 0, none⟩), .bool g] w fun e w' => e = .returned (.tuple #[]) ∧ Inv base w0 (ChE base B a len cap R S q (s.obs g) t) w' :=
  Inv.call1 h (Acts.right RcP.frm ((pobs_any hn g).star GenP.frm))
theorem ChE.robs (h : Inv base w0 (ChE base B a len cap R S q s t) w) (hn : t.l.length ≤ 99999) (g : Bool) : Calls Try.prog 18 #[.pointer (some ⟨S, 0, none⟩), .bool g] w fun e w' => e = .returned (.tuple #[]) ∧ Inv base w0 (ChE base B a len cap R S q s (t.obs g)) w' :=
  Inv.call1 h ((rcobs_any hn g).star (ChP.frm.star GenP.frm))
theorem ChE.pget (h : Inv base w0 (ChE base B a len cap R S q s t) w) : ∃ T, ChP R s T w := by
  obtain ⟨T, ⟨A, B, _, _, _, C, D, _, _, hp, _⟩, _⟩ := h; exact ⟨C, hp⟩
theorem ChE.rget (h : Inv base w0 (ChE base B a len cap R S q s t) w) : ∃ T, RcP S t T w := by
  obtain ⟨T, ⟨A, B, _, _, hp, _⟩, _⟩ := h; exact ⟨A, hp⟩
theorem ChE.calm {f : FuncId} {args : Array Value} {x : Value} (h : Inv base w0 (ChE base B a len cap R S q s t) w) (hc : Calls Try.prog f args w (Calm x w)) : Calls Try.prog f args w fun e w' => e = .returned x ∧ Inv base w0 (ChE base B a len cap R S q s t) w' :=
  hc.mono fun e w' ⟨e1, hb⟩ => ⟨e1, h.step ChE.frm hb⟩
theorem ChE.ppred (h : Inv base w0 (ChE base B a len cap R S q s t) w) (hn : s.l.length ≤ 100000) : Calls Try.prog 20 #[.pointer (some ⟨R, 0, none⟩)] w fun e w' => e = .returned (.bool (prB s)) ∧ Inv base w0 (ChE base B a len cap R S q s t) w' := by
  obtain ⟨T, hp⟩ := ChE.pget h
  exact ChE.calm h (ppred_any hn hp)
theorem ChE.rpred (h : Inv base w0 (ChE base B a len cap R S q s t) w) (hn : t.l.length ≤ 100000) : Calls Try.prog 21 #[.pointer (some ⟨S, 0, none⟩)] w fun e w' => e = .returned (.bool (prB t)) ∧ Inv base w0 (ChE base B a len cap R S q s t) w' := by
  obtain ⟨T, hp⟩ := ChE.rget h
  exact ChE.calm h ((rcpred_same hn hp).mono fun _ _ k => Calm.same k)
theorem ChE.score (h : Inv base w0 (ChE base B a len cap R S q s t) w) (hn : s.l.length ≤ 100000) : Calls Try.prog 19 #[.pointer (some ⟨R, 0, none⟩)] w fun e w' => e = .returned (.tuple #[.int .i64 s.l.length, .int .i64 s.ri]) ∧ Inv base w0 (ChE base B a len cap R S q s t) w' := by
  obtain ⟨T, hp⟩ := ChE.pget h
  exact ChE.calm h (pscore_any hn hp)
theorem ChE.phist (h : Inv base w0 (ChE base B a len cap R S q s t) w) (hn : s.l.length ≤ 100000) : Calls Try.prog 23 #[.pointer (some ⟨R, 0, none⟩)] w fun e w' => ∃ A c, e = .returned (.slice A s.hist.length c) ∧ SrAt csB 1 w' 0 w'.heap.size A s.hist ∧ Below w.heap.size w w' ∧ Inv base w0 (ChE base B a len cap R S q s t) w' := by
  obtain ⟨T, hp⟩ := ChE.pget h
  exact (phist_any hn hp).mono fun e w' ⟨A, c, e1, h1, hb⟩ => ⟨A, c, e1, h1, hb, h.step ChE.frm hb⟩
theorem ChE.rhist (h : Inv base w0 (ChE base B a len cap R S q s t) w) (hn : t.l.length ≤ 100000) : Calls Try.prog 24 #[.pointer (some ⟨S, 0, none⟩)] w fun e w' => ∃ A c, e = .returned (.slice A t.hist.length c) ∧ SrAt csB 1 w' 0 w'.heap.size A t.hist ∧ Below w.heap.size w w' ∧ Inv base w0 (ChE base B a len cap R S q s t) w' := by
  obtain ⟨T, hp⟩ := ChE.rget h
  exact (rchist_any hn hp).mono fun e w' ⟨A, c, e1, h1, hb⟩ => ⟨A, c, e1, h1, hb, h.step ChE.frm hb⟩
theorem ChE.cells (h : Inv base w0 (ChE base B a len cap R S q s t) w) : ∃ A c, w.cell? ⟨S, 3, none⟩ = some (.slice A t.l.length c) ∧ w.cell? ⟨S, 6, none⟩ = some (.int .i64 t.ri) := by
  obtain ⟨T, h0, h1, h2, vL, h3, h4⟩ := ChE.rget h
  obtain ⟨A, c, rfl, _⟩ := h4.shape
  have d3 := h3.read 3
  have d6 := h3.read 6
  simp [rcC] at d3 d6
  exact ⟨A, c, d3, d6⟩
theorem GenP.pred1 (h : Inv base w0 (GenP base B a len cap q) w) (hq : q ≤ 100000000) : Calls Try.prog 13 #[.pointer (some ⟨B, 0, none⟩)] w fun e w' => ∃ (p : Pd) (q' : Nat), pdB p = true ∧ q' ≤ q + 3 ∧ e = .returned (aggPd p) ∧ Inv base w0 (GenP base B a len cap q') w' :=
  (h.call (GenP.pred hq)).mono fun e w' ⟨x, e1, h2⟩ => ⟨x.1.1, x.1.2, x.2.1, x.2.2, e1, h2⟩
theorem hist_le (s : Ch) : s.hist.length ≤ 32 := by unfold Ch.hist lastN; rw [List.length_drop]; omega
end
set_option maxRecDepth 100000 in
set_option maxHeartbeats 8000000 in
theorem walkScript15 (A : Option Addr) (len cap : Nat) (w : World) (he : Elems w.heap.size A len w) :
    Calls Try.prog 4 #[.slice A len cap] w (Calm (.bool true) w) := by
  have h0 := GenP.new (w0 := w) (cap := cap) he (Below.refl _ _) he
  have HX := Lib.hid (GenP.pred1 h0 (by omega))
  have HAW := Lib.hid (fun w => awake15_any w)
  clear h0 he
  unfold Calm
  go_enter Try.func4, Try.ntmps4
  go_wp2_with fail
  (with_reducible refine (new_any A len cap _).mono ?_); rintro e w' ⟨rfl, rfl⟩
  go_wp2_with fail
  (with_reducible refine HX.out.mono ?_); rintro e w1 ⟨p, q, hp, hq, rfl, h1⟩
  obtain ⟨pk, pK, pN⟩ := p
  have h2 := h1.box GenP.frm 24 #[.int .i64 pk, .int .i64 pK, .int .i64 pN]
  have hX := h2.pnew (BoxP.frm.star GenP.frm) hp
  have HP := Lib.hid hp
  unfold aggPd at hX
  simp only at hX
  have HX := Lib.hid hX
  clear h1 h2 hX hp
  unfold aggPd
  go_wp2_with fail
  (with_reducible refine HX.out.mono ?_); rintro e w2 ⟨R, rfl, h1⟩
  have hbx := h1.drop.boxed
  have d0 := hbx.read 0
  have d1 := hbx.read 1
  have d2 := hbx.read 2
  simp at d0 d1 d2
  have hX := h1.emp.call ((rcnew_any HP.out).star (ChP.frm.star (BoxP.frm.star GenP.frm)))
  unfold aggPd at hX
  simp only at hX
  have HX := Lib.hid hX
  clear h1 hX hbx
  go_wp2_with fail
  (with_reducible refine HX.out.mono ?_); rintro e w3 ⟨S, rfl, h1⟩
  have HI := Lib.hid (show Inv w.heap.size w (ChE w.heap.size w.heap.size A len cap R S q (Ch.new ⟨pk, pK, pN⟩) (Ch.new ⟨pk, pK, pN⟩)) w3 from (h1.imp fun T => Star.pick3).drop)
  clear h1 HX d0 d1 d2
  go_wp2_with fail
  go_loopw [9] (fun s9 wr => ∃ (k q : Nat) (s : Ch), k ≤ 50 ∧ s9 = .int .i64 k ∧ q ≤ 3 + 2 * k ∧ Hid (s.l.length ≤ k) ∧ Hid (Inv w.heap.size w (ChE w.heap.size w.heap.size A len cap R S q s s) wr)) (fun s9 _ => 50 - (intOf s9).toNat)
  case atStart => exact ⟨0, q, Ch.new ⟨pk, pK, pN⟩, by omega, rfl, by omega, Lib.hid (Nat.le_refl _), HI⟩
  case round =>
    obtain ⟨k, q, s, hk, rfl, hq, HL, HI2⟩ := hrel
    clear HI
    by_cases hlt : k < 50
    · have hlt' : (k : Int) < 50 := by omega
      have HX := Lib.hid (ChE.next HI2.out (n := 3) (by omega) (by omega) (by omega))
      clear HI2
      go_wp2_with fail
      (with_reducible refine HX.out.mono ?_); rintro e w4 ⟨r, r0, r1, rfl, h1⟩
      have HX := Lib.hid (ChE.next h1 (n := 3) (by omega) (by omega) (by omega))
      clear h1
      go_wp2_with fail
      (with_reducible refine HX.out.mono ?_); rintro e w5 ⟨r2, r20, r21, rfl, h1⟩
      clear HX
      rcases (by omega : r2 = 0 ∨ 0 < r2) with rfl | hr2
      · have HX := Lib.hid (ChE.pann h1 (decide (0 < r)))
        clear h1
        go_wp2_with fail
        (with_reducible refine HX.out.mono ?_); rintro e w6 ⟨rfl, h1⟩
        have HX := Lib.hid (ChE.rann h1 (decide (0 < r)))
        clear h1
        go_wp2_with fail
        (with_reducible refine HX.out.mono ?_); rintro e w7 ⟨rfl, h1⟩
        have HL2 : Hid ((s.ann (decide (0 < r))).l.length ≤ k + 1) := Lib.hid (by have := HL.out; exact Nat.le_succ_of_le this)
        clear HL
        generalize s.ann (decide (0 < r)) = s' at *
        have hl2 : s'.l.length ≤ 51 := by have := HL2.out; omega
        have HX := Lib.hid (ChE.score h1 (by omega))
        clear h1
        go_wp2_with fail
        (with_reducible refine HX.out.mono ?_); rintro e w8 ⟨rfl, h1⟩
        have HX := Lib.hid (ChE.ppred h1 (by omega))
        clear h1
        go_wp2_with fail
        (with_reducible refine HX.out.mono ?_); rintro e w9 ⟨rfl, h1⟩
        have HX := Lib.hid (ChE.rpred h1 (by omega))
        clear h1
        go_wp2_with fail
        (with_reducible refine HX.out.mono ?_); rintro e w10 ⟨rfl, h1⟩
        have HX := Lib.hid (ChE.phist h1 (by omega))
        clear h1
        have hbb : (prB s' != prB s') = false := by simp
        go_wp2_with fail
        (with_reducible refine HX.out.mono ?_); rintro e w11 ⟨A1, c1, rfl, ha1, _, h1⟩
        have HX := Lib.hid (ChE.rhist h1 (by omega))
        have HA1 := Lib.hid ha1
        clear h1 ha1
        go_wp2_with fail
        (with_reducible refine HX.out.mono ?_); rintro e w12 ⟨A2, c2, rfl, ha2, hb2, h1⟩
        have hEQ := eqB_any A1 A2 c1 c2 s'.hist 0 w11.heap.size 0 w12.heap.size w12 hb2.size (Nat.le_refl _) (by have := hist_le s'; omega) (HA1.out.below hb2 (Nat.le_refl _)) ha2
        have HX := Lib.hid (ChE.calm h1 hEQ)
        clear h1 hEQ HA1 ha2 hb2
        go_wp2_with fail
        (with_reducible refine HX.out.mono ?_); rintro e w13 ⟨rfl, h1⟩
        obtain ⟨A3, c3, d3, d6⟩ := ChE.cells h1
        have HI3 := Lib.hid h1
        clear h1 HX
        go_wp2
        go_roundw
        case rel => exact ⟨k + 1, _, s', by omega, by go_num, by omega, HL2, HI3⟩
        case measure => simp [intOf]; omega
      · have HX := Lib.hid (ChE.pobs h1 (by have := HL.out; omega) (decide (0 < r)))
        clear h1
        have hr3 : ¬ r2 = 0 := by omega
        go_wp2_with fail
        (with_reducible refine HX.out.mono ?_); rintro e w6 ⟨rfl, h1⟩
        have HX := Lib.hid (ChE.robs h1 (by have := HL.out; omega) (decide (0 < r)))
        clear h1
        go_wp2_with fail
        (with_reducible refine HX.out.mono ?_); rintro e w7 ⟨rfl, h1⟩
        have HL2 : Hid ((s.obs (decide (0 < r))).l.length ≤ k + 1) := Lib.hid (by have := HL.out; simp only [Ch.obs, List.length_append, List.length_singleton]; omega)
        clear HL
        generalize s.obs (decide (0 < r)) = s' at *
        have hl2 : s'.l.length ≤ 51 := by have := HL2.out; omega
        have HX := Lib.hid (ChE.score h1 (by omega))
        clear h1
        go_wp2_with fail
        (with_reducible refine HX.out.mono ?_); rintro e w8 ⟨rfl, h1⟩
        have HX := Lib.hid (ChE.ppred h1 (by omega))
        clear h1
        go_wp2_with fail
        (with_reducible refine HX.out.mono ?_); rintro e w9 ⟨rfl, h1⟩
        have HX := Lib.hid (ChE.rpred h1 (by omega))
        clear h1
        go_wp2_with fail
        (with_reducible refine HX.out.mono ?_); rintro e w10 ⟨rfl, h1⟩
        have HX := Lib.hid (ChE.phist h1 (by omega))
        clear h1
        have hbb : (prB s' != prB s') = false := by simp
        go_wp2_with fail
        (with_reducible refine HX.out.mono ?_); rintro e w11 ⟨A1, c1, rfl, ha1, _, h1⟩
        have HX := Lib.hid (ChE.rhist h1 (by omega))
        have HA1 := Lib.hid ha1
        clear h1 ha1
        go_wp2_with fail
        (with_reducible refine HX.out.mono ?_); rintro e w12 ⟨A2, c2, rfl, ha2, hb2, h1⟩
        have hEQ := eqB_any A1 A2 c1 c2 s'.hist 0 w11.heap.size 0 w12.heap.size w12 hb2.size (Nat.le_refl _) (by have := hist_le s'; omega) (HA1.out.below hb2 (Nat.le_refl _)) ha2
        have HX := Lib.hid (ChE.calm h1 hEQ)
        clear h1 hEQ HA1 ha2 hb2
        go_wp2_with fail
        (with_reducible refine HX.out.mono ?_); rintro e w13 ⟨rfl, h1⟩
        obtain ⟨A3, c3, d3, d6⟩ := ChE.cells h1
        have HI3 := Lib.hid h1
        clear h1 HX
        go_wp2
        go_roundw
        case rel => exact ⟨k + 1, _, s', by omega, by go_num, by omega, HL2, HI3⟩
        case measure => simp [intOf]; omega
    · obtain rfl : k = 50 := by omega
      have HF := Lib.hid HI2.out.out
      clear HI2 HL
      go_wp2_with fail
      (with_reducible refine (HAW.out _).mono ?_); rintro e w4 ⟨rfl, hb⟩
      have HF2 := Lib.hid (HF.out.trans (hb.mono HF.out.size))
      clear hb HF
      go_wp2
      go_ret
      exact ⟨rfl, HF2.out⟩
end Go.Proofs.Ytaohfcchejedkaa

