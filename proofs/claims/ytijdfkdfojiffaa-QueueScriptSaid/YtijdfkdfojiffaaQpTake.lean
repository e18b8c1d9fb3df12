/-
  Layer 11: contracts of the program's take, Pop, New.
-/
import Derived.Test.YtijdfkdfojiffaaQpRead
namespace Go.Proofs.Ytijdfkdfojiffaa
open Go.ChangeShapes Go.WideShapes Go.ChangeAt Go.RowKit
set_option linter.unusedVariables false

theorem putP_chgNew {S : Nat → Prop} {a w : World} {g o : Nat} {p : Pk} (h : Chg S a w) (hg : a.heap.size ≤ g) : Chg S a (putP w g o p) :=
  ((((h.setNew hg _ _).setNew hg _ _).setNew hg _ _).setNew hg _ _).setNew hg _ _
theorem QW.putNew {w : World} {C : Nat} {b : Qb} {mp mb : Int} {M : List Pk} {P : List Nat} (h : QW w C b mp mb M P) {g : Nat} (hg : ¬ qfoot b g) (o : Nat) (p : Pk) : QW (putP w g o p) C b mp mb M P :=
  h.keep fun k hk => putP_far (fun e => hg (by rw [← e]; exact hk))
/-- What take leaves. -/
def TakeAns (C : Nat) (b : Qb) (mp mb : Int) (M : List Pk) (P : List Nat) (k : Nat) (w : World) (e : Ending) (w' : World) : Prop :=
  e = .returned (aggP (M.getD k pk0)) ∧ QW w' C b mp mb (M.set k pk0) P ∧ Chg (qfoot b) w w'
theorem take_end {w : World} {C : Nat} {b : Qb} {mp mb : Int} {M : List Pk} {P : List Nat} (h : QW w C b mp mb M P) {k : Nat} (hk : k < 64) (o1 o2 : Obj) :
    QW (((putP w b.G (k * 5) pk0).alloc o1).alloc o2) C b mp mb (M.set k pk0) P ∧ Chg (qfoot b) w (((putP w b.G (k * 5) pk0).alloc o1).alloc o2) := by
  have hb := ((Below.refl (putP w b.G (k * 5) pk0).heap.size (putP w b.G (k * 5) pk0)).alloc (Nat.le_refl _) o1).alloc (by simp) o2
  exact ⟨(h.put hk pk0).below hb, (putP_chg (Chg.refl _ w) (.inr (.inl rfl))).trans (Chg.of_below hb)⟩
set_option maxRecDepth 100000 in
set_option maxHeartbeats 1000000 in
theorem qtake_any {w : World} {C : Nat} {b : Qb} {mp mb : Int} {M : List Pk} {P : List Nat} (h : QW w C b mp mb M P) {k : Nat} (hk : k < 64) :
    Calls Try.prog 41 #[.pointer (some ⟨b.H, 0, none⟩), .int .i64 k] w (TakeAns C b mp mb M P k w) := by
  obtain ⟨_, _, c2, _, _⟩ := h.cells
  obtain ⟨e0, e1, e2, e3, e4⟩ := h.pk hk
  have hG := (h.lt b.G (.inr (.inl rfl))).2
  have hH := (h.lt b.H (.inl rfl)).2
  have hGH := h.apart.1.symm
  have hk' : (k : Int) < 64 := by omega
  have f0 := h.row.free (k * 5)
  have f1 := h.row.free (k * 5 + 1)
  have f2 := h.row.free (k * 5 + 2)
  have f3 := h.row.free (k * 5 + 3)
  have f4 := h.row.free (k * 5 + 4)
  have HF := Lib.hid (take_end h hk (.cells #[.int .i64 (M.getD k pk0).i, .int .i64 (M.getD k pk0).f, .int .i64 (M.getD k pk0).l, .int .i64 (M.getD k pk0).a, .int .i64 (M.getD k pk0).d] 40) (.cells #[.int .i64 (M.getD k pk0).i, .int .i64 (M.getD k pk0).f, .int .i64 (M.getD k pk0).l, .int .i64 (M.getD k pk0).a, .int .i64 (M.getD k pk0).d] 40))
  unfold TakeAns aggP
  clear h hk
  generalize M.getD k pk0 = q at *
  obtain ⟨q0, q1, q2, q3, q4⟩ := q
  simp only at e0 e1 e2 e3 e4 HF ⊢
  go_enter Try.func41, Try.ntmps41
  go_wp2
  exact bodyPost_ret (v := .agg #[.int .i64 q0, .int .i64 q1, .int .i64 q2, .int .i64 q3, .int .i64 q4]) (by simp [results, Try.results41, go_sem]) rfl ⟨rfl, HF.out⟩
set_option maxRecDepth 100000 in
theorem qpop_no {C : Nat} {b : Qb} {q : Qu} {w : World} (h : QO C b q w) (hn : q.L = []) :
    Calls Try.prog 25 #[.pointer (some ⟨b.H, 0, none⟩)] w (QAns C b q (.tuple #[aggP pk0, .int .i64 5]) w) := by
  have hb1 := (Below.refl w.heap.size w).alloc (Nat.le_refl _) (.cells #[.int .i64 0, .int .i64 0, .int .i64 0, .int .i64 0, .int .i64 0] 40)
  have HW := Lib.hid (Whole.fresh w 40 #[.int .i64 0, .int .i64 0, .int .i64 0, .int .i64 0, .int .i64 0])
  obtain ⟨h0, M, P, h1, h2⟩ := h.below hb1
  have hg := h.lt
  rw [hn] at h2
  obtain rfl := h2.none_
  obtain ⟨_, _, _, c3, _⟩ := h1.cells
  have HR := Lib.hid (rgpop_none h1.ring)
  have HX := Lib.hid (fun w' (e : Ending) (ha : RgAns C b.R b.N 64 0 (plN []) (.tuple #[.int .i64 0, .int .i64 5]) (w.alloc (.cells #[.int .i64 0, .int .i64 0, .int .i64 0, .int .i64 0, .int .i64 0] 40)) e w') => h1.rung (P' := []) ha rfl (fun i hi => by omega))
  have HF := Lib.hid (fun w' (hx : QW w' C b q.mp q.mb M [] ∧ Chg (qfoot b) (w.alloc (.cells #[.int .i64 0, .int .i64 0, .int .i64 0, .int .i64 0, .int .i64 0] 40)) w') => (show QAns C b q (.tuple #[aggP pk0, .int .i64 5]) w (.returned (.tuple #[aggP pk0, .int .i64 5])) (putP w' w.heap.size 0 pk0) from
    ⟨rfl, ⟨h0, M, [], hx.1.putNew (fun e => by have := (hg _ e).2; omega) 0 pk0, by rw [hn]; exact h2⟩, putP_chgNew ((Chg.of_below hb1).trans hx.2) (Nat.le_refl _)⟩))
  have hfr : ¬ qfoot b w.heap.size := fun e => by have := (hg _ e).2; omega
  have HN := Lib.hid hfr
  clear h h0 h1 h2 hn hb1 hg hfr
  go_enter Try.func25, Try.ntmps25
  go_wp2_with fail
  (with_reducible refine HR.out.mono ?_); intro e w' ha
  have HY := Lib.hid (HX.out w' e ha)
  obtain ⟨rfl, _⟩ := ha
  have hw := HY.out.2.whole HW.out HN.out
  obtain ⟨y0, y1, y2, y3, y4⟩ := (⟨hw.read 0, hw.read 1, hw.read 2, hw.read 3, hw.read 4⟩ : _ ∧ _ ∧ _ ∧ _ ∧ _)
  have z0 := hw.free 0
  have z1 := hw.free 1
  have z2 := hw.free 2
  have z3 := hw.free 3
  have z4 := hw.free 4
  simp at y0 y1 y2 y3 y4
  have HG := Lib.hid (HF.out w' HY.out)
  clear hw c3
  go_wp2
  exact bodyPost_ret (v := .tuple #[.agg #[.int .i64 0, .int .i64 0, .int .i64 0, .int .i64 0, .int .i64 0], .int .i64 5]) (by simp [results, Try.results25, go_sem, y0, y1, y2, y3, y4]) rfl HG.out
theorem Pl.tail_ok {q : Qu} {p : Pk} {T : List Pk} {M : List Pk} {k : Nat} {P : List Nat} (h0 : QuOk q) (hn : q.L = p :: T) (h : Pl M (k :: P) (p :: T)) : QuOk (qpT q) ∧ Pl (M.set k pk0) P (qpT q).L := by
  refine ⟨h0.pop, ?_⟩
  have e : (qpT q).L = T := by unfold qpT; rw [hn]; rfl
  rw [e]; exact h.take_
set_option maxRecDepth 100000 in
set_option maxHeartbeats 1000000 in
theorem qpop_yes {C : Nat} {b : Qb} {q : Qu} {w : World} (h : QO C b q w) {p : Pk} {T : List Pk} (hn : q.L = p :: T) :
    Calls Try.prog 25 #[.pointer (some ⟨b.H, 0, none⟩)] w (QAns C b (qpT q) (.tuple #[aggP p, .int .i64 0]) w) := by
  have hb1 := (Below.refl w.heap.size w).alloc (Nat.le_refl _) (.cells #[.int .i64 0, .int .i64 0, .int .i64 0, .int .i64 0, .int .i64 0] 40)
  have HW := Lib.hid (Whole.fresh w 40 #[.int .i64 0, .int .i64 0, .int .i64 0, .int .i64 0, .int .i64 0])
  obtain ⟨h0, M, P, h1, h2⟩ := h.below hb1
  have hg := h.lt
  rw [hn] at h2
  obtain ⟨k, P, rfl, hk, ek⟩ := h2.cons
  obtain ⟨_, _, _, c3, _⟩ := h1.cells
  have HR := rgpop_ok h1.ring
  rw [plN_head] at HR
  have HR := Lib.hid HR
  have HX := Lib.hid (fun w' (e : Ending) (ha : RgAns C b.R b.N 64 P.length (rmvN (plN (k :: P)) 0) (.tuple #[.int .i64 k, .int .i64 0]) (w.alloc (.cells #[.int .i64 0, .int .i64 0, .int .i64 0, .int .i64 0, .int .i64 0] 40)) e w') => h1.rung (P' := P) ha rfl (plN_tail P k))
  have HT := Lib.hid (fun w' (hx : QW w' C b q.mp q.mb M P) => qtake_any hx hk)
  have HQ := Lib.hid (h2.tail_ok h0 hn)
  have hfr : ¬ qfoot b w.heap.size := fun e => by have := (hg _ e).2; omega
  have HN := Lib.hid hfr
  have HF := Lib.hid (fun w' (hx : QW w' C b q.mp q.mb (M.set k pk0) P) (hc : Chg (qfoot b) (w.alloc (.cells #[.int .i64 0, .int .i64 0, .int .i64 0, .int .i64 0, .int .i64 0] 40)) w') => (show QAns C b (qpT q) (.tuple #[aggP p, .int .i64 0]) w (.returned (.tuple #[aggP p, .int .i64 0])) (putP w' w.heap.size 0 p) from
    ⟨rfl, ⟨HQ.out.1, M.set k pk0, P, hx.putNew hfr 0 p, HQ.out.2⟩, putP_chgNew ((Chg.of_below hb1).trans hc) (Nat.le_refl _)⟩))
  have EK := Lib.hid ek
  clear h h0 h1 h2 hn hb1 hg hfr hk ek
  go_enter Try.func25, Try.ntmps25
  go_wp2_with fail
  (with_reducible refine HR.out.mono ?_); intro e w1 ha
  have HY := Lib.hid (HX.out w1 e ha)
  obtain ⟨rfl, _⟩ := ha
  have HT1 := Lib.hid (HT.out w1 HY.out.1)
  clear HX HR c3
  go_wp2_with fail
  (with_reducible refine HT1.out.mono ?_); intro e w2 ha
  obtain ⟨e2, hq, hc⟩ := ha
  rw [EK.out] at e2
  subst e2
  have hcc := HY.out.2.trans hc
  have hw := hcc.whole HW.out HN.out
  have HG := Lib.hid (HF.out w2 hq hcc)
  have y0 := hw.read 0
  have y1 := hw.read 1
  have y2 := hw.read 2
  have y3 := hw.read 3
  have y4 := hw.read 4
  have z0 := hw.free 0
  have z1 := hw.free 1
  have z2 := hw.free 2
  have z3 := hw.free 3
  have z4 := hw.free 4
  simp at y0 y1 y2 y3 y4
  clear hq hc hcc hw HF HQ EK
  obtain ⟨i, f, l, a, d⟩ := p
  unfold aggP
  go_wp2
  exact bodyPost_ret (v := .tuple #[.agg #[.int .i64 i, .int .i64 f, .int .i64 l, .int .i64 a, .int .i64 d], .int .i64 0]) (by simp [results, Try.results25, go_sem, y0, y1, y2, y3, y4]) rfl HG.out
end Go.Proofs.Ytijdfkdfojiffaa

