/-
  Layer 10: contracts of the program's SetWeight, SetCaps, SetBounds.
-/
import Derived.Test.YtgojbomdkdlclaaFlProg2
namespace Go.Proofs.Ytgojbomdkdlclaa
open Go.ChangeShapes Go.WideShapes Go.ChangeAt Go.RowKit
set_option linter.unusedVariables false

theorem PW.put2 {w : World} {C H mb g c j j' k : Nat} {t : Tb} {vS : Value} {u u' : Value} {f f' : Flo} (h : PW w C H mb t vS (.slice (some ⟨g, 0, none⟩) t.F.length c)) (hl : t.F.length = t.G.length) (hk : k < t.F.length) (hg : ∃ h : k < t.G.length, t.G[k] = false) (hj : j < 7) (hj' : j' < 7)
    (e : csF f = (csF t.F[k]).set j u) (e' : csF f' = (csF f).set j' u') : PW ((w.setCell ⟨g, k * 7 + j, none⟩ u).setCell ⟨g, k * 7 + j', none⟩ u') C H mb (t.withF k f') vS (.slice (some ⟨g, 0, none⟩) t.F.length c) ∧ Chg (pfoot H mb vS (.slice (some ⟨g, 0, none⟩) t.F.length c)) w ((w.setCell ⟨g, k * 7 + j, none⟩ u).setCell ⟨g, k * 7 + j', none⟩ u') := by
  obtain ⟨p1, p2⟩ := h.put hl hk hg hj e
  have hl1 : (t.withF k f).F.length = (t.withF k f).G.length := by show (t.F.set k f).length = t.G.length; rw [List.length_set]; exact hl
  have hk1 : k < (t.withF k f).F.length := by show k < (t.F.set k f).length; rw [List.length_set]; exact hk
  have hf1 : (t.withF k f).F.length = t.F.length := by show (t.F.set k f).length = _; rw [List.length_set]
  have hfk : (t.withF k f).F[k] = f := by simp [Tb.withF]
  obtain ⟨q1, q2⟩ := PW.put (f := f') (t := t.withF k f) (c := c) (u := u') (j := j') (by rw [hf1]; exact p1) hl1 hk1 hg hj' (by rw [hfk]; exact e')
  rw [withF_again, hf1] at q1
  rw [hf1] at q2
  exact ⟨q1, p2.trans q2⟩
set_option maxHeartbeats 1000000 in
theorem setWeight_any {C H : Nat} {S : Nat → Prop} {t : Tb} {w : World} (h : PO C H S t w) (f x : Int) :
    Calls Try.prog 26 #[.pointer (some ⟨H, 0, none⟩), .int .i64 f, .int .i64 x] w (PAns C H S (swT t f x) (.int .i64 (swE t f x)) w) := by
  have HS := hasFlow_any h f
  have HW := isWeight_any x w
  have HD := Lib.hid (fun g a b => admits_any h g a b)
  unfold Quiet at HD
  have HST := Lib.hid (fun x w' (hb : Below w.heap.size w w') => PAns.stay (x := x) h hb)
  have HT := Lib.hid (TbOk.setW h.1 f x)
  obtain ⟨h0, ⟨vS, vF, mb, h1, hS⟩, hO⟩ := h
  cases k1 : thrB t.F t.G f
  · obtain ⟨e1, e2⟩ := sw_6 (w := x) k1
    rw [e1, e2]
    rw [k1] at HS
    have HS := Lib.hid HS
    clear e1 e2 k1 h1 h0
    go_enter Try.func26, Try.ntmps26
    go_wp2_with fail
    (with_reducible refine HS.out.mono ?_); rintro e w' ⟨rfl, rfl⟩
    have HF := Lib.hid (fun x => HST.out x w (Below.refl _ _))
    go_wp2
    go_ret
    exact HF.out _
  obtain ⟨k, rfl, hk, hg⟩ := thr_yes h0.len k1
  rw [k1] at HS
  have HS := Lib.hid HS
  cases k2 : gwB x
  · obtain ⟨e1, e2⟩ := sw_1 k1 k2
    rw [e1, e2]
    rw [k2] at HW
    have HW := Lib.hid HW
    clear e1 e2 k1 k2 h1 h0
    go_enter Try.func26, Try.ntmps26
    go_wp2_with fail
    (with_reducible refine HS.out.mono ?_); rintro e w' ⟨rfl, rfl⟩
    go_wp2_with fail
    (with_reducible refine HW.out.mono ?_); rintro e w' ⟨rfl, rfl⟩
    have HF := Lib.hid (fun x => HST.out x w (Below.refl _ _))
    go_wp2
    go_ret
    exact HF.out _
  rw [k2] at HW
  have HW := Lib.hid HW
  have hx := gw_yes k2
  have hq := h0.fls _ (List.getElem_mem hk)
  obtain ⟨g, c, rfl, hC, hlt, d0, d1, d2, d3, d4, d5, d6, hfr⟩ := h1.there h0 hk hg
  obtain ⟨c0, c1, c2, c3, c4, f2, f3⟩ := h1.cells
  have hwr : IntKind.i64.wrap (x - t.F[k].w) = x - t.F[k].w := IntWalk.i64_in _ (by omega)
  have HD2 := HD.out (x - t.F[k].w) (by omega) (by omega)
  by_cases k3 : t.cap < t.tot - t.F[k].w + x
  · obtain ⟨e1, e2⟩ := sw_12 hk k1 k2 k3
    rw [e1, e2]
    rw [decide_eq_false (by omega)] at HD2
    have HD2 := Lib.hid HD2
    generalize t.F[k].w = q at *
    clear e1 e2 k1 k2 k3 h1 h0 d0 d1 d3 d4 d5 d6 hfr c0 c1 c2 c4 HD
    go_enter Try.func26, Try.ntmps26
    go_wp2_with fail
    (with_reducible refine HS.out.mono ?_); rintro e w' ⟨rfl, rfl⟩
    go_wp2_with fail
    (with_reducible refine HW.out.mono ?_); rintro e w' ⟨rfl, rfl⟩
    go_wp2_with fail
    (with_reducible refine HD2.out.mono ?_); rintro e w1 ⟨rfl, hb⟩
    have HF := Lib.hid (fun x => HST.out x w1 hb)
    go_wp2
    go_ret
    exact HF.out _
  · obtain ⟨e1, e2⟩ := sw_0 hk k1 k2 k3
    rw [e1]
    rw [e2] at HT ⊢
    rw [decide_eq_true (by omega)] at HD2
    have HD2 := Lib.hid HD2
    have HP := Lib.hid (fun w1 (hb : Below w.heap.size w w1) => (h1.below hb).put (f := { t.F[k] with w := x }) (j := 2) (u := .int .i64 x) h0.len hk hg (by omega) rfl)
    have HC := Lib.hid (fun w1 (hb : Below w.heap.size w w1) => (h1.below hb).cells)
    have HTH := Lib.hid (fun w1 (hb : Below w.heap.size w w1) => (h1.below hb).rowF)
    clear e1 e2 k1 k2 k3 h1 h0 d0 d1 d3 d4 d5 d6 hfr c0 c1 c2 c4 HD HST
    go_enter Try.func26, Try.ntmps26
    go_wp2_with fail
    (with_reducible refine HS.out.mono ?_); rintro e w' ⟨rfl, rfl⟩
    go_wp2_with fail
    (with_reducible refine HW.out.mono ?_); rintro e w' ⟨rfl, rfl⟩
    go_wp2_with fail
    (with_reducible refine HD2.out.mono ?_); rintro e w1 ⟨rfl, hb⟩
    have p3 := (HC.out w1 hb).2.2.2.1
    have p2 := cell_on d2 hb
    have pf := (HTH.out w1 hb).frozenAt (k * 7 + 2)
    have HF := Lib.hid (PAns.done (x := .int .i64 0) hO hS HT.out (HP.out w1 hb).1 ((Chg.of_below hb).trans (HP.out w1 hb).2) (fun k hk => .inl hk))
    clear hb d2 c3
    go_wp2
    go_ret
    exact HF.out
theorem gc_cases {p b : Int} (h : gcB p b = false) : p < 1 ∨ (1 ≤ p ∧ 64 < p) ∨ (1 ≤ p ∧ p ≤ 64 ∧ b < 1) ∨ (1 ≤ p ∧ p ≤ 64 ∧ 1 ≤ b ∧ 262144 < b) := by
  unfold gcB at h
  by_cases h1 : 1 ≤ p <;> by_cases h2 : p ≤ 64 <;> by_cases h3 : 1 ≤ b <;> by_cases h4 : b ≤ 262144 <;> simp [h1, h2, h3, h4] at h <;> omega
theorem gc_yes {p b : Int} (h : gcB p b = true) : 1 ≤ p ∧ p ≤ 64 ∧ 1 ≤ b ∧ b ≤ 262144 := by
  unfold gcB at h; simp only [Bool.and_eq_true, decide_eq_true_eq] at h; omega
set_option maxHeartbeats 1000000 in
theorem setCaps_any {C H : Nat} {S : Nat → Prop} {t : Tb} {w : World} (h : PO C H S t w) (f p b : Int) :
    Calls Try.prog 28 #[.pointer (some ⟨H, 0, none⟩), .int .i64 f, .int .i64 p, .int .i64 b] w (PAns C H S (scT t f p b) (.int .i64 (scE t f p b)) w) := by
  have HS := hasFlow_any h f
  have HST := Lib.hid (fun x w' (hb : Below w.heap.size w w') => PAns.stay (x := x) h hb)
  have HT := Lib.hid (TbOk.setC h.1 f p b)
  obtain ⟨h0, ⟨vS, vF, mb, h1, hS⟩, hO⟩ := h
  cases k1 : thrB t.F t.G f
  · obtain ⟨e1, e2⟩ := sc_6 (p := p) (b := b) k1
    rw [e1, e2]
    rw [k1] at HS
    have HS := Lib.hid HS
    clear e1 e2 k1 h1 h0
    go_enter Try.func28, Try.ntmps28
    go_wp2_with fail
    (with_reducible refine HS.out.mono ?_); rintro e w' ⟨rfl, rfl⟩
    have HF := Lib.hid (fun x => HST.out x w (Below.refl _ _))
    go_wp2
    go_ret
    exact HF.out _
  obtain ⟨k, rfl, hk, hg⟩ := thr_yes h0.len k1
  rw [k1] at HS
  have HS := Lib.hid HS
  cases k2 : gcB p b
  · obtain ⟨e1, e2⟩ := sc_1 k1 k2
    rw [e1, e2]
    have HF := Lib.hid (fun x => HST.out x w (Below.refl _ _))
    have hcs := gc_cases k2
    clear e1 e2 k1 k2 h1 h0 HST
    rcases hcs with z1 | ⟨z1, z2⟩ | ⟨z1, z2, z3⟩ | ⟨z1, z2, z3, z4⟩
    all_goals
      go_enter Try.func28, Try.ntmps28
      go_wp2_with fail
      (with_reducible refine HS.out.mono ?_); rintro e w' ⟨rfl, rfl⟩
      go_wp2
      go_ret
      exact HF.out _
  · obtain ⟨e1, e2⟩ := sc_0 hk k1 k2
    rw [e1]
    rw [e2] at HT ⊢
    obtain ⟨z1, z2, z3, z4⟩ := gc_yes k2
    obtain ⟨g, c, rfl, hC, hlt, d0, d1, d2, d3, d4, d5, d6, hfr⟩ := h1.there h0 hk hg
    obtain ⟨c0, c1, c2, c3, c4, f2, f3⟩ := h1.cells
    have g3 := hfr (k * 7 + 3)
    have g4 := hfr (k * 7 + 4)
    have HP := Lib.hid ((h1.below (Below.refl _ _).drew).put2 (f := { t.F[k] with p := p }) (f' := { t.F[k] with p := p, b := b }) (j := 3) (j' := 4) (u := .int .i64 p) (u' := .int .i64 b) h0.len hk hg (by omega) (by omega) rfl rfl)
    have HF := Lib.hid (PAns.done (x := .int .i64 0) hO hS HT.out HP.out.1 ((Chg.refl _ w).drew.trans HP.out.2) (fun k hk => .inl hk))
    clear e1 e2 k1 k2 h1 h0 d0 d1 d2 d5 d6 hfr c0 c1 c2 c4 HST HP
    go_enter Try.func28, Try.ntmps28
    go_wp2_with fail
    (with_reducible refine HS.out.mono ?_); rintro e w' ⟨rfl, rfl⟩
    go_wp2
    go_region
    go_wp2
    go_ret
    exact HF.out
set_option maxHeartbeats 1000000 in
theorem setBounds_any {C H : Nat} {S : Nat → Prop} {t : Tb} {w : World} (h : PO C H S t w) (f p b : Int) :
    Calls Try.prog 30 #[.pointer (some ⟨H, 0, none⟩), .int .i64 f, .int .i64 p, .int .i64 b] w (PAns C H S (sbT t f p b) (.int .i64 (sbE t f p b)) w) := by
  have HS := hasFlow_any h f
  have HP1 := isBound_any p w
  have HP2 := isBound_any b w
  have HST := Lib.hid (fun x w' (hb : Below w.heap.size w w') => PAns.stay (x := x) h hb)
  have HT := Lib.hid (TbOk.setB h.1 f p b)
  obtain ⟨h0, ⟨vS, vF, mb, h1, hS⟩, hO⟩ := h
  cases k1 : thrB t.F t.G f
  · obtain ⟨e1, e2⟩ := sb_6 (p := p) (b := b) k1
    rw [e1, e2]
    rw [k1] at HS
    have HS := Lib.hid HS
    clear e1 e2 k1 h1 h0
    go_enter Try.func30, Try.ntmps30
    go_wp2_with fail
    (with_reducible refine HS.out.mono ?_); rintro e w' ⟨rfl, rfl⟩
    have HF := Lib.hid (fun x => HST.out x w (Below.refl _ _))
    go_wp2
    go_ret
    exact HF.out _
  obtain ⟨k, rfl, hk, hg⟩ := thr_yes h0.len k1
  rw [k1] at HS
  have HS := Lib.hid HS
  have HF := Lib.hid (fun x => HST.out x w (Below.refl _ _))
  cases k2 : bdB p
  · obtain ⟨e1, e2⟩ := sb_1 (b := b) k1 (by rw [k2]; rfl)
    rw [e1, e2]
    rw [k2] at HP1
    have HP1 := Lib.hid HP1
    clear e1 e2 k1 k2 h1 h0 HST
    go_enter Try.func30, Try.ntmps30
    go_wp2_with fail
    (with_reducible refine HS.out.mono ?_); rintro e w' ⟨rfl, rfl⟩
    go_wp2_with fail
    (with_reducible refine HP1.out.mono ?_); rintro e w' ⟨rfl, rfl⟩
    go_wp2
    go_ret
    exact HF.out _
  rw [k2] at HP1
  have HP1 := Lib.hid HP1
  cases k3 : bdB b
  · obtain ⟨e1, e2⟩ := sb_1 k1 (p := p) (b := b) (by rw [k2, k3]; rfl)
    rw [e1, e2]
    rw [k3] at HP2
    have HP2 := Lib.hid HP2
    clear e1 e2 k1 k2 k3 h1 h0 HST
    go_enter Try.func30, Try.ntmps30
    go_wp2_with fail
    (with_reducible refine HS.out.mono ?_); rintro e w' ⟨rfl, rfl⟩
    go_wp2_with fail
    (with_reducible refine HP1.out.mono ?_); rintro e w' ⟨rfl, rfl⟩
    go_wp2_with fail
    (with_reducible refine HP2.out.mono ?_); rintro e w' ⟨rfl, rfl⟩
    go_wp2
    go_ret
    exact HF.out _
  · obtain ⟨e1, e2⟩ := sb_0 hk k1 (p := p) (b := b) (by rw [k2, k3]; rfl)
    rw [e1]
    rw [e2] at HT ⊢
    rw [k3] at HP2
    have HP2 := Lib.hid HP2
    obtain ⟨g, c, rfl, hC, hlt, d0, d1, d2, d3, d4, d5, d6, hfr⟩ := h1.there h0 hk hg
    obtain ⟨c0, c1, c2, c3, c4, f2, f3⟩ := h1.cells
    have g5 := hfr (k * 7 + 5)
    have g6 := hfr (k * 7 + 6)
    have HP := Lib.hid ((h1.below (Below.refl _ _).drew).put2 (f := { t.F[k] with lg := p }) (f' := { t.F[k] with lg := p, ld := b }) (j := 5) (j' := 6) (u := .int .i64 p) (u' := .int .i64 b) h0.len hk hg (by omega) (by omega) rfl rfl)
    have HF := Lib.hid (PAns.done (x := .int .i64 0) hO hS HT.out HP.out.1 ((Chg.refl _ w).drew.trans HP.out.2) (fun k hk => .inl hk))
    clear e1 e2 k1 k2 k3 h1 h0 d0 d1 d2 d3 d4 hfr c0 c1 c2 c4 HST HP
    go_enter Try.func30, Try.ntmps30
    go_wp2_with fail
    (with_reducible refine HS.out.mono ?_); rintro e w' ⟨rfl, rfl⟩
    go_wp2_with fail
    (with_reducible refine HP1.out.mono ?_); rintro e w' ⟨rfl, rfl⟩
    go_wp2_with fail
    (with_reducible refine HP2.out.mono ?_); rintro e w' ⟨rfl, rfl⟩
    go_wp2
    go_region
    go_wp2
    go_ret
    exact HF.out
end Go.Proofs.Ytgojbomdkdlclaa

