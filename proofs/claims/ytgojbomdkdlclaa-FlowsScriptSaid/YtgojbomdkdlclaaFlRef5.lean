/-
  Layer 10: contracts of the reference's SetWeight, SetCaps, SetBounds, Remove.
-/
import Derived.Test.YtgojbomdkdlclaaFlRef4
import Derived.Test.YtgojbomdkdlclaaFlProg3
namespace Go.Proofs.Ytgojbomdkdlclaa
open Go.ChangeShapes Go.WideShapes Go.ChangeAt Go.RowKit
set_option linter.unusedVariables false

theorem RW.put {w : World} {C R g c j k : Nat} {t : Tb} {vS vG : Value} {u : Value} {f : Flo} (h : RW w C R t vS (.slice (some ⟨g, 0, none⟩) t.F.length c) vG) (hk : k < t.F.length) (hj : j < 7)
    (e : csF f = (csF t.F[k]).set j u) : RW (w.setCell ⟨g, k * 7 + j, none⟩ u) C R (t.withF k f) vS (.slice (some ⟨g, 0, none⟩) t.F.length c) vG ∧ Chg (rfoot R vS (.slice (some ⟨g, 0, none⟩) t.F.length c) vG) w (w.setCell ⟨g, k * 7 + j, none⟩ u) := by
  have hr := row_cell (a := f) csF_len h.rowF hk u hj e
  exact h.setF (t' := t.withF k f) rfl (by show World.ownsRow _ _ _ _ _ (t.F.set k f).length _; rw [List.length_set]; exact hr) rfl rfl rfl rfl
theorem RW.put2 {w : World} {C R g c j j' k : Nat} {t : Tb} {vS vG : Value} {u u' : Value} {f f' : Flo} (h : RW w C R t vS (.slice (some ⟨g, 0, none⟩) t.F.length c) vG) (hk : k < t.F.length) (hj : j < 7) (hj' : j' < 7)
    (e : csF f = (csF t.F[k]).set j u) (e' : csF f' = (csF f).set j' u') : RW ((w.setCell ⟨g, k * 7 + j, none⟩ u).setCell ⟨g, k * 7 + j', none⟩ u') C R (t.withF k f') vS (.slice (some ⟨g, 0, none⟩) t.F.length c) vG ∧ Chg (rfoot R vS (.slice (some ⟨g, 0, none⟩) t.F.length c) vG) w ((w.setCell ⟨g, k * 7 + j, none⟩ u).setCell ⟨g, k * 7 + j', none⟩ u') := by
  obtain ⟨p1, p2⟩ := h.put hk hj e
  have hk1 : k < (t.withF k f).F.length := by show k < (t.F.set k f).length; rw [List.length_set]; exact hk
  have hf1 : (t.withF k f).F.length = t.F.length := by show (t.F.set k f).length = _; rw [List.length_set]
  have hfk : (t.withF k f).F[k] = f := by simp [Tb.withF]
  obtain ⟨q1, q2⟩ := RW.put (f := f') (t := t.withF k f) (c := c) (u := u') (j := j') (by rw [hf1]; exact p1) hk1 hj' (by rw [hfk]; exact e')
  rw [withF_again, hf1] at q1
  rw [hf1] at q2
  exact ⟨q1, p2.trans q2⟩
theorem RW.mark {w : World} {C R g c k : Nat} {t : Tb} {vS vF : Value} (h : RW w C R t vS vF (.slice (some ⟨g, 0, none⟩) t.G.length c)) (hk : k < t.G.length) :
    RW (w.setCell ⟨g, k, none⟩ (.bool true)) C R { t with G := t.G.set k true } vS vF (.slice (some ⟨g, 0, none⟩) t.G.length c) ∧ Chg (rfoot R vS vF (.slice (some ⟨g, 0, none⟩) t.G.length c)) w (w.setCell ⟨g, k, none⟩ (.bool true)) := by
  have hr := row_cell (a := true) csB_len h.rowG hk (.bool true) (k := 0) (by omega) rfl
  rw [show k * 1 + 0 = k by omega] at hr
  exact h.setG (t' := { t with G := t.G.set k true }) rfl (by show World.ownsRow _ _ _ _ _ (t.G.set k true).length _; rw [List.length_set]; exact hr) rfl rfl rfl rfl
set_option maxHeartbeats 2000000 in
theorem rremove_any {C R : Nat} {S : Nat → Prop} {t : Tb} {w : World} (h : RO C R S t w) (f : Int) :
    Calls Try.prog 32 #[.pointer (some ⟨R, 0, none⟩), .int .i64 f] w (RAns C R S (rmT t f) (.int .i64 (rmE t f)) w) := by
  have HS := there_any h f
  have HST := Lib.hid (fun x w' (hb : Below w.heap.size w w') => RAns.stay (x := x) h hb)
  have HT := Lib.hid (TbOk.rem h.1 f)
  obtain ⟨h0, ⟨vS, vF, vG, h1, hS⟩, hO⟩ := h
  cases k1 : thrB t.F t.G f
  · obtain ⟨e1, e2⟩ := rm_6 k1
    rw [e1, e2]
    rw [k1] at HS
    have HS := Lib.hid HS
    clear e1 e2 k1 h1 h0
    go_enter Try.func32, Try.ntmps32
    go_wp2_with fail
    (with_reducible refine HS.out.mono ?_); rintro e w' ⟨rfl, rfl⟩
    have HF := Lib.hid (fun x => HST.out x w (Below.refl _ _))
    go_wp2
    go_ret
    exact HF.out _
  · obtain ⟨k, rfl, hk, hg, _⟩ := thr_yes h0.len k1
    obtain ⟨e1, e2⟩ := rm_0 k1
    rw [e1]
    rw [e2] at HT ⊢
    rw [k1] at HS
    have HS := Lib.hid HS
    obtain ⟨g, c, rfl, hC, hlt, d0, hfr⟩ := h1.gone hg
    have g0 := hfr k
    obtain ⟨c0, c1, c2, c3, c4, _⟩ := h1.cells
    have HP := Lib.hid (h1.mark hg)
    have HF := Lib.hid (RAns.done (x := .int .i64 0) hO hS HT.out HP.out.1 HP.out.2 (fun k hk => .inl hk))
    clear e1 e2 k1 h1 c0 c1 c2 c3 hfr HP hS hO HT
    go_enter Try.func32, Try.ntmps32
    go_wp2_with fail
    (with_reducible refine HS.out.mono ?_); rintro e w' ⟨rfl, rfl⟩
    go_wp2
    go_ret
    exact HF.out
set_option maxHeartbeats 2000000 in
theorem rsetWeight_any {C R : Nat} {S : Nat → Prop} {t : Tb} {w : World} (h : RO C R S t w) (f x : Int) :
    Calls Try.prog 27 #[.pointer (some ⟨R, 0, none⟩), .int .i64 f, .int .i64 x] w (RAns C R S (swT t f x) (.int .i64 (swE t f x)) w) := by
  have HS := there_any h f
  have HW := goodWeight_any x w
  have HTO := Lib.hid (fun q => rtotal_any (h.below (Below.drewn q)))
  have HST := Lib.hid (fun x w' (hb : Below w.heap.size w w') => RAns.stay (x := x) h hb)
  have HT := Lib.hid (TbOk.setW h.1 f x)
  obtain ⟨h0, ⟨vS, vF, vG, h1, hS⟩, hO⟩ := h
  cases k1 : thrB t.F t.G f
  · obtain ⟨e1, e2⟩ := sw_6 (w := x) k1
    rw [e1, e2]
    rw [k1] at HS
    have HS := Lib.hid HS
    clear e1 e2 k1 h1 h0
    go_enter Try.func27, Try.ntmps27
    go_wp2_with fail
    (with_reducible refine HS.out.mono ?_); rintro e w' ⟨rfl, rfl⟩
    have HF := Lib.hid (fun x => HST.out x w (Below.refl _ _))
    go_wp2
    go_ret
    exact HF.out _
  obtain ⟨k, rfl, hk, hg⟩ := thr_yes h0.len k1
  rw [k1] at HS
  have HS := Lib.hid HS
  cases k2 : gwB x
  · obtain ⟨e1, e2⟩ := sw_1 k1 k2
    rw [e1, e2]
    rw [k2] at HW
    have HW := Lib.hid HW
    clear e1 e2 k1 k2 h1 h0
    go_enter Try.func27, Try.ntmps27
    go_wp2_with fail
    (with_reducible refine HS.out.mono ?_); rintro e w' ⟨rfl, rfl⟩
    go_wp2_with fail
    (with_reducible refine HW.out.mono ?_); rintro e w' ⟨rfl, rfl⟩
    have HF := Lib.hid (fun x => HST.out x w (Below.refl _ _))
    go_wp2
    go_ret
    exact HF.out _
  rw [k2] at HW
  have HW := Lib.hid HW
  have hx := gw_yes k2
  have hq := h0.fls _ (List.getElem_mem hk)
  have hg0 := h0.sums
  obtain ⟨g, c, rfl, hC, hlt, d0, d1, d2, d3, d4, d5, d6, hfr⟩ := h1.flow hk
  obtain ⟨c0, c1, c2, c3, c4, _⟩ := h1.cells
  have hwr : IntKind.i64.wrap (t.tot - t.F[k].w) = t.tot - t.F[k].w := IntWalk.i64_in _ (by omega)
  have hwr2 : IntKind.i64.wrap (t.tot - t.F[k].w + x) = t.tot - t.F[k].w + x := IntWalk.i64_in _ (by omega)
  by_cases k3 : t.cap < t.tot - t.F[k].w + x
  · obtain ⟨e1, e2⟩ := sw_12 hk k1 k2 k3
    rw [e1, e2]
    have hd : decide (t.cap < t.tot - t.F[k].w + x) = true := decide_eq_true k3
    have HF := Lib.hid (fun x q => HST.out x (w.drewN q) (Below.drewn q))
    generalize t.F[k].w = q at *
    generalize t.tot = T at *
    generalize t.cap = cp at *
    clear e1 e2 k1 k2 k3 h1 h0 d0 d1 d3 d4 d5 d6 hfr c1 c2 c4 HST
    go_enter Try.func27, Try.ntmps27
    go_wp2_with fail
    (with_reducible refine HS.out.mono ?_); rintro e w' ⟨rfl, rfl⟩
    go_wp2_with fail
    (with_reducible refine HW.out.mono ?_); rintro e w' ⟨rfl, rfl⟩
    go_wp2_with fail
    go_quiet ((go_at_call 34; exact Calls.quiet_of_same ((HTO.out _).mono fun _ _ h => ⟨h.1, h.2.symm⟩)))
    go_wp2
    go_ret
    exact HF.out _ _
  · obtain ⟨e1, e2⟩ := sw_0 hk k1 k2 k3
    rw [e1]
    rw [e2] at HT ⊢
    have hd : decide (t.cap < t.tot - t.F[k].w + x) = false := decide_eq_false k3
    have HP := Lib.hid (fun q => (h1.below (Below.drewn q)).put (f := { t.F[k] with w := x }) (j := 2) (u := .int .i64 x) hk (by omega) rfl)
    have HF := Lib.hid (fun q => RAns.done (x := .int .i64 0) hO hS HT.out (HP.out q).1 ((Chg.of_below (Below.drewn q)).trans (HP.out q).2) (fun k hk => .inl hk))
    have pf := hfr (k * 7 + 2)
    generalize hqq : t.F[k].w = q at *
    generalize hTT : t.tot = T at *
    generalize hcc : t.cap = cp at *
    clear e1 e2 k1 k2 k3 h1 h0 d0 d1 d3 d4 d5 d6 hfr c1 c2 c4 HST HP hqq hTT hcc
    go_enter Try.func27, Try.ntmps27
    go_wp2_with fail
    (with_reducible refine HS.out.mono ?_); rintro e w' ⟨rfl, rfl⟩
    go_wp2_with fail
    (with_reducible refine HW.out.mono ?_); rintro e w' ⟨rfl, rfl⟩
    go_wp2_with fail
    go_quiet ((go_at_call 34; exact Calls.quiet_of_same ((HTO.out _).mono fun _ _ h => ⟨h.1, h.2.symm⟩)))
    go_wp2
    go_ret
    exact HF.out _
set_option maxHeartbeats 2000000 in
theorem rsetCaps_any {C R : Nat} {S : Nat → Prop} {t : Tb} {w : World} (h : RO C R S t w) (f p b : Int) :
    Calls Try.prog 29 #[.pointer (some ⟨R, 0, none⟩), .int .i64 f, .int .i64 p, .int .i64 b] w (RAns C R S (scT t f p b) (.int .i64 (scE t f p b)) w) := by
  have HS := there_any h f
  have HGC := goodCaps_any p b w
  have HST := Lib.hid (fun x w' (hb : Below w.heap.size w w') => RAns.stay (x := x) h hb)
  have HT := Lib.hid (TbOk.setC h.1 f p b)
  obtain ⟨h0, ⟨vS, vF, vG, h1, hS⟩, hO⟩ := h
  cases k1 : thrB t.F t.G f
  · obtain ⟨e1, e2⟩ := sc_6 (p := p) (b := b) k1
    rw [e1, e2]
    rw [k1] at HS
    have HS := Lib.hid HS
    clear e1 e2 k1 h1 h0
    go_enter Try.func29, Try.ntmps29
    go_wp2_with fail
    (with_reducible refine HS.out.mono ?_); rintro e w' ⟨rfl, rfl⟩
    have HF := Lib.hid (fun x => HST.out x w (Below.refl _ _))
    go_wp2
    go_ret
    exact HF.out _
  obtain ⟨k, rfl, hk, hg⟩ := thr_yes h0.len k1
  rw [k1] at HS
  have HS := Lib.hid HS
  cases k2 : gcB p b
  · obtain ⟨e1, e2⟩ := sc_1 k1 k2
    rw [e1, e2]
    rw [k2] at HGC
    have HGC := Lib.hid HGC
    have HF := Lib.hid (fun x => HST.out x w (Below.refl _ _))
    clear e1 e2 k1 k2 h1 h0 HST
    go_enter Try.func29, Try.ntmps29
    go_wp2_with fail
    (with_reducible refine HS.out.mono ?_); rintro e w' ⟨rfl, rfl⟩
    go_wp2_with fail
    (with_reducible refine HGC.out.mono ?_); rintro e w' ⟨rfl, rfl⟩
    go_wp2
    go_ret
    exact HF.out _
  · obtain ⟨e1, e2⟩ := sc_0 hk k1 k2
    rw [e1]
    rw [e2] at HT ⊢
    rw [k2] at HGC
    have HGC := Lib.hid HGC
    obtain ⟨g, c, rfl, hC, hlt, d0, d1, d2, d3, d4, d5, d6, hfr⟩ := h1.flow hk
    obtain ⟨c0, c1, c2, c3, c4, _⟩ := h1.cells
    have g3 := hfr (k * 7 + 3)
    have g4 := hfr (k * 7 + 4)
    have HP := Lib.hid ((h1.below (Below.refl _ _).drew).put2 (f := { t.F[k] with p := p }) (f' := { t.F[k] with p := p, b := b }) (j := 3) (j' := 4) (u := .int .i64 p) (u' := .int .i64 b) hk (by omega) (by omega) rfl rfl)
    have HF := Lib.hid (RAns.done (x := .int .i64 0) hO hS HT.out HP.out.1 ((Chg.refl _ w).drew.trans HP.out.2) (fun k hk => .inl hk))
    clear e1 e2 k1 k2 h1 h0 d0 d1 d2 d5 d6 hfr c0 c1 c2 c4 HST HP
    go_enter Try.func29, Try.ntmps29
    go_wp2_with fail
    (with_reducible refine HS.out.mono ?_); rintro e w' ⟨rfl, rfl⟩
    go_wp2_with fail
    (with_reducible refine HGC.out.mono ?_); rintro e w' ⟨rfl, rfl⟩
    go_wp2
    go_region
    go_wp2
    go_ret
    exact HF.out
theorem bd_cases {p b : Int} (h : (bdB p && bdB b) = false) : p < 0 ∨ (0 ≤ p ∧ 1099511627776 < p) ∨ (0 ≤ p ∧ p ≤ 1099511627776 ∧ b < 0) ∨ (0 ≤ p ∧ p ≤ 1099511627776 ∧ 0 ≤ b ∧ 1099511627776 < b) := by
  unfold bdB at h
  by_cases h1 : 0 ≤ p <;> by_cases h2 : p ≤ 1099511627776 <;> by_cases h3 : 0 ≤ b <;> by_cases h4 : b ≤ 1099511627776 <;> simp [h1, h2, h3, h4] at h <;> omega
theorem bd_yes {p b : Int} (h : (bdB p && bdB b) = true) : 0 ≤ p ∧ p ≤ 1099511627776 ∧ 0 ≤ b ∧ b ≤ 1099511627776 := by
  unfold bdB at h; simp only [Bool.and_eq_true, decide_eq_true_eq] at h; omega
set_option maxHeartbeats 2000000 in
theorem rsetBounds_any {C R : Nat} {S : Nat → Prop} {t : Tb} {w : World} (h : RO C R S t w) (f p b : Int) :
    Calls Try.prog 31 #[.pointer (some ⟨R, 0, none⟩), .int .i64 f, .int .i64 p, .int .i64 b] w (RAns C R S (sbT t f p b) (.int .i64 (sbE t f p b)) w) := by
  have HS := there_any h f
  have HST := Lib.hid (fun x w' (hb : Below w.heap.size w w') => RAns.stay (x := x) h hb)
  have HT := Lib.hid (TbOk.setB h.1 f p b)
  obtain ⟨h0, ⟨vS, vF, vG, h1, hS⟩, hO⟩ := h
  cases k1 : thrB t.F t.G f
  · obtain ⟨e1, e2⟩ := sb_6 (p := p) (b := b) k1
    rw [e1, e2]
    rw [k1] at HS
    have HS := Lib.hid HS
    clear e1 e2 k1 h1 h0
    go_enter Try.func31, Try.ntmps31
    go_wp2_with fail
    (with_reducible refine HS.out.mono ?_); rintro e w' ⟨rfl, rfl⟩
    have HF := Lib.hid (fun x => HST.out x w (Below.refl _ _))
    go_wp2
    go_ret
    exact HF.out _
  obtain ⟨k, rfl, hk, hg⟩ := thr_yes h0.len k1
  rw [k1] at HS
  have HS := Lib.hid HS
  cases k2 : (bdB p && bdB b)
  · obtain ⟨e1, e2⟩ := sb_1 k1 k2
    rw [e1, e2]
    have HF := Lib.hid (fun x => HST.out x w (Below.refl _ _))
    have hcs := bd_cases k2
    clear e1 e2 k1 k2 h1 h0 HST
    rcases hcs with z1 | ⟨z1, z2⟩ | ⟨z1, z2, z3⟩ | ⟨z1, z2, z3, z4⟩
    all_goals
      go_enter Try.func31, Try.ntmps31
      go_wp2_with fail
      (with_reducible refine HS.out.mono ?_); rintro e w' ⟨rfl, rfl⟩
      go_wp2
      go_ret
      exact HF.out _
  · obtain ⟨e1, e2⟩ := sb_0 hk k1 k2
    rw [e1]
    rw [e2] at HT ⊢
    obtain ⟨z1, z2, z3, z4⟩ := bd_yes k2
    obtain ⟨g, c, rfl, hC, hlt, d0, d1, d2, d3, d4, d5, d6, hfr⟩ := h1.flow hk
    obtain ⟨c0, c1, c2, c3, c4, _⟩ := h1.cells
    have g5 := hfr (k * 7 + 5)
    have g6 := hfr (k * 7 + 6)
    have HP := Lib.hid ((h1.below (Below.refl _ _).drew).put2 (f := { t.F[k] with lg := p }) (f' := { t.F[k] with lg := p, ld := b }) (j := 5) (j' := 6) (u := .int .i64 p) (u' := .int .i64 b) hk (by omega) (by omega) rfl rfl)
    have HF := Lib.hid (RAns.done (x := .int .i64 0) hO hS HT.out HP.out.1 ((Chg.refl _ w).drew.trans HP.out.2) (fun k hk => .inl hk))
    clear e1 e2 k1 k2 h1 h0 d0 d1 d2 d3 d4 hfr c0 c1 c2 c4 HST HP
    go_enter Try.func31, Try.ntmps31
    go_wp2_with fail
    (with_reducible refine HS.out.mono ?_); rintro e w' ⟨rfl, rfl⟩
    go_wp2
    go_region
    go_wp2
    go_ret
    exact HF.out
end Go.Proofs.Ytgojbomdkdlclaa

