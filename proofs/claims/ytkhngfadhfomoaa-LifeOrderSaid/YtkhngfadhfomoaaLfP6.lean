/-
  Layer 18: the program's Drop, Deliver. Written by gen_lfp6.py.
-/
import Derived.Test.YtkhngfadhfomoaaLfP5
namespace Go.Proofs.Ytkhngfadhfomoaa
open Go.ChangeShapes Go.WideShapes Go.ChangeAt Go.RowKit
set_option linter.unusedVariables false

set_option maxRecDepth 100000 in
set_option maxHeartbeats 16000000 in
theorem pfdrp_any {R : Nat} {s : LfS} {base : Nat} (hb9 : LfB s 9999) (id y : Int) : Acts 26 #[.pointer (some ⟨R, 0, none⟩), .int .i64 id, .int .i64 y] base (LfW R s) (fun _ : Unit => .int .i64 (lfDpE s id y)) fun _ => LfW R (s.drp id y) := by
  intro T w hP hb hs
  have hst := (hP.1.ok.st id).2
  have hln := hb9.l
  have h1 := pfstate_any (show s.l.length ≤ 99999 by omega) hP.2 id
  simp only [lpM] at h1
  rw [← lpG_st] at h1
  by_cases hE : lfDpE s id y = 0
  · have h12 : (lfSt s id = 1 ∨ lfSt s id = 2) ∧ 1 ≤ y ∧ y ≤ 4 := by
      unfold lfDpE at hE
      by_cases h1 : lfSt s id = 0
      · rw [if_pos h1] at hE; cases hE
      · rw [if_neg h1] at hE
        by_cases h2 : y < 1 ∨ 4 < y
        · rw [if_pos h2] at hE; cases hE
        · rw [if_neg h2] at hE
          by_cases h3 : lfSt s id ≠ 1 ∧ lfSt s id ≠ 2
          · rw [if_pos h3] at hE; cases hE
          · omega
    obtain ⟨h12, hy1, hy4⟩ := h12
    have hA : s.drp id y = { s with l := lfUp s id 4 y } := by unfold LfS.drp; rw [if_pos hE]
    obtain ⟨k, f, j, e, hK, hj, hy, hfl⟩ := LfK.of hP.1.ok (id := id) (by omega)
    have h1 := At.calm (At.start (w := w) (T := T) (P := LpP R (lpM s)) hP.2) (LpP.frm (base := base)) h1
    have HST := Lib.hid h1
    clear h1
    have hj4 : 4 ≠ j := by omega
    have HM := Lib.hid (show Acts 38 #[.pointer (some ⟨R, 0, none⟩), .int .i64 id, .int .i64 4] base (LpP R (lpM s)) (fun _ : Unit => .tuple #[]) fun _ => LpP R ((lpM s).mv k f j 4 e) from hK.move (x := (4 : Nat)) hb9 (by decide) hj4)
    have hO := hP.1.drp id y
    have HG := Lib.hid (fun (W : World) (h : At T w (LpP R ((lpM s).mv k f j 4 e)) W) => show ∃ g c, W.cell? ⟨R, 0, none⟩ = some (.slice (some ⟨g, 0, none⟩) s.l.length c) ∧ (∃ u, W.cell? ⟨g, k * 4 + 3, none⟩ = some u) ∧ W.frozen? ⟨g, k * 4 + 3, none⟩ = false ∧ (∃ T', LfW R (s.drp id y) T' (W.setCell ⟨g, k * 4 + 3, none⟩ (.int .i64 y)) ∧ ∀ k, T' k → T k ∨ w.heap.size ≤ k) ∧ Chg T w (W.setCell ⟨g, k * 4 + 3, none⟩ (.int .i64 y)) from by
      obtain ⟨B, hq, hre⟩ := h.more1
      obtain ⟨A, c, d0, _, HR⟩ := hq.pk
      have hl : ((lpM s).mv k f j 4 e).l = s.l.set k { e with s := 4 } := rfl
      have hk2 : k < ((lpM s).mv k f j 4 e).l.length := by rw [hl, List.length_set]; exact hK.hk
      obtain ⟨g, rfl, _, _, _, _, c3⟩ := HR k hk2
      have hle : ((lpM s).mv k f j 4 e).l.length = s.l.length := by rw [hl, List.length_set]
      obtain ⟨z, h1, h2⟩ := hq.setP hk2 (j := 3) (by omega) d0 { e with s := 4, y := y } (.int .i64 y) (by simp only [hl, List.getElem_set_self]; rfl)
      rw [hle] at d0
      obtain ⟨T', h3, h4, h5⟩ := hre ⟨⟨B, h1, fun k hk => .inl hk⟩, h2⟩
      refine ⟨g, c, d0, ⟨_, c3⟩, z, ⟨T', ⟨hO, ?_⟩, h4⟩, h5⟩
      rw [hA]
      refine h3.moved hK.hi hK.hkI hK.he hK.hf hK.hj hK.hfl hK.hjl (x := (4 : Nat)) (by decide) hj4 _ _ (fun g hg => od_up _ _ _) ?_ rfl rfl (fun g hg => ?_)
      · show ((s.l.set k { e with s := 4 }).set k { e with s := 4, y := y }) = _
        rw [List.set_set]; rfl
      · rw [by_up hK.hi hK.hkI hK.he (by rw [hK.hj]; omega), if_neg (fun h => absurd h.2 (by decide))]; exact Int.add_zero _)
    have HB := Lib.hid hb
    have HS := Lib.hid hs
    have hid := hK.hid
    have hkn := hK.hk
    rw [hE]
    clear hP hO hA hE hK hb hs hb9 hst hj hy hfl
    generalize lfSt s id = x at *
    generalize s.l.length = n at *
    have w1 : IntKind.i64.wrap (id - 1) = (k : Int) := by rw [IntWalk.i64_in _ (by omega)]; omega
    have hk0 : (0 : Int) ≤ (k : Int) := by omega
    have hlt : (k : Int) < (n : Int) := by omega
    clear hid
    rcases h12 with rfl | rfl
    all_goals
      go_enter Try.func26, Try.ntmps26
      go_wp2_with fail
      (with_reducible refine HST.out.mono ?_); rintro e1 w1 ⟨rfl, h1⟩
      have HX := Lib.hid (At.call1 h1 HB.out HS.out HM.out)
      clear h1
      go_wp2_with fail
      (with_reducible refine HX.out.mono ?_); rintro e2 w2 ⟨rfl, h2⟩
      obtain ⟨g, c, d0, ⟨u, c3⟩, z3, h3⟩ := HG.out w2 h2
      have HF := Lib.hid h3
      clear h2 h3
      go_wp2
      go_ret
      first | exact ⟨rfl, HF.out⟩ | exact ⟨(), rfl, HF.out⟩
  · have hA : s.drp id y = s := by unfold LfS.drp; rw [if_neg hE]
    have HST := Lib.hid h1
    unfold Calm at HST
    have HF := Lib.hid (fun (W : World) (hbl : Below w.heap.size w W) => show (∃ T', LfW R (s.drp id y) T' W ∧ ∀ k, T' k → T k ∨ w.heap.size ≤ k) ∧ Chg T w W from by rw [hA]; exact ⟨⟨T, hP.later hbl, fun k hk => .inl hk⟩, Chg.of_below hbl⟩)
    have hc : (lfSt s id = 0 ∧ lfDpE s id y = 6) ∨ ((lfSt s id = 1 ∨ lfSt s id = 2 ∨ lfSt s id = 3 ∨ lfSt s id = 4) ∧ ((y < 1 ∧ lfDpE s id y = 1) ∨ (1 ≤ y ∧ 4 < y ∧ lfDpE s id y = 1))) ∨ ((lfSt s id = 3 ∨ lfSt s id = 4) ∧ 1 ≤ y ∧ y ≤ 4 ∧ lfDpE s id y = 14) := by
      unfold lfDpE at hE ⊢
      generalize lfSt s id = x at *
      by_cases h0 : x = 0
      · exact .inl ⟨h0, if_pos h0⟩
      · rw [if_neg h0] at hE ⊢
        by_cases h2 : y < 1 ∨ 4 < y
        · rw [if_pos h2]; refine .inr (.inl ⟨by omega, ?_⟩)
          by_cases h3 : y < 1
          · exact .inl ⟨h3, rfl⟩
          · exact .inr ⟨by omega, by omega, rfl⟩
        · rw [if_neg h2] at hE ⊢
          by_cases h3 : x ≠ 1 ∧ x ≠ 2
          · rw [if_pos h3]; exact .inr (.inr ⟨by omega, by omega, by omega, rfl⟩)
          · rw [if_neg h3] at hE; exact absurd rfl hE
    clear hP hA hb hs hb9 hst h1 hE
    generalize lfSt s id = x at *
    generalize lfDpE s id y = r at *
    rcases hc with ⟨rfl, rfl⟩ | ⟨rfl | rfl | rfl | rfl, ⟨h5, rfl⟩ | ⟨h5, h6, rfl⟩⟩ | ⟨rfl | rfl, h5, h6, rfl⟩
    all_goals
      go_enter Try.func26, Try.ntmps26
      go_wp2_with fail
      (with_reducible refine HST.out.mono ?_); rintro e w1 ⟨rfl, hbl⟩
      have HX := Lib.hid (HF.out w1 hbl)
      clear hbl
      go_wp2
      go_ret
      first | exact ⟨rfl, HX.out⟩ | exact ⟨(), rfl, HX.out⟩
/-! ### Deliver -/
/-- Where Deliver goes through: what its last two steps read and leave. -/
theorem pfdlv_mem {R gp k f : Nat} {s : LfS} {id : Int} {e : LfE} {T : Nat → Prop} {w W : World} {cs : Array Value} {t : TypeId} (hb9 : LfB s 9999) (hO : LfO s) (hE : lfDvE s id = 0) (hK : LfK s id k f 2 e) (h : At T w (Star (BoxP gp t cs) (LpP R ((lpM s).mv k f 2 3 e))) W) :
    ∃ A0 c0 A c w3, W.cell? ⟨R, 1 + f * 8 + 6, none⟩ = some (.slice A0 (lfOd s f).length c0) ∧
      (Builtin.append_ #[22, 22] 22 #[.slice A0 (lfOd s f).length c0, .slice (some ⟨W.heap.size, 0, none⟩) 1 1]).run Try.prog (W.alloc (.cells #[.int .i64 id] 3)) = .ok (.slice A ((lfOd s f).length + 1) c) w3 ∧
      w3.cell? ⟨R, 1 + f * 8 + 6, none⟩ = some (.slice A0 (lfOd s f).length c0) ∧ w3.frozen? ⟨R, 1 + f * 8 + 6, none⟩ = false ∧
      ∃ W1, w3.setCell ⟨R, 1 + f * 8 + 6, none⟩ (.slice A ((lfOd s f).length + 1) c) = W1 ∧ Whole W1.drew gp t cs ∧ W1.drew.cell? ⟨R, 1 + f * 8 + 7, none⟩ = some (.int .i64 (lfBy s.l f)) ∧ W1.drew.frozen? ⟨R, 1 + f * 8 + 7, none⟩ = false ∧
        (∃ T', LfW R (s.dlv id) T' (W1.drew.setCell ⟨R, 1 + f * 8 + 7, none⟩ (.int .i64 (lfBy s.l f + e.n))) ∧ ∀ j, T' j → T j ∨ w.heap.size ≤ j) ∧ Chg T w (W1.drew.setCell ⟨R, 1 + f * 8 + 7, none⟩ (.int .i64 (lfBy s.l f + e.n))) := by
  have hA : s.dlv id = { s with l := lfUp s id 3 (lfWy s id), d := s.d ++ [id] } := by unfold LfS.dlv; rw [if_pos hE]
  have hO2 := hO.dlv id
  obtain ⟨B, hq, hre⟩ := h.more BoxP.frm
  have hol : ((lpM s).mv k f 2 3 e).o f = lfOd s f := rfl
  have hlen : (lfOd s f).length ≤ 99999 := by
    have h1 := List.length_filter_le (fun q => lfFl s q == f) s.d
    have h2 := hb9.d
    unfold lfOd; omega
  obtain ⟨A0, c0, A, c, w3, m1, m2, m3, m4, m5, m6⟩ := hq.addO hK.hfl (by rw [hol]; exact hlen) id
  rw [hol] at m1 m2 m3 m5 m6
  have h1 := hre ⟨m5, m6⟩
  obtain ⟨W1, hW1⟩ : ∃ W1, w3.setCell ⟨R, 1 + f * 8 + 6, none⟩ (.slice A ((lfOd s f).length + 1) c) = W1 := ⟨_, rfl⟩
  rw [hW1] at h1
  have h2 := h1.step (BoxP.frm.star (LpP.frm (base := 0))) ((Below.refl _ W1).drew)
  obtain ⟨B2, hq2, hre2⟩ := h2.more BoxP.frm
  obtain ⟨q1, z1⟩ := hq2.byt hK.hfl
  have hX := hq2.setB hK.hfl (lfBy s.l f + e.n)
  obtain ⟨T', h3, h4, h5⟩ := (hre2 ⟨⟨B2, hX.1, fun k hk => .inl hk⟩, hX.2⟩).drop
  refine ⟨A0, c0, A, c, w3, m1, m2, m3, m4, W1, hW1, At.boxed h2, q1, z1, ⟨T', ⟨hO2, ?_⟩, h4⟩, h5⟩
  rw [hA]
  have hfl : lfFl s id = f := by
    have h9 := hK.hi
    unfold lfFl; rw [dif_pos h9]
    have := hK.hkI; subst this
    rw [hK.he, hK.hf]
  have hwy : e.y = lfWy s id := by
    unfold lfWy; rw [dif_pos hK.hi]
    have := hK.hkI; subst this
    rw [hK.he]
  refine h3.moved hK.hi hK.hkI hK.he hK.hf hK.hj hK.hfl hK.hjl (x := (3 : Nat)) (by decide) (by decide) _ _ (fun g hg => ?_) ?_ rfl rfl (fun g hg => ?_)
  · show lfOd ⟨lfUp s id 3 (lfWy s id), s.d ++ [id], s.r⟩ g = if g = f then lfOd s f ++ [id] else lfOd s g
    rw [od_dlv, hfl]
    by_cases h9 : g = f
    · subst h9; rw [if_pos rfl, if_pos rfl]
    · rw [if_neg h9, if_neg (by omega), List.append_nil]
  · show s.l.set k { e with s := 3 } = _
    rw [← hwy]; rfl
  · show lfBy (lfUp s id 3 (lfWy s id)) g = if g = f then lfBy s.l f + e.n else lfBy s.l g
    rw [by_up hK.hi hK.hkI hK.he (by rw [hK.hj]; decide), hK.hf]
    by_cases h9 : g = f
    · subst h9; rw [if_pos rfl, if_pos ⟨rfl, rfl⟩]
    · rw [if_neg h9, if_neg (fun h => h9 (by omega)), Int.add_zero]
set_option maxRecDepth 100000 in
set_option maxHeartbeats 32000000 in
theorem pfdlv_any {R : Nat} {s : LfS} {base : Nat} (hb9 : LfB s 9999) (id : Int) : Acts 27 #[.pointer (some ⟨R, 0, none⟩), .int .i64 id] base (LfW R s) (fun _ : Unit => .int .i64 (lfDvE s id)) fun _ => LfW R (s.dlv id) := by
  intro T w hP hb hs
  have hst := (hP.1.ok.st id).2
  have hln := hb9.l
  have h1 := pffind_any (show s.l.length ≤ 99999 by omega) hP.2 id
  simp only [lpM] at h1
  have hsx := lpG_st s id
  by_cases h2 : lfSt s id = 2
  · obtain ⟨k, f, j, e, hK, hj, hy, hfl⟩ := LfK.of hP.1.ok (id := id) (by omega)
    obtain rfl : j = 2 := by omega
    have hen : 1 ≤ e.n ∧ e.n ≤ 4096 := by
      have := hP.1.ok.e _ (List.getElem_mem hK.hk)
      rw [hK.he] at this
      exact this.2.1
    rw [hK.hg] at h1
    have h1 := At.calm (At.start (w := w) (T := T) (P := LpP R (lpM s)) hP.2) (LpP.frm (base := base)) h1
    have HST := Lib.hid h1
    clear h1
    have hover0 := lfOver_nil (s := s) (id := id)
    have hover1 := fun q => lfOver_last hP.1 (id := id) hfl (q := q)
    rw [hfl] at hover0
    have HBX := Lib.hid (fun (W : World) (h : At T w (LpP R (lpM s)) W) (cs : Array Value) => h.box (LpP.frm (base := 0)) 62 cs)
    have HRD := Lib.hid (fun (W : World) (gp : Nat) (cs : Array Value) (h : At T w (Star (BoxP gp 62 cs) (LpP R (lpM s))) W) => show Whole W gp 62 cs ∧ ∃ A c, W.cell? ⟨R, 1 + f * 8 + 6, none⟩ = some (.slice A (lfOd s f).length c) ∧ (∀ k (hk : k < (lfOd s f).length), ∃ g, A = some ⟨g, 0, none⟩ ∧ (lfOd s f).length ≤ c ∧ W.cell? ⟨g, k, none⟩ = some (.int .i64 (lfOd s f)[k])) from by
      obtain ⟨B, hq⟩ := h.getR
      obtain ⟨A, c, d, _, d2, _⟩ := hq.ord hK.hfl
      exact ⟨At.boxed h, A, c, d, d2⟩)
    have HDR := Lib.hid (fun (W : World) (gp : Nat) (cs : Array Value) (h : At T w (Star (BoxP gp 62 cs) (LpP R (lpM s))) W) => h.step (BoxP.frm.star (LpP.frm (base := 0))) ((Below.refl _ W).drew))
    obtain ⟨ef, en, es, ey⟩ := e
    have hef := hK.hf
    have hes := hK.hj
    simp only at hef hes hen
    subst hef hes
    unfold lpV at HST
    simp only at HST
    by_cases hov : lfOver s id = true
    · have hE : lfDvE s id = 1 := by unfold lfDvE; rw [if_neg (by omega), if_neg (by omega), if_pos hov]
      have hA : s.dlv id = s := by unfold LfS.dlv; rw [hE, if_neg (by decide)]
      obtain ⟨q, hq⟩ : ∃ q, (lfOd s f).length = q + 1 := by
        rcases Nat.eq_zero_or_pos (lfOd s f).length with h | h
        · rw [hover0 h] at hov; cases hov
        · exact ⟨(lfOd s f).length - 1, by omega⟩
      have hlast : id < (lfOd s f)[q]'(by omega) := by
        have h9 := hover1 q hq
        rw [hov] at h9
        simpa using h9.symm
      have HF := Lib.hid (fun (W : World) (gp : Nat) (cs : Array Value) (h : At T w (Star (BoxP gp 62 cs) (LpP R (lpM s))) W) => show (∃ T', LfW R (s.dlv id) T' W ∧ ∀ k, T' k → T k ∨ w.heap.size ≤ k) ∧ Chg T w W from by
        obtain ⟨T', h3, h4, h5⟩ := h.drop
        rw [hA]
        exact ⟨⟨T', ⟨hP.1, h3⟩, h4⟩, h5⟩)
      have hqb : q ≤ 99999 := by
        have h1 := List.length_filter_le (fun q => lfFl s q == f) s.d
        have h2 := hb9.d
        have h3 : (lfOd s f).length = (s.d.filter fun q => lfFl s q == f).length := rfl
        omega
      have hff := hK.hfl
      have HQ := Lib.hid hq
      rw [hE]
      clear hP hA hE hb hs hb9 hst hj hy hfl hov hover0 hover1 hK hsx h2
      have hf0 : (0 : Int) ≤ (f : Int) := by omega
      have hf2 : (f : Int) < 32 := by omega
      have hw : IntKind.i64.wrap ((q : Int) + 1 - 1) = (q : Int) := by rw [IntWalk.i64_in _ (by omega)]; omega
      have hq0 : (0 : Int) < (q : Int) + 1 := by omega
      have hq1 : (0 : Int) ≤ (q : Int) := by omega
      have hq2 : (q : Int) < (q : Int) + 1 := by omega
      go_enter Try.func27, Try.ntmps27
      go_wp2_with fail
      (with_reducible refine HST.out.mono ?_); rintro e1 w1 ⟨rfl, h1⟩
      have hx1 := HBX.out w1 h1 #[.int .i64 (f : Int), .int .i64 en, .int .i64 2, .int .i64 ey]
      have hx2 := HDR.out _ _ _ hx1
      obtain ⟨gp, hgp⟩ : ∃ gp, w1.heap.size = gp := ⟨_, rfl⟩
      obtain ⟨W, hW⟩ : ∃ W, w1.alloc (.cells #[.int .i64 (f : Int), .int .i64 en, .int .i64 2, .int .i64 ey] 62) = W := ⟨_, rfl⟩
      have HW := Lib.hid hW
      have HGP := Lib.hid hgp
      rw [hW, hgp] at hx1 hx2
      have b1 := (HRD.out _ _ _ hx1).1
      obtain ⟨b2, A, c, d, d2⟩ := HRD.out _ _ _ hx2
      obtain ⟨ga, rfl, hc, d3⟩ := d2 q (by rw [HQ.out]; omega)
      rw [HQ.out] at d hc
      have p0 : W.drew.cell? ⟨gp, 0, none⟩ = some (.int .i64 (f : Nat)) := (b2.read 0).trans rfl
      have p2 : W.cell? ⟨gp, 2, none⟩ = some (.int .i64 2) := (b1.read 2).trans rfl
      have HF2 := Lib.hid (HF.out _ _ _ hx2)
      clear d2 h1 hx1 hx2 hW hgp b1 b2
      go_wp2_with fail
      rw [HW.out, HGP.out]
      refine wp_region_looseS 66 (by kernel_rfl) (by kernel_rfl) (StQ (W.drew) (fun i => [.pointer (some ⟨R, 0, none⟩), .pointer (some ⟨gp, 0, none⟩), .int .i64 (f : Nat), .pointer (some ⟨R, 0, none⟩), .pointer (some ⟨R, 1, none⟩), .pointer (some ⟨R, 1 + f * 8, none⟩), .pointer (some ⟨R, 1 + f * 8, none⟩)].getD i undef)) rfl StQ.start ?_ ?_
      · simp only [OblAllS]
        refine ⟨?_, ?_, ?_, ?_, ?_, ?_, ?_, trivial⟩
        · intro L wx vals hi hu hcl hC
          obtain rfl := hC.w
          have HCx := Lib.hid hC
          clear hC hcl hu hi
          simp only [fillA, if_true, Act.put]
          simp
          go_wp2
          exact ⟨rfl, HCx.out.quiet 0 rfl⟩
        · intro L wx vals hi hu hcl hC
          obtain rfl := hC.w
          have HCx := Lib.hid hC
          clear hC hcl hu hi
          simp only [fillA, if_true, Act.put]
          simp
          go_wp2
          exact ⟨rfl, HCx.out.quiet 1 rfl⟩
        · intro L wx vals hi hu hcl hC
          simp [predL, predE, Region.binds, UpL] at hu
          have e1 : vals 1 = .pointer (some ⟨gp, 0, none⟩) := hC.v 1 (by simp [hu])
          obtain rfl := hC.w
          have HCx := Lib.hid hC
          clear hC hcl hu hi
          simp only [fillA, if_true, Act.put]
          simp
          simp only [e1]
          clear e1
          go_wp2
          exact ⟨rfl, HCx.out.quiet 2 rfl⟩
        · intro L wx vals hi hu hcl hC
          simp [predL, predE, Region.binds, UpL] at hu
          have e0 : vals 0 = .pointer (some ⟨R, 0, none⟩) := hC.v 0 (by simp [hu])
          obtain rfl := hC.w
          have HCx := Lib.hid hC
          clear hC hcl hu hi
          simp only [fillA, if_true, Act.put]
          simp
          simp only [e0]
          clear e0
          go_wp2
          exact ⟨rfl, HCx.out.quiet 3 rfl⟩
        · intro L wx vals hi hu hcl hC
          simp [predL, predE, Region.binds, UpL] at hu
          have e3 : vals 3 = .pointer (some ⟨R, 0, none⟩) := hC.v 3 (by simp [hu])
          obtain rfl := hC.w
          have HCx := Lib.hid hC
          clear hC hcl hu hi
          simp only [fillA, if_true, Act.put]
          simp
          simp only [e3]
          clear e3
          go_wp2
          exact ⟨rfl, HCx.out.quiet 4 rfl⟩
        · intro L wx vals hi hu hcl hC
          simp [predL, predE, Region.binds, UpL] at hu
          have e2 : vals 2 = .int .i64 (f : Nat) := hC.v 2 (by simp [hu])
          have e4 : vals 4 = .pointer (some ⟨R, 1, none⟩) := hC.v 4 (by simp [hu])
          obtain rfl := hC.w
          have HCx := Lib.hid hC
          clear hC hcl hu hi
          simp only [fillA, if_true, Act.put]
          simp
          simp only [e2, e4]
          clear e2 e4
          go_wp2
          exact ⟨rfl, HCx.out.quiet 5 rfl⟩
        · intro L wx vals hi hu hcl hC
          simp [predL, predE, Region.binds, UpL] at hu
          have e5 : vals 5 = .pointer (some ⟨R, 1 + f * 8, none⟩) := hC.v 5 (by simp [hu])
          obtain rfl := hC.w
          have HCx := Lib.hid hC
          clear hC hcl hu hi
          simp only [fillA, if_true, Act.put]
          simp
          simp only [e5]
          clear e5
          go_wp2
          exact ⟨rfl, HCx.out.quiet 6 rfl⟩
      · intro wz vals U hC hall
        obtain rfl := hC.w
        have e6 : vals 6 = .pointer (some ⟨R, 1 + f * 8, none⟩) := hC.v 6 (hall 6 (by simp))
        simp only [fillA, if_true, Act.put]
        simp
        simp only [e6]
        clear hC hall e6
        generalize vals 0 = t0 at *
        generalize vals 1 = t1 at *
        generalize vals 2 = t2 at *
        generalize vals 3 = t3 at *
        generalize vals 4 = t4 at *
        generalize vals 5 = t5 at *
        clear p0
        go_wp2
        go_ret
        first | exact ⟨rfl, HF2.out⟩ | exact ⟨(), rfl, HF2.out⟩
    · have hov : lfOver s id = false := by simpa using hov
      have hE : lfDvE s id = 0 := by unfold lfDvE; rw [if_neg (by omega), if_neg (by omega), hov]; rfl
      have HM := Lib.hid (fun (gp : Nat) (cs : Array Value) => show Acts 38 #[.pointer (some ⟨R, 0, none⟩), .int .i64 id, .int .i64 3] base (Star (BoxP gp 62 cs) (LpP R (lpM s))) (fun _ : Unit => .tuple #[]) fun _ => Star (BoxP gp 62 cs) (LpP R ((lpM s).mv k f 2 3 ⟨f, en, (2 : Nat), ey⟩)) from Acts.right BoxP.frm (hK.move (x := (3 : Nat)) hb9 (by decide) (by decide)))
      have HG := Lib.hid (fun (W : World) (gp : Nat) (cs : Array Value) (h : At T w (Star (BoxP gp 62 cs) (LpP R ((lpM s).mv k f 2 3 ⟨f, en, (2 : Nat), ey⟩))) W) => pfdlv_mem hb9 hP.1 hE hK h)
      have hby : 0 ≤ lfBy s.l f ∧ lfBy s.l f ≤ 50000000 := by
        have h9 := lfBy_bd s.l f hP.1.ok.e s.l.length
        rw [List.take_length] at h9
        omega
      have hqb : (lfOd s f).length ≤ 99999 := by
        have h1 := List.length_filter_le (fun q => lfFl s q == f) s.d
        have h2 := hb9.d
        have h3 : (lfOd s f).length = (s.d.filter fun q => lfFl s q == f).length := rfl
        omega
      have hcase : (lfOd s f).length = 0 ∨ ∃ q, ∃ h : (lfOd s f).length = q + 1, (lfOd s f)[q]'(by omega) ≤ id := by
        rcases Nat.eq_zero_or_pos (lfOd s f).length with h | h
        · exact .inl h
        · have h8 : (lfOd s f).length = ((lfOd s f).length - 1) + 1 := by omega
          refine .inr ⟨_, h8, ?_⟩
          have h9 := hover1 _ h8
          rw [hov] at h9
          have h7 := of_decide_eq_false h9.symm
          omega
      have HB := Lib.hid hb
      have HS := Lib.hid hs
      have hff := hK.hfl
      rw [hE]
      clear hP hE hb hs hb9 hst hj hy hfl hov hover0 hover1 hK hsx h2 h1
      have hf0 : (0 : Int) ≤ (f : Int) := by omega
      have hf2 : (f : Int) < 32 := by omega
      have hwb : IntKind.i64.wrap (lfBy s.l f + en) = lfBy s.l f + en := IntWalk.i64_in _ (by omega)
      generalize lfBy s.l f = bb at *
      rcases hcase with hq | ⟨q, hq, hlast⟩
      · have HQ := Lib.hid hq
        clear hq
        go_enter Try.func27, Try.ntmps27
        go_wp2_with fail
        (with_reducible refine HST.out.mono ?_); rintro e1 w1 ⟨rfl, h1⟩
        have hx1 := HBX.out w1 h1 #[.int .i64 (f : Int), .int .i64 en, .int .i64 2, .int .i64 ey]
        have hx2 := HDR.out _ _ _ hx1
        obtain ⟨gp, hgp⟩ : ∃ gp, w1.heap.size = gp := ⟨_, rfl⟩
        obtain ⟨W, hW⟩ : ∃ W, w1.alloc (.cells #[.int .i64 (f : Int), .int .i64 en, .int .i64 2, .int .i64 ey] 62) = W := ⟨_, rfl⟩
        have HW := Lib.hid hW
        have HGP := Lib.hid hgp
        rw [hW, hgp] at hx1 hx2
        have b1 := (HRD.out _ _ _ hx1).1
        obtain ⟨b2, A, c, d, d2⟩ := HRD.out _ _ _ hx2
        rw [HQ.out] at d
        have p0 : W.drew.cell? ⟨gp, 0, none⟩ = some (.int .i64 (f : Nat)) := (b2.read 0).trans rfl
        have p2 : W.cell? ⟨gp, 2, none⟩ = some (.int .i64 2) := (b1.read 2).trans rfl
        have HX := Lib.hid (At.call1 hx2 HB.out HS.out (HM.out gp #[.int .i64 (f : Int), .int .i64 en, .int .i64 2, .int .i64 ey]))
        clear h1 hx1 hx2 hW hgp b1 b2
        go_wp2_with fail
        rw [HW.out, HGP.out]
        refine wp_region_looseS 66 (by kernel_rfl) (by kernel_rfl) (StQ (W.drew) (fun i => [.pointer (some ⟨R, 0, none⟩), .pointer (some ⟨gp, 0, none⟩), .int .i64 (f : Nat), .pointer (some ⟨R, 0, none⟩), .pointer (some ⟨R, 1, none⟩), .pointer (some ⟨R, 1 + f * 8, none⟩), .pointer (some ⟨R, 1 + f * 8, none⟩)].getD i undef)) rfl StQ.start ?_ ?_
        · simp only [OblAllS]
          refine ⟨?_, ?_, ?_, ?_, ?_, ?_, ?_, trivial⟩
          · intro L wx vals hi hu hcl hC
            obtain rfl := hC.w
            have HCx := Lib.hid hC
            clear hC hcl hu hi
            simp only [fillA, if_true, Act.put]
            simp
            go_wp2
            exact ⟨rfl, HCx.out.quiet 0 rfl⟩
          · intro L wx vals hi hu hcl hC
            obtain rfl := hC.w
            have HCx := Lib.hid hC
            clear hC hcl hu hi
            simp only [fillA, if_true, Act.put]
            simp
            go_wp2
            exact ⟨rfl, HCx.out.quiet 1 rfl⟩
          · intro L wx vals hi hu hcl hC
            simp [predL, predE, Region.binds, UpL] at hu
            have e1 : vals 1 = .pointer (some ⟨gp, 0, none⟩) := hC.v 1 (by simp [hu])
            obtain rfl := hC.w
            have HCx := Lib.hid hC
            clear hC hcl hu hi
            simp only [fillA, if_true, Act.put]
            simp
            simp only [e1]
            clear e1
            go_wp2
            exact ⟨rfl, HCx.out.quiet 2 rfl⟩
          · intro L wx vals hi hu hcl hC
            simp [predL, predE, Region.binds, UpL] at hu
            have e0 : vals 0 = .pointer (some ⟨R, 0, none⟩) := hC.v 0 (by simp [hu])
            obtain rfl := hC.w
            have HCx := Lib.hid hC
            clear hC hcl hu hi
            simp only [fillA, if_true, Act.put]
            simp
            simp only [e0]
            clear e0
            go_wp2
            exact ⟨rfl, HCx.out.quiet 3 rfl⟩
          · intro L wx vals hi hu hcl hC
            simp [predL, predE, Region.binds, UpL] at hu
            have e3 : vals 3 = .pointer (some ⟨R, 0, none⟩) := hC.v 3 (by simp [hu])
            obtain rfl := hC.w
            have HCx := Lib.hid hC
            clear hC hcl hu hi
            simp only [fillA, if_true, Act.put]
            simp
            simp only [e3]
            clear e3
            go_wp2
            exact ⟨rfl, HCx.out.quiet 4 rfl⟩
          · intro L wx vals hi hu hcl hC
            simp [predL, predE, Region.binds, UpL] at hu
            have e2 : vals 2 = .int .i64 (f : Nat) := hC.v 2 (by simp [hu])
            have e4 : vals 4 = .pointer (some ⟨R, 1, none⟩) := hC.v 4 (by simp [hu])
            obtain rfl := hC.w
            have HCx := Lib.hid hC
            clear hC hcl hu hi
            simp only [fillA, if_true, Act.put]
            simp
            simp only [e2, e4]
            clear e2 e4
            go_wp2
            exact ⟨rfl, HCx.out.quiet 5 rfl⟩
          · intro L wx vals hi hu hcl hC
            simp [predL, predE, Region.binds, UpL] at hu
            have e5 : vals 5 = .pointer (some ⟨R, 1 + f * 8, none⟩) := hC.v 5 (by simp [hu])
            obtain rfl := hC.w
            have HCx := Lib.hid hC
            clear hC hcl hu hi
            simp only [fillA, if_true, Act.put]
            simp
            simp only [e5]
            clear e5
            go_wp2
            exact ⟨rfl, HCx.out.quiet 6 rfl⟩
        · intro wz vals U hC hall
          obtain rfl := hC.w
          have e6 : vals 6 = .pointer (some ⟨R, 1 + f * 8, none⟩) := hC.v 6 (hall 6 (by simp))
          simp only [fillA, if_true, Act.put]
          simp
          simp only [e6]
          clear hC hall e6
          generalize vals 0 = t0 at *
          generalize vals 1 = t1 at *
          generalize vals 2 = t2 at *
          generalize vals 3 = t3 at *
          generalize vals 4 = t4 at *
          generalize vals 5 = t5 at *
          clear p0
          go_wp2_with fail
          (with_reducible refine HX.out.mono ?_); rintro e2 w2 ⟨rfl, h2⟩
          obtain ⟨A0, c0, A1, c1, w3, m1, hrun, m3, m4, W1, hW1, hwh, q1, z1, h3⟩ := HG.out _ _ _ h2
          have HF2 := Lib.hid h3
          have HW1 := Lib.hid hW1
          have p1 : W1.drew.cell? ⟨gp, 1, none⟩ = some (.int .i64 en) := (hwh.read 1).trans rfl
          clear h2 h3 hW1 hwh
          go_wp2_with (first | (at_builtin; refine wpList_append_run rfl (.tmp 51) (.tmp 53) 22 rfl rfl rfl hrun ?_) | fail)
          rw [HW1.out]
          refine wp_region_looseS 66 (by kernel_rfl) (by kernel_rfl) (StC (W1.drew) (W1.drew.setCell ⟨R, 1 + f * 8 + 7, none⟩ (.int .i64 (bb + en))) (fun i => [.pointer (some ⟨R, 1 + f * 8, none⟩), .pointer (some ⟨R, 1 + f * 8, none⟩), .pointer (some ⟨R, 1 + f * 8 + 7, none⟩), .int .i64 bb, .pointer (some ⟨gp, 1, none⟩), .int .i64 en, .int .i64 (bb + en), .pointer (some ⟨R, 1 + f * 8, none⟩), .pointer (some ⟨R, 1 + f * 8 + 7, none⟩)].getD i undef) 9) rfl StC.start ?_ ?_
          · simp only [OblAllS]
            refine ⟨?_, ?_, ?_, ?_, ?_, ?_, ?_, ?_, ?_, ?_, trivial⟩
            · intro L wx vals hi hu hcl hC
              simp [ClosedL, UpL, predL, predE, Region.binds] at hcl
              have hst : L 9 = false := by clear hC; cases h : L 9 with | false => rfl | true => exfalso; clear HF2 HST HM HG HB HS HX; first | (simp_all; done) | grind
              obtain rfl := hC.a hst
              have HCx := Lib.hid hC
              clear hC hcl hu hi hst
              simp only [fillA, if_true, Act.put]
              simp
              go_wp2
              exact ⟨rfl, HCx.out.quiet (by decide) rfl⟩
            · intro L wx vals hi hu hcl hC
              simp [ClosedL, UpL, predL, predE, Region.binds] at hcl
              simp [predL, predE, Region.binds, UpL] at hu
              have hst : L 9 = false := by clear hC; cases h : L 9 with | false => rfl | true => exfalso; clear HF2 HST HM HG HB HS HX; first | (simp_all; done) | grind
              have e0 : vals 0 = .pointer (some ⟨R, 1 + f * 8, none⟩) := hC.v 0 (by decide) (by simp [hu])
              obtain rfl := hC.a hst
              have HCx := Lib.hid hC
              clear hC hcl hu hi hst
              simp only [fillA, if_true, Act.put]
              simp
              simp only [e0]
              clear e0
              go_wp2
              exact ⟨rfl, HCx.out.quiet (by decide) rfl⟩
            · intro L wx vals hi hu hcl hC
              simp [ClosedL, UpL, predL, predE, Region.binds] at hcl
              simp [predL, predE, Region.binds, UpL] at hu
              have hst : L 9 = false := by clear hC; cases h : L 9 with | false => rfl | true => exfalso; clear HF2 HST HM HG HB HS HX; first | (simp_all; done) | grind
              have e1 : vals 1 = .pointer (some ⟨R, 1 + f * 8, none⟩) := hC.v 1 (by decide) (by simp [hu])
              obtain rfl := hC.a hst
              have HCx := Lib.hid hC
              clear hC hcl hu hi hst
              simp only [fillA, if_true, Act.put]
              simp
              simp only [e1]
              clear e1
              go_wp2
              exact ⟨rfl, HCx.out.quiet (by decide) rfl⟩
            · intro L wx vals hi hu hcl hC
              simp [ClosedL, UpL, predL, predE, Region.binds] at hcl
              simp [predL, predE, Region.binds, UpL] at hu
              have hst : L 9 = false := by clear hC; cases h : L 9 with | false => rfl | true => exfalso; clear HF2 HST HM HG HB HS HX; first | (simp_all; done) | grind
              have e2 : vals 2 = .pointer (some ⟨R, 1 + f * 8 + 7, none⟩) := hC.v 2 (by decide) (by simp [hu])
              obtain rfl := hC.a hst
              have HCx := Lib.hid hC
              clear hC hcl hu hi hst
              simp only [fillA, if_true, Act.put]
              simp
              simp only [e2]
              clear e2
              go_wp2
              exact ⟨rfl, HCx.out.quiet (by decide) rfl⟩
            · intro L wx vals hi hu hcl hC
              simp [ClosedL, UpL, predL, predE, Region.binds] at hcl
              have hst : L 9 = false := by clear hC; cases h : L 9 with | false => rfl | true => exfalso; clear HF2 HST HM HG HB HS HX; first | (simp_all; done) | grind
              obtain rfl := hC.a hst
              have HCx := Lib.hid hC
              clear hC hcl hu hi hst
              simp only [fillA, if_true, Act.put]
              simp
              go_wp2
              exact ⟨rfl, HCx.out.quiet (by decide) rfl⟩
            · intro L wx vals hi hu hcl hC
              simp [ClosedL, UpL, predL, predE, Region.binds] at hcl
              simp [predL, predE, Region.binds, UpL] at hu
              have hst : L 9 = false := by clear hC; cases h : L 9 with | false => rfl | true => exfalso; clear HF2 HST HM HG HB HS HX; first | (simp_all; done) | grind
              have e4 : vals 4 = .pointer (some ⟨gp, 1, none⟩) := hC.v 4 (by decide) (by simp [hu])
              obtain rfl := hC.a hst
              have HCx := Lib.hid hC
              clear hC hcl hu hi hst
              simp only [fillA, if_true, Act.put]
              simp
              simp only [e4]
              clear e4
              go_wp2
              exact ⟨rfl, HCx.out.quiet (by decide) rfl⟩
            · intro L wx vals hi hu hcl hC
              simp [ClosedL, UpL, predL, predE, Region.binds] at hcl
              simp [predL, predE, Region.binds, UpL] at hu
              have hst : L 9 = false := by clear hC; cases h : L 9 with | false => rfl | true => exfalso; clear HF2 HST HM HG HB HS HX; first | (simp_all; done) | grind
              have e3 : vals 3 = .int .i64 bb := hC.v 3 (by decide) (by simp [hu])
              have e5 : vals 5 = .int .i64 en := hC.v 5 (by decide) (by simp [hu])
              obtain rfl := hC.a hst
              have HCx := Lib.hid hC
              clear hC hcl hu hi hst
              simp only [fillA, if_true, Act.put]
              simp
              simp only [e3, e5]
              clear e3 e5
              go_wp2
              exact ⟨rfl, HCx.out.quiet (by decide) rfl⟩
            · intro L wx vals hi hu hcl hC
              simp [ClosedL, UpL, predL, predE, Region.binds] at hcl
              simp [predL, predE, Region.binds, UpL] at hu
              have hst : L 9 = false := by clear hC; cases h : L 9 with | false => rfl | true => exfalso; clear HF2 HST HM HG HB HS HX; first | (simp_all; done) | grind
              have e0 : vals 0 = .pointer (some ⟨R, 1 + f * 8, none⟩) := hC.v 0 (by decide) (by simp [hu])
              obtain rfl := hC.a hst
              have HCx := Lib.hid hC
              clear hC hcl hu hi hst
              simp only [fillA, if_true, Act.put]
              simp
              simp only [e0]
              clear e0
              go_wp2
              exact ⟨rfl, HCx.out.quiet (by decide) rfl⟩
            · intro L wx vals hi hu hcl hC
              simp [ClosedL, UpL, predL, predE, Region.binds] at hcl
              simp [predL, predE, Region.binds, UpL] at hu
              have hst : L 9 = false := by clear hC; cases h : L 9 with | false => rfl | true => exfalso; clear HF2 HST HM HG HB HS HX; first | (simp_all; done) | grind
              have e7 : vals 7 = .pointer (some ⟨R, 1 + f * 8, none⟩) := hC.v 7 (by decide) (by simp [hu])
              obtain rfl := hC.a hst
              have HCx := Lib.hid hC
              clear hC hcl hu hi hst
              simp only [fillA, if_true, Act.put]
              simp
              simp only [e7]
              clear e7
              go_wp2
              exact ⟨rfl, HCx.out.quiet (by decide) rfl⟩
            · intro L wx vals hi hu hcl hC
              simp [ClosedL, UpL, predL, predE, Region.binds] at hcl
              simp [predL, predE, Region.binds, UpL] at hu
              have hst : L 9 = false := hi
              have e6 : vals 6 = .int .i64 (bb + en) := hC.v 6 (by decide) (by simp [hu])
              have e8 : vals 8 = .pointer (some ⟨R, 1 + f * 8 + 7, none⟩) := hC.v 8 (by decide) (by simp [hu])
              obtain rfl := hC.a hst
              have HCx := Lib.hid hC
              clear hC hcl hu hi hst
              simp only [fillA, if_true, Act.put]
              simp
              simp only [e6, e8]
              clear e6 e8
              go_wp2
              exact ⟨rfl, HCx.out.write⟩
          · intro wz vals U hC hall
            have hz := hC.b (hall 9 (by simp))
            subst hz
            simp only [fillA, if_true, Act.put]
            simp
            clear hC hall p1 q1 z1
            generalize vals 0 = t0 at *
            generalize vals 1 = t1 at *
            generalize vals 2 = t2 at *
            generalize vals 3 = t3 at *
            generalize vals 4 = t4 at *
            generalize vals 5 = t5 at *
            generalize vals 6 = t6 at *
            generalize vals 7 = t7 at *
            generalize vals 8 = t8 at *
            go_wp2
            go_ret
            first | exact ⟨rfl, HF2.out⟩ | exact ⟨(), rfl, HF2.out⟩
      · have HQ := Lib.hid hq
        have hqb2 : q ≤ 99998 := by omega
        have hw : IntKind.i64.wrap ((q : Int) + 1 - 1) = (q : Int) := by rw [IntWalk.i64_in _ (by omega)]; omega
        have hq0 : (0 : Int) < (q : Int) + 1 := by omega
        have hq1 : (0 : Int) ≤ (q : Int) := by omega
        have hq2 : (q : Int) < (q : Int) + 1 := by omega
        have hqlt : q < (lfOd s f).length := by omega
        obtain ⟨lst, hls⟩ : ∃ l, (lfOd s f)[q] = l := ⟨_, rfl⟩
        have HLS := Lib.hid hls
        rw [hls] at hlast
        have hnl : ¬ id < lst := by omega
        clear hls hlast hq
        go_enter Try.func27, Try.ntmps27
        go_wp2_with fail
        (with_reducible refine HST.out.mono ?_); rintro e1 w1 ⟨rfl, h1⟩
        have hx1 := HBX.out w1 h1 #[.int .i64 (f : Int), .int .i64 en, .int .i64 2, .int .i64 ey]
        have hx2 := HDR.out _ _ _ hx1
        obtain ⟨gp, hgp⟩ : ∃ gp, w1.heap.size = gp := ⟨_, rfl⟩
        obtain ⟨W, hW⟩ : ∃ W, w1.alloc (.cells #[.int .i64 (f : Int), .int .i64 en, .int .i64 2, .int .i64 ey] 62) = W := ⟨_, rfl⟩
        have HW := Lib.hid hW
        have HGP := Lib.hid hgp
        rw [hW, hgp] at hx1 hx2
        have b1 := (HRD.out _ _ _ hx1).1
        obtain ⟨b2, A, c, d, d2⟩ := HRD.out _ _ _ hx2
        obtain ⟨ga, rfl, hc, d3⟩ := d2 q hqlt
        rw [HQ.out] at d hc
        rw [HLS.out] at d3
        have p0 : W.drew.cell? ⟨gp, 0, none⟩ = some (.int .i64 (f : Nat)) := (b2.read 0).trans rfl
        have p2 : W.cell? ⟨gp, 2, none⟩ = some (.int .i64 2) := (b1.read 2).trans rfl
        have HX := Lib.hid (At.call1 hx2 HB.out HS.out (HM.out gp #[.int .i64 (f : Int), .int .i64 en, .int .i64 2, .int .i64 ey]))
        clear h1 hx1 hx2 hW hgp b1 b2
        go_wp2_with fail
        rw [HW.out, HGP.out]
        refine wp_region_looseS 66 (by kernel_rfl) (by kernel_rfl) (StQ (W.drew) (fun i => [.pointer (some ⟨R, 0, none⟩), .pointer (some ⟨gp, 0, none⟩), .int .i64 (f : Nat), .pointer (some ⟨R, 0, none⟩), .pointer (some ⟨R, 1, none⟩), .pointer (some ⟨R, 1 + f * 8, none⟩), .pointer (some ⟨R, 1 + f * 8, none⟩)].getD i undef)) rfl StQ.start ?_ ?_
        · simp only [OblAllS]
          refine ⟨?_, ?_, ?_, ?_, ?_, ?_, ?_, trivial⟩
          · intro L wx vals hi hu hcl hC
            obtain rfl := hC.w
            have HCx := Lib.hid hC
            clear hC hcl hu hi
            simp only [fillA, if_true, Act.put]
            simp
            go_wp2
            exact ⟨rfl, HCx.out.quiet 0 rfl⟩
          · intro L wx vals hi hu hcl hC
            obtain rfl := hC.w
            have HCx := Lib.hid hC
            clear hC hcl hu hi
            simp only [fillA, if_true, Act.put]
            simp
            go_wp2
            exact ⟨rfl, HCx.out.quiet 1 rfl⟩
          · intro L wx vals hi hu hcl hC
            simp [predL, predE, Region.binds, UpL] at hu
            have e1 : vals 1 = .pointer (some ⟨gp, 0, none⟩) := hC.v 1 (by simp [hu])
            obtain rfl := hC.w
            have HCx := Lib.hid hC
            clear hC hcl hu hi
            simp only [fillA, if_true, Act.put]
            simp
            simp only [e1]
            clear e1
            go_wp2
            exact ⟨rfl, HCx.out.quiet 2 rfl⟩
          · intro L wx vals hi hu hcl hC
            simp [predL, predE, Region.binds, UpL] at hu
            have e0 : vals 0 = .pointer (some ⟨R, 0, none⟩) := hC.v 0 (by simp [hu])
            obtain rfl := hC.w
            have HCx := Lib.hid hC
            clear hC hcl hu hi
            simp only [fillA, if_true, Act.put]
            simp
            simp only [e0]
            clear e0
            go_wp2
            exact ⟨rfl, HCx.out.quiet 3 rfl⟩
          · intro L wx vals hi hu hcl hC
            simp [predL, predE, Region.binds, UpL] at hu
            have e3 : vals 3 = .pointer (some ⟨R, 0, none⟩) := hC.v 3 (by simp [hu])
            obtain rfl := hC.w
            have HCx := Lib.hid hC
            clear hC hcl hu hi
            simp only [fillA, if_true, Act.put]
            simp
            simp only [e3]
            clear e3
            go_wp2
            exact ⟨rfl, HCx.out.quiet 4 rfl⟩
          · intro L wx vals hi hu hcl hC
            simp [predL, predE, Region.binds, UpL] at hu
            have e2 : vals 2 = .int .i64 (f : Nat) := hC.v 2 (by simp [hu])
            have e4 : vals 4 = .pointer (some ⟨R, 1, none⟩) := hC.v 4 (by simp [hu])
            obtain rfl := hC.w
            have HCx := Lib.hid hC
            clear hC hcl hu hi
            simp only [fillA, if_true, Act.put]
            simp
            simp only [e2, e4]
            clear e2 e4
            go_wp2
            exact ⟨rfl, HCx.out.quiet 5 rfl⟩
          · intro L wx vals hi hu hcl hC
            simp [predL, predE, Region.binds, UpL] at hu
            have e5 : vals 5 = .pointer (some ⟨R, 1 + f * 8, none⟩) := hC.v 5 (by simp [hu])
            obtain rfl := hC.w
            have HCx := Lib.hid hC
            clear hC hcl hu hi
            simp only [fillA, if_true, Act.put]
            simp
            simp only [e5]
            clear e5
            go_wp2
            exact ⟨rfl, HCx.out.quiet 6 rfl⟩
        · intro wz vals U hC hall
          obtain rfl := hC.w
          have e6 : vals 6 = .pointer (some ⟨R, 1 + f * 8, none⟩) := hC.v 6 (hall 6 (by simp))
          simp only [fillA, if_true, Act.put]
          simp
          simp only [e6]
          clear hC hall e6
          generalize vals 0 = t0 at *
          generalize vals 1 = t1 at *
          generalize vals 2 = t2 at *
          generalize vals 3 = t3 at *
          generalize vals 4 = t4 at *
          generalize vals 5 = t5 at *
          clear p0
          go_wp2_with fail
          (with_reducible refine HX.out.mono ?_); rintro e2 w2 ⟨rfl, h2⟩
          obtain ⟨A0, c0, A1, c1, w3, m1, hrun, m3, m4, W1, hW1, hwh, q1, z1, h3⟩ := HG.out _ _ _ h2
          have HF2 := Lib.hid h3
          have HW1 := Lib.hid hW1
          have p1 : W1.drew.cell? ⟨gp, 1, none⟩ = some (.int .i64 en) := (hwh.read 1).trans rfl
          clear h2 h3 hW1 hwh
          go_wp2_with (first | (at_builtin; refine wpList_append_run rfl (.tmp 51) (.tmp 53) 22 rfl rfl rfl hrun ?_) | fail)
          rw [HW1.out]
          refine wp_region_looseS 66 (by kernel_rfl) (by kernel_rfl) (StC (W1.drew) (W1.drew.setCell ⟨R, 1 + f * 8 + 7, none⟩ (.int .i64 (bb + en))) (fun i => [.pointer (some ⟨R, 1 + f * 8, none⟩), .pointer (some ⟨R, 1 + f * 8, none⟩), .pointer (some ⟨R, 1 + f * 8 + 7, none⟩), .int .i64 bb, .pointer (some ⟨gp, 1, none⟩), .int .i64 en, .int .i64 (bb + en), .pointer (some ⟨R, 1 + f * 8, none⟩), .pointer (some ⟨R, 1 + f * 8 + 7, none⟩)].getD i undef) 9) rfl StC.start ?_ ?_
          · simp only [OblAllS]
            refine ⟨?_, ?_, ?_, ?_, ?_, ?_, ?_, ?_, ?_, ?_, trivial⟩
            · intro L wx vals hi hu hcl hC
              simp [ClosedL, UpL, predL, predE, Region.binds] at hcl
              have hst : L 9 = false := by clear hC; cases h : L 9 with | false => rfl | true => exfalso; clear HF2 HST HM HG HB HS HX; first | (simp_all; done) | grind
              obtain rfl := hC.a hst
              have HCx := Lib.hid hC
              clear hC hcl hu hi hst
              simp only [fillA, if_true, Act.put]
              simp
              go_wp2
              exact ⟨rfl, HCx.out.quiet (by decide) rfl⟩
            · intro L wx vals hi hu hcl hC
              simp [ClosedL, UpL, predL, predE, Region.binds] at hcl
              simp [predL, predE, Region.binds, UpL] at hu
              have hst : L 9 = false := by clear hC; cases h : L 9 with | false => rfl | true => exfalso; clear HF2 HST HM HG HB HS HX; first | (simp_all; done) | grind
              have e0 : vals 0 = .pointer (some ⟨R, 1 + f * 8, none⟩) := hC.v 0 (by decide) (by simp [hu])
              obtain rfl := hC.a hst
              have HCx := Lib.hid hC
              clear hC hcl hu hi hst
              simp only [fillA, if_true, Act.put]
              simp
              simp only [e0]
              clear e0
              go_wp2
              exact ⟨rfl, HCx.out.quiet (by decide) rfl⟩
            · intro L wx vals hi hu hcl hC
              simp [ClosedL, UpL, predL, predE, Region.binds] at hcl
              simp [predL, predE, Region.binds, UpL] at hu
              have hst : L 9 = false := by clear hC; cases h : L 9 with | false => rfl | true => exfalso; clear HF2 HST HM HG HB HS HX; first | (simp_all; done) | grind
              have e1 : vals 1 = .pointer (some ⟨R, 1 + f * 8, none⟩) := hC.v 1 (by decide) (by simp [hu])
              obtain rfl := hC.a hst
              have HCx := Lib.hid hC
              clear hC hcl hu hi hst
              simp only [fillA, if_true, Act.put]
              simp
              simp only [e1]
              clear e1
              go_wp2
              exact ⟨rfl, HCx.out.quiet (by decide) rfl⟩
            · intro L wx vals hi hu hcl hC
              simp [ClosedL, UpL, predL, predE, Region.binds] at hcl
              simp [predL, predE, Region.binds, UpL] at hu
              have hst : L 9 = false := by clear hC; cases h : L 9 with | false => rfl | true => exfalso; clear HF2 HST HM HG HB HS HX; first | (simp_all; done) | grind
              have e2 : vals 2 = .pointer (some ⟨R, 1 + f * 8 + 7, none⟩) := hC.v 2 (by decide) (by simp [hu])
              obtain rfl := hC.a hst
              have HCx := Lib.hid hC
              clear hC hcl hu hi hst
              simp only [fillA, if_true, Act.put]
              simp
              simp only [e2]
              clear e2
              go_wp2
              exact ⟨rfl, HCx.out.quiet (by decide) rfl⟩
            · intro L wx vals hi hu hcl hC
              simp [ClosedL, UpL, predL, predE, Region.binds] at hcl
              have hst : L 9 = false := by clear hC; cases h : L 9 with | false => rfl | true => exfalso; clear HF2 HST HM HG HB HS HX; first | (simp_all; done) | grind
              obtain rfl := hC.a hst
              have HCx := Lib.hid hC
              clear hC hcl hu hi hst
              simp only [fillA, if_true, Act.put]
              simp
              go_wp2
              exact ⟨rfl, HCx.out.quiet (by decide) rfl⟩
            · intro L wx vals hi hu hcl hC
              simp [ClosedL, UpL, predL, predE, Region.binds] at hcl
              simp [predL, predE, Region.binds, UpL] at hu
              have hst : L 9 = false := by clear hC; cases h : L 9 with | false => rfl | true => exfalso; clear HF2 HST HM HG HB HS HX; first | (simp_all; done) | grind
              have e4 : vals 4 = .pointer (some ⟨gp, 1, none⟩) := hC.v 4 (by decide) (by simp [hu])
              obtain rfl := hC.a hst
              have HCx := Lib.hid hC
              clear hC hcl hu hi hst
              simp only [fillA, if_true, Act.put]
              simp
              simp only [e4]
              clear e4
              go_wp2
              exact ⟨rfl, HCx.out.quiet (by decide) rfl⟩
            · intro L wx vals hi hu hcl hC
              simp [ClosedL, UpL, predL, predE, Region.binds] at hcl
              simp [predL, predE, Region.binds, UpL] at hu
              have hst : L 9 = false := by clear hC; cases h : L 9 with | false => rfl | true => exfalso; clear HF2 HST HM HG HB HS HX; first | (simp_all; done) | grind
              have e3 : vals 3 = .int .i64 bb := hC.v 3 (by decide) (by simp [hu])
              have e5 : vals 5 = .int .i64 en := hC.v 5 (by decide) (by simp [hu])
              obtain rfl := hC.a hst
              have HCx := Lib.hid hC
              clear hC hcl hu hi hst
              simp only [fillA, if_true, Act.put]
              simp
              simp only [e3, e5]
              clear e3 e5
              go_wp2
              exact ⟨rfl, HCx.out.quiet (by decide) rfl⟩
            · intro L wx vals hi hu hcl hC
              simp [ClosedL, UpL, predL, predE, Region.binds] at hcl
              simp [predL, predE, Region.binds, UpL] at hu
              have hst : L 9 = false := by clear hC; cases h : L 9 with | false => rfl | true => exfalso; clear HF2 HST HM HG HB HS HX; first | (simp_all; done) | grind
              have e0 : vals 0 = .pointer (some ⟨R, 1 + f * 8, none⟩) := hC.v 0 (by decide) (by simp [hu])
              obtain rfl := hC.a hst
              have HCx := Lib.hid hC
              clear hC hcl hu hi hst
              simp only [fillA, if_true, Act.put]
              simp
              simp only [e0]
              clear e0
              go_wp2
              exact ⟨rfl, HCx.out.quiet (by decide) rfl⟩
            · intro L wx vals hi hu hcl hC
              simp [ClosedL, UpL, predL, predE, Region.binds] at hcl
              simp [predL, predE, Region.binds, UpL] at hu
              have hst : L 9 = false := by clear hC; cases h : L 9 with | false => rfl | true => exfalso; clear HF2 HST HM HG HB HS HX; first | (simp_all; done) | grind
              have e7 : vals 7 = .pointer (some ⟨R, 1 + f * 8, none⟩) := hC.v 7 (by decide) (by simp [hu])
              obtain rfl := hC.a hst
              have HCx := Lib.hid hC
              clear hC hcl hu hi hst
              simp only [fillA, if_true, Act.put]
              simp
              simp only [e7]
              clear e7
              go_wp2
              exact ⟨rfl, HCx.out.quiet (by decide) rfl⟩
            · intro L wx vals hi hu hcl hC
              simp [ClosedL, UpL, predL, predE, Region.binds] at hcl
              simp [predL, predE, Region.binds, UpL] at hu
              have hst : L 9 = false := hi
              have e6 : vals 6 = .int .i64 (bb + en) := hC.v 6 (by decide) (by simp [hu])
              have e8 : vals 8 = .pointer (some ⟨R, 1 + f * 8 + 7, none⟩) := hC.v 8 (by decide) (by simp [hu])
              obtain rfl := hC.a hst
              have HCx := Lib.hid hC
              clear hC hcl hu hi hst
              simp only [fillA, if_true, Act.put]
              simp
              simp only [e6, e8]
              clear e6 e8
              go_wp2
              exact ⟨rfl, HCx.out.write⟩
          · intro wz vals U hC hall
            have hz := hC.b (hall 9 (by simp))
            subst hz
            simp only [fillA, if_true, Act.put]
            simp
            clear hC hall p1 q1 z1
            generalize vals 0 = t0 at *
            generalize vals 1 = t1 at *
            generalize vals 2 = t2 at *
            generalize vals 3 = t3 at *
            generalize vals 4 = t4 at *
            generalize vals 5 = t5 at *
            generalize vals 6 = t6 at *
            generalize vals 7 = t7 at *
            generalize vals 8 = t8 at *
            go_wp2
            go_ret
            first | exact ⟨rfl, HF2.out⟩ | exact ⟨(), rfl, HF2.out⟩
  · have hE : (lfSt s id = 0 ∧ lfDvE s id = 6) ∨ (lfSt s id = 1 ∧ lfDvE s id = 14) ∨ (lfSt s id = 3 ∧ lfDvE s id = 14) ∨ (lfSt s id = 4 ∧ lfDvE s id = 14) := by
      unfold lfDvE
      rcases (by omega : lfSt s id = 0 ∨ lfSt s id = 1 ∨ lfSt s id = 3 ∨ lfSt s id = 4) with e | e | e | e <;> simp [e]
    have hA : s.dlv id = s := by
      unfold LfS.dlv
      rw [if_neg (by omega)]
    have HF := Lib.hid (fun (W : World) (hbl : Below w.heap.size w W) => show (∃ T', LfW R (s.dlv id) T' W ∧ ∀ k, T' k → T k ∨ w.heap.size ≤ k) ∧ Chg T w W from by rw [hA]; exact ⟨⟨T, hP.later hbl, fun k hk => .inl hk⟩, Chg.of_below hbl⟩)
    have HST := Lib.hid h1
    rw [hsx] at hE
    clear hP hA hb hs hb9 hst h1 h2 hsx
    unfold Calm lpV at HST
    generalize lpG s.l id = x at *
    generalize lfDvE s id = r at *
    obtain ⟨x1, x2, x3, x4⟩ := x
    simp only at *
    rcases hE with ⟨rfl, rfl⟩ | ⟨rfl, rfl⟩ | ⟨rfl, rfl⟩ | ⟨rfl, rfl⟩
    all_goals
      go_enter Try.func27, Try.ntmps27
      go_wp2_with fail
      (with_reducible refine HST.out.mono ?_); rintro e w1 ⟨rfl, hbl⟩
      have HX := Lib.hid (fun o => HF.out (w1.alloc o) (hbl.alloc hbl.size o))
      clear hbl
      go_wp2
      go_ret
      first | exact ⟨rfl, HX.out _⟩ | exact ⟨(), rfl, HX.out _⟩
end Go.Proofs.Ytkhngfadhfomoaa

