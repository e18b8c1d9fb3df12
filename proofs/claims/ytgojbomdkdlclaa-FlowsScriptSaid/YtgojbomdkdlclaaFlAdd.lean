/-
  Layer 10: contracts of the program's copied, AddStation, Find.
-/
import Derived.Test.YtgojbomdkdlclaaFlProg2
import Derived.Test.YtgojbomdkdlclaaPcShelf
import Derived.Deep.RegionWith
namespace Go.Proofs.Ytgojbomdkdlclaa
open Go.ChangeShapes Go.WideShapes Go.ChangeAt Go.RowKit
set_option linter.unusedVariables false

theorem clone10 (s : ByteArray) (hs : s.size ≤ 2000000) (w : World) : Calls Try.prog 54 #[.string s] w fun e w' => e = .returned (.string s) ∧ Below w.heap.size w w' := by
  have H := Lib.hid (fun w => pc_clone0 s w (by omega))
  go_enter Try.func54, Try.ntmps54
  go_wp2_with fail
  (with_reducible refine (H.out _).mono ?_); rintro e w1 ⟨rfl, hb⟩
  go_wp2
  go_ret
  exact ⟨rfl, hb⟩
/-- Two blocks of four cells of the call's own. -/
theorem two4 {w w1 : World} {t : TypeId} {a0 a1 a2 a3 b0 b1 b2 b3 : Value} (hb : Below ((w.alloc (.cells #[a0, a1, a2, a3] t)).alloc (.cells #[b0, b1, b2, b3] t)).heap.size ((w.alloc (.cells #[a0, a1, a2, a3] t)).alloc (.cells #[b0, b1, b2, b3] t)) w1) :
    Whole w1 w.heap.size t #[a0, a1, a2, a3] ∧ Whole w1 (w.heap.size + 1) t #[b0, b1, b2, b3] ∧ Below w.heap.size w w1 := by
  have h1 := (Whole.fresh w t #[a0, a1, a2, a3]).alloc (.cells #[b0, b1, b2, b3] t)
  have h2 := Whole.fresh (w.alloc (.cells #[a0, a1, a2, a3] t)) t #[b0, b1, b2, b3]
  have e : (w.alloc (.cells #[a0, a1, a2, a3] t)).heap.size = w.heap.size + 1 := by simp
  rw [e] at h2
  have hB : Below w.heap.size w ((w.alloc (.cells #[a0, a1, a2, a3] t)).alloc (.cells #[b0, b1, b2, b3] t)) := ((Below.refl _ _).alloc (Nat.le_refl _) _).alloc (by simp) _
  exact ⟨h1.carry (hb.block _ h1.size_lt), h2.carry (hb.block _ h2.size_lt), hB.trans (hb.mono hB.size)⟩
theorem Whole.four {w : World} {g : Nat} {t : TypeId} {a0 a1 a2 a3 : Value} (h : Whole w g t #[a0, a1, a2, a3]) :
    w.cell? ⟨g, 0, none⟩ = some a0 ∧ w.cell? ⟨g, 1, none⟩ = some a1 ∧ w.cell? ⟨g, 2, none⟩ = some a2 ∧ w.cell? ⟨g, 3, none⟩ = some a3 ∧ w.frozen? ⟨g, 0, none⟩ = false ∧ w.frozen? ⟨g, 1, none⟩ = false ∧ w.frozen? ⟨g, 2, none⟩ = false ∧ w.frozen? ⟨g, 3, none⟩ = false :=
  ⟨by rw [h.read]; rfl, by rw [h.read]; rfl, by rw [h.read]; rfl, by rw [h.read]; rfl, h.free _, h.free _, h.free _, h.free _⟩
theorem copied_any (i x r : Int) (s : ByteArray) (hs : s.size ≤ 2000000) (w : World) :
    Calls Try.prog 44 #[.agg #[.int .i64 i, .string s, .int .i64 x, .int .i64 r]] w (Quiet (.agg #[.int .i64 i, .string s, .int .i64 x, .int .i64 r]) w) := by
  have H := Lib.hid (fun w => clone10 s hs w)
  unfold Quiet
  go_enter Try.func44, Try.ntmps44
  go_wp2_with fail
  (with_reducible refine (H.out _).mono ?_); rintro e w1 ⟨rfl, hb⟩
  obtain ⟨H1, H2, H3⟩ := two4 hb
  obtain ⟨c0, c1, c2, c3, f0, f1, f2, f3⟩ := H1.four
  obtain ⟨d0, d1, d2, d3, g0, g1, g2, g3⟩ := H2.four
  have HF := Lib.hid (((((H3.setCell (p := ⟨w.heap.size, 1, none⟩) (Nat.le_refl _) (.string s)).setCell (p := ⟨w.heap.size + 1, 0, none⟩) (by show w.heap.size ≤ w.heap.size + 1; omega) (.int .i64 i)).setCell (p := ⟨w.heap.size + 1, 1, none⟩) (by show w.heap.size ≤ w.heap.size + 1; omega) (.string s)).setCell (p := ⟨w.heap.size + 1, 2, none⟩) (by show w.heap.size ≤ w.heap.size + 1; omega) (.int .i64 x)).setCell (p := ⟨w.heap.size + 1, 3, none⟩) (by show w.heap.size ≤ w.heap.size + 1; omega) (.int .i64 r))
  clear hb H1 H2 H3
  go_wp2
  exact bodyPost_ret (v := .agg #[.int .i64 i, .string s, .int .i64 x, .int .i64 r]) (by simp [results, Try.results44, go_sem, d0, d1, d2, d3]) rfl ⟨rfl, HF.out⟩
theorem as_1 {t : Tb} {n : ByteArray} {w r : Int} (h : ((nam n).isSome && gwB w && decide (0 ≤ r) && decide (r < t.rt)) = false) : asE t n w r = 1 ∧ asX t n w r = 0 ∧ asT t n w r = t := by
  have e : asE t n w r = 1 := by unfold asE; rw [if_pos h]
  exact ⟨e, by unfold asX; rw [if_neg (by rw [e]; decide)], by unfold asT; rw [if_neg (by rw [e]; decide)]⟩
theorem as_7 {t : Tb} {n : ByteArray} {w r : Int} (h : ((nam n).isSome && gwB w && decide (0 ≤ r) && decide (r < t.rt)) = true) (h1 : (fndN t.S n).isSome = true) : asE t n w r = 7 ∧ asX t n w r = 0 ∧ asT t n w r = t := by
  have e : asE t n w r = 7 := by unfold asE; rw [if_neg (by rw [h]; decide), if_pos h1]
  exact ⟨e, by unfold asX; rw [if_neg (by rw [e]; decide)], by unfold asT; rw [if_neg (by rw [e]; decide)]⟩
theorem as_4 {t : Tb} {n : ByteArray} {w r : Int} (h : ((nam n).isSome && gwB w && decide (0 ≤ r) && decide (r < t.rt)) = true) (h1 : (fndN t.S n).isSome = false) (h2 : 16 ≤ t.S.length) : asE t n w r = 4 ∧ asX t n w r = 0 ∧ asT t n w r = t := by
  have e : asE t n w r = 4 := by unfold asE; rw [if_neg (by rw [h]; decide), if_neg (by rw [h1]; decide), if_pos h2]
  exact ⟨e, by unfold asX; rw [if_neg (by rw [e]; decide)], by unfold asT; rw [if_neg (by rw [e]; decide)]⟩
def newS (t : Tb) (n : ByteArray) (w r : Int) : Sta := ⟨t.S.length, n, w, r⟩
theorem as_0 {t : Tb} {n : ByteArray} {w r : Int} (h : ((nam n).isSome && gwB w && decide (0 ≤ r) && decide (r < t.rt)) = true) (h1 : (fndN t.S n).isSome = false) (h2 : ¬ 16 ≤ t.S.length) : asE t n w r = 0 ∧ asX t n w r = t.S.length ∧ asT t n w r = { t with S := t.S ++ [newS t n w r] } := by
  have e : asE t n w r = 0 := by unfold asE; rw [if_neg (by rw [h]; decide), if_neg (by rw [h1]; decide), if_neg h2]
  exact ⟨e, by unfold asX; rw [if_pos e], by unfold asT; rw [if_pos e]; rfl⟩
theorem fE_no {s : ByteArray} (h : (nam s).isSome = false) : fE s = 1 := by
  unfold fE; cases h1 : nam s with
  | none => rfl
  | some m => rw [h1] at h; cases h
theorem fE_yes {s : ByteArray} (h : (nam s).isSome = true) : fE s = 0 ∧ s.size ≤ 24 ∧ (fS s).size ≤ 1000 := by
  unfold fE; cases h1 : nam s with
  | none => rw [h1] at h; cases h
  | some m =>
    refine ⟨rfl, (nam_size h1).1, ?_⟩
    unfold fS
    rw [h1]
    obtain ⟨l, rfl, h2, _⟩ := nam_some h1
    have h3 := (pat_some h2).2.2.2.2.2.2
    have key : ∀ x : List Nat, (encs x).length ≤ 4 * x.length := fun x => by
      induction x with
      | nil => simp [encs]
      | cons a x ih => rw [encs_cons, List.length_append, List.length_cons]; have := enc_len a; omega
    have h4 := key (l.map foldN)
    rw [List.length_map] at h4
    show (encs (l.map foldN)).toArray.size ≤ 1000
    rw [List.size_toArray]; omega
theorem and4 {a b c d : Bool} : (a && b && c && d) = false ↔ a = false ∨ (a = true ∧ b = false) ∨ (a = true ∧ b = true ∧ c = false) ∨ (a = true ∧ b = true ∧ c = true ∧ d = false) := by
  cases a <;> cases b <;> cases c <;> cases d <;> simp
set_option maxHeartbeats 2000000 in
theorem addStation_bad {C H : Nat} {S : Nat → Prop} {t : Tb} {w : World} (h : PO C H S t w) (n : ByteArray) (x r : Int) (hc : ((nam n).isSome && gwB x && decide (0 ≤ r) && decide (r < t.rt)) = false) :
    Calls Try.prog 14 #[.pointer (some ⟨H, 0, none⟩), .string n, .int .i64 x, .int .i64 r] w (PAns C H S t (.tuple #[.int .i64 0, .int .i64 1]) w) := by
  have HN := fold_name n w
  unfold FoldAns at HN
  have HST := Lib.hid (fun w' (hb : Below w.heap.size w w') => PAns.stay (x := .tuple #[.int .i64 0, .int .i64 1]) h hb)
  have HW := Lib.hid (fun w => isWeight_any x w)
  have hlo := h.lo
  obtain ⟨h0, ⟨vS, vF, mb, h1, hS⟩, hO⟩ := h
  obtain ⟨c0, c1, c2, c3, c4, f2, f3⟩ := h1.cells
  have hrt := h0.rt
  generalize t.rt = rt at *
  generalize fS n = ft at *
  rcases and4.1 hc with a | ⟨a, b⟩ | ⟨a, b, c⟩ | ⟨a, b, c, d⟩
  · rw [fE_no a] at HN
    have HN := Lib.hid HN
    clear h1 h0 c0 c1 c2 c3 c4 hc a
    go_enter Try.func14, Try.ntmps14
    go_wp2_with fail
    (with_reducible refine HN.out.mono ?_); rintro e w1 ⟨rfl, hb⟩
    have HF := Lib.hid (HST.out w1 hb)
    go_wp2
    go_ret2
    exact HF.out
  · rw [(fE_yes a).1] at HN
    have HN := Lib.hid HN
    rw [b] at HW
    clear h1 h0 c0 c1 c2 c3 c4 hc a b
    go_enter Try.func14, Try.ntmps14
    go_wp2_with fail
    (with_reducible refine HN.out.mono ?_); rintro e w1 ⟨rfl, hb⟩
    have HF := Lib.hid (HST.out w1 hb)
    clear hb
    go_wp2_with fail
    (with_reducible refine (HW.out _).mono ?_); rintro e w' ⟨rfl, rfl⟩
    go_wp2
    go_ret2
    exact HF.out
  · rw [(fE_yes a).1] at HN
    have HN := Lib.hid HN
    rw [b] at HW
    have hr : r < 0 := by simpa using c
    clear h1 h0 c0 c1 c2 c3 c4 hc a b c
    go_enter Try.func14, Try.ntmps14
    go_wp2_with fail
    (with_reducible refine HN.out.mono ?_); rintro e w1 ⟨rfl, hb⟩
    have HF := Lib.hid (HST.out w1 hb)
    clear hb
    go_wp2_with fail
    (with_reducible refine (HW.out _).mono ?_); rintro e w' ⟨rfl, rfl⟩
    go_wp2
    go_ret2
    exact HF.out
  · rw [(fE_yes a).1] at HN
    have HN := Lib.hid HN
    rw [b] at HW
    have hr00 : 0 ≤ r := by simpa using c
    have hr0 : ¬ r < 0 := by omega
    clear hr00
    have hr : rt ≤ r := by simpa using d
    have hH := hlo.2
    clear h1 h0 c0 c2 c3 c4 hc a b c d
    go_enter Try.func14, Try.ntmps14
    go_wp2_with fail
    (with_reducible refine HN.out.mono ?_); rintro e w1 ⟨rfl, hb⟩
    have HF := Lib.hid (HST.out w1 hb)
    have c1 := cell_on c1 hb
    clear hb
    go_wp2_with fail
    (with_reducible refine (HW.out _).mono ?_); rintro e w' ⟨rfl, rfl⟩
    go_wp2
    go_ret2
    exact HF.out
/-- What the last steps of AddStation leave, from the world behind copied on. -/
structure AddsS (w : World) (C H mb : Nat) (t t' : Tb) (vS vF : Value) (k : ByteArray) (nw : List Value) (w2 : World) (A2 : Option Addr) (c2 : Nat) (w3 w4 : World) : Prop where
  app : (Builtin.append_ #[56, 56] 56 #[vS, .slice (some ⟨w2.heap.size, 0, none⟩) 1 1]).run Try.prog (w2.alloc (.cells nw.toArray 68)) = .ok (.slice A2 (t.S.length + 1) c2) w3
  q2 : w3.cell? ⟨H, 2, none⟩ = some vS
  qf : w3.frozen? ⟨H, 2, none⟩ = false
  q4 : w3.cell? ⟨H, 4, none⟩ = some (.map (some mb))
  upd : (Instr.mapUpdate 55 (.map (some mb)) (.string k) (.int .i64 (t.S.length : Nat))).run Try.prog (w3.setCell ⟨H, 2, none⟩ (.slice A2 (t.S.length + 1) c2)) = .ok () w4
  pw : PW w4 C H mb t' (.slice A2 (t.S.length + 1) c2) vF
  chg : Chg (pfoot H mb vS vF) w w4
  foot : ∀ k, pfoot H mb (.slice A2 (t.S.length + 1) c2) vF k → pfoot H mb vS vF k ∨ w.heap.size ≤ k
theorem PW.addS {w w2 : World} {C H mb : Nat} {t : Tb} {vS vF : Value} (h : PW w C H mb t vS vF) (hb : Below w.heap.size w w2) (hl : t.S.length ≤ 16) (s : Sta) (hk : (fS s.nm).size ≤ 1000) (hn : keyOf t.S (fS s.nm) = none) :
    ∃ A2 c2 w3 w4, AddsS w C H mb t { t with S := t.S ++ [s] } vS vF (fS s.nm) (csS s) w2 A2 c2 w3 w4 := by
  have hsz := hb.size
  have hlo := (h.lt H (.inl rfl))
  have hb' := hb.alloc hsz (.cells (csS s).toArray 68)
  obtain ⟨v2, w3, hrun, he, hg, hv⟩ := run_append_one (P := Try.prog) (w := w2.alloc (.cells (csS s).toArray 68)) 56 56 Try.underlying56 info_sta rfl (by decide) (row_from h.rowS hb') ⟨w2.heap.size, 0, none⟩ (csS_len s) (newCells w2 _ _) (csS_one _) (by omega) (by decide) (by simp; omega)
  obtain ⟨A2, c2, rfl⟩ := ow_shape he
  obtain ⟨b1, b2, b3⟩ := h.afterS hb' hg
  obtain ⟨_, _, d2, _, d4, df⟩ := blk5 (b1.trans h.blk)
  have hmb := (h.apart).1
  have hm3 : NumMap (w3.setCell ⟨H, 2, none⟩ (.slice A2 (t.S.length + 1) c2)) mb t.S := h.map.keep ((Below.heap_setCell w3 ⟨H, 2, none⟩ _ mb hmb).trans b2)
  obtain ⟨w4, hup, hm4, hg4⟩ := hm3.store s (by unfold maxLen; omega) hn (by omega)
  rw [← srs_snoc] at he
  obtain ⟨p1, p2, p3⟩ := h.pushS (t' := { t with S := t.S ++ [s] }) hb' hg hv (by simpa using he) rfl hm4 hg4 rfl rfl rfl rfl
  exact ⟨A2, c2, w3, w4, hrun, d2, df 2, d4, hup, p1, p2, p3⟩
set_option maxRecDepth 100000 in
set_option maxHeartbeats 4000000 in
theorem addStation_good {C H : Nat} {S : Nat → Prop} {t : Tb} {w : World} (h : PO C H S t w) (n : ByteArray) (x r : Int) (hc : ((nam n).isSome && gwB x && decide (0 ≤ r) && decide (r < t.rt)) = true) :
    Calls Try.prog 14 #[.pointer (some ⟨H, 0, none⟩), .string n, .int .i64 x, .int .i64 r] w (PAns C H S (asT t n x r) (.tuple #[.int .i64 (asX t n x r), .int .i64 (asE t n x r)]) w) := by
  have HN := fold_name n w
  unfold FoldAns at HN
  have HST := Lib.hid (fun x w' (hb : Below w.heap.size w w') => PAns.stay (x := x) h hb)
  have HT := Lib.hid (TbOk.addS h.1 n x r)
  have hlo := h.lo
  have hc' := hc
  simp only [Bool.and_eq_true, decide_eq_true_eq] at hc'
  obtain ⟨⟨⟨q1, q2⟩, q3⟩, q4⟩ := hc'
  obtain ⟨n1, n2, n3⟩ := fE_yes q1
  rw [n1] at HN
  have HN := Lib.hid HN
  have HW := isWeight_any x
  rw [q2] at HW
  have HW := Lib.hid HW
  have hr0 : ¬ r < 0 := by omega
  have hr1 : ¬ t.rt ≤ r := by omega
  obtain ⟨h0, ⟨vS, vF, mb, h1, hS⟩, hO⟩ := h
  have hkf := key_fnd (fun s hs => (h0.nms s hs).1) q1
  have HM := Lib.hid (fun w' (hb : Below w.heap.size w w') => (h1.below hb).map.look (fS n) (by unfold maxLen; omega))
  rw [hkf] at HM
  have HK := Lib.hid (fun w' (hb : Below w.heap.size w w') => (h1.below hb).cells)
  have hf := h0.few
  cases k1 : (fndN t.S n).isSome
  · rw [k1] at HM
    obtain ⟨A, c, rfl⟩ := ow_shape h1.rowS
    by_cases k2 : 16 ≤ t.S.length
    · obtain ⟨e1, e2, e3⟩ := as_4 hc k1 k2
      rw [e1, e2, e3]
      have k4 : t.S.length = 16 := by omega
      rw [k4] at HK
      generalize t.rt = rt at *
      clear e1 e2 e3 h1 h0 hc hkf k1 n1 hf q1 q2 k2 hO hS
      generalize fS n = ft at *
      go_enter Try.func14, Try.ntmps14
      go_wp2_with fail
      (with_reducible refine HN.out.mono ?_); rintro e w1 ⟨rfl, hb⟩
      have HF := Lib.hid (fun x => HST.out x w1 hb)
      obtain ⟨c0, c1, c2, c3, c4, f2, f3⟩ := HK.out w1 hb
      have hl := HM.out w1 hb
      clear hb
      go_wp2_with fail
      (with_reducible refine (HW.out _).mono ?_); rintro e w' ⟨rfl, rfl⟩
      go_wp2
      go_ret2
      exact HF.out _
    · obtain ⟨e1, e2, e3⟩ := as_0 hc k1 k2
      rw [e1, e2]
      rw [e3] at HT ⊢
      have k4 : ((t.S.length : Int) == 16) = false := beq_eq_false_iff_ne.2 (by omega)
      have HCP := Lib.hid (fun w => copied_any t.S.length x r n (by omega) w)
      unfold Quiet at HCP
      have hkn : keyOf t.S (fS n) = none := by rw [hkf]; cases hz : fndN t.S n with
        | none => rfl
        | some z => rw [hz] at k1; cases k1
      have HALL := Lib.hid (fun w2 (hb : Below w.heap.size w w2) => h1.addS hb (by omega) (newS t n x r) n3 hkn)
      have HC : C ≤ w.heap.size := by omega
      have h1h := Lib.hid h1
      have hsl : t.S.length < 16 := by omega
      generalize hrt : t.rt = rt at *
      clear e1 e2 e3 h1 hkf k1 n1 hf q1 q2 k2 hc HST
      go_enter Try.func14, Try.ntmps14
      go_wp2_with fail
      (with_reducible refine HN.out.mono ?_); rintro e w1 ⟨rfl, hb⟩
      obtain ⟨c0, c1, c2, c3, c4, f2, f3⟩ := HK.out w1 hb
      have hl := HM.out w1 hb
      have HB := Lib.hid hb
      clear hb
      go_wp2_with fail
      (with_reducible refine (HW.out _).mono ?_); rintro e w' ⟨rfl, rfl⟩
      go_wp2_with fail
      have hl2 := HB.out.size
      refine wp_region_any (by kernel_rfl) ?_
      try (change wpAny _ _ _ _ _ _ _ (World.drew _))
      refine wpAny_take (i := 0) (v := ?_) rfl (by kernel_rfl) (by kernel_rfl) (by kernel_rfl) (fun _ _ _ h => h) (Or.inl ⟨by rfl, ?_⟩) ?_; rotate_left 1; focus (intro w; go_simp; try with_reducible rfl)
      refine wpAny_take (i := 1) (v := ?_) rfl (by kernel_rfl) (by kernel_rfl) (by kernel_rfl) (fun _ _ _ h => h) (Or.inl ⟨by rfl, ?_⟩) ?_; rotate_left 1; focus (intro w; go_simp; try with_reducible rfl)
      refine wpAny_take (i := 2) (v := ?_) rfl (by kernel_rfl) (by kernel_rfl) (by kernel_rfl) (fun _ _ _ h => h) (Or.inl ⟨by rfl, ?_⟩) ?_; rotate_left 1; focus (intro w; go_simp; try with_reducible rfl)
      refine wpAny_take (i := 3) (v := ?_) rfl (by kernel_rfl) (by kernel_rfl) (by kernel_rfl) (fun _ _ _ h => h) (Or.inl ⟨by rfl, ?_⟩) ?_; rotate_left 1; focus (intro w; go_simp; try with_reducible rfl)
      refine wpAny_take (i := 5) (v := ?_) rfl (by kernel_rfl) (by kernel_rfl) (by kernel_rfl) (fun _ _ _ h => h) (Or.inl ⟨by rfl, ?_⟩) ?_; rotate_left 1; focus (intro w; go_simp; try with_reducible rfl)
      refine wpAny_take (i := 6) (v := ?_) rfl (by kernel_rfl) (by kernel_rfl) (by kernel_rfl) (fun _ _ _ h => h) (Or.inl ⟨by rfl, ?_⟩) ?_; rotate_left 1; focus (intro w; go_simp; try with_reducible rfl)
      refine wpAny_take (i := 7) (v := ?_) rfl (by kernel_rfl) (by kernel_rfl) (by kernel_rfl) (fun _ _ _ h => h) (Or.inl ⟨by rfl, ?_⟩) ?_; rotate_left 1; focus (intro w; go_simp; try with_reducible rfl)
      refine wpAny_take (i := 8) (v := ?_) rfl (by kernel_rfl) (by kernel_rfl) (by kernel_rfl) (fun _ _ _ h => h) (Or.inl ⟨by rfl, ?_⟩) ?_; rotate_left 1; focus (intro w; go_simp; try with_reducible rfl)
      refine wpAny_take (i := 9) (v := ?_) rfl (by kernel_rfl) (by kernel_rfl) (by kernel_rfl) (fun _ _ _ h => h) (Or.inl ⟨by rfl, ?_⟩) ?_; rotate_left 1; focus (intro w; go_simp; try with_reducible rfl)
      refine wpAny_ready (rs := [4, 10]) (by kernel_rfl) (by simp) ?_
      refine AllReady.cons rfl (fun K hK => ?_) (AllReady.cons rfl (fun K hK => ?_) AllReady.nil)
      · go_simp; refine hK _ _ ?_; clear hK K
        refine wpAny_ready (rs := [10]) (by kernel_rfl) (by simp) ?_
        refine AllReady.cons rfl (fun K hK => ?_) AllReady.nil
        go_simp; go_wp2_with (go_at_call 44; (with_reducible refine (HCP.out _).mono ?_); rintro e w2 ⟨rfl, hb2⟩; obtain ⟨A2, c2', w3, w4, HA⟩ := HALL.out w2 (HB.out.drew.trans (hb2.mono HB.out.size)); have a2 := HA.q2; have a3 := HA.qf; have a4 := HA.q4; have a5 := HA.upd; simp only [newS] at a5; have d2 := (h1h.out.below (HB.out.drew.trans (hb2.mono HB.out.size))).cells.2.2.1; have d3 := fun (o : Obj) => cell_alloc_of d2 o; replace HA := Lib.hid HA; clear hb2)
        refine wpAny_ready (rs := [11]) (by kernel_rfl) (by simp) ?_
        refine AllReady.cons rfl (fun K hK => ?_) AllReady.nil
        go_simp; refine hK _ _ ?_; clear hK K
        refine wpAny_ready (rs := [12]) (by kernel_rfl) (by simp) ?_
        refine AllReady.cons rfl (fun K hK => ?_) AllReady.nil
        rw [if_pos (by rfl)]; refine wp_append_one (.tmp 60) (.tmp 67) 56 rfl rfl rfl HA.out.app ?_; refine hK _ _ ?_; clear hK K
        refine wpAny_take (i := 13) (v := ?_) rfl (by kernel_rfl) (by kernel_rfl) (by kernel_rfl) (fun _ _ _ h => h) (Or.inl ⟨by rfl, ?_⟩) ?_; rotate_left 1; focus (intro w; go_simp; try with_reducible rfl)
        refine wpAny_take (i := 14) (v := ?_) rfl (by kernel_rfl) (by kernel_rfl) (by kernel_rfl) (fun _ _ _ h => h) (Or.inl ⟨by rfl, ?_⟩) ?_; rotate_left 1; focus (intro w; go_simp; try with_reducible rfl)
        refine wpAny_ready (rs := [15]) (by kernel_rfl) (by simp) ?_
        refine AllReady.cons rfl (fun K hK => ?_) AllReady.nil
        go_simp; refine hK _ _ ?_; clear hK K
        refine wpAny_done (by kernel_rfl) ?_ _
        have HF := Lib.hid (PAns.done (x := .tuple #[.int .i64 t.S.length, .int .i64 0]) hO hS HT.out HA.out.pw HA.out.chg HA.out.foot)
        go_wp2
        go_ret2
        exact HF.out
      · go_simp; go_wp2_with (go_at_call 44; (with_reducible refine (HCP.out _).mono ?_); rintro e w2 ⟨rfl, hb2⟩; obtain ⟨A2, c2', w3, w4, HA⟩ := HALL.out w2 (HB.out.drew.trans (hb2.mono HB.out.size)); have a2 := HA.q2; have a3 := HA.qf; have a4 := HA.q4; have a5 := HA.upd; simp only [newS] at a5; have d2 := (h1h.out.below (HB.out.drew.trans (hb2.mono HB.out.size))).cells.2.2.1; have d3 := fun (o : Obj) => cell_alloc_of d2 o; replace HA := Lib.hid HA; clear hb2)
        refine wpAny_ready (rs := [4, 11]) (by kernel_rfl) (by simp) ?_
        refine AllReady.cons rfl (fun K hK => ?_) (AllReady.cons rfl (fun K hK => ?_) AllReady.nil)
        · go_simp; refine hK _ _ ?_; clear hK K
          refine wpAny_ready (rs := [11]) (by kernel_rfl) (by simp) ?_
          refine AllReady.cons rfl (fun K hK => ?_) AllReady.nil
          go_simp; refine hK _ _ ?_; clear hK K
          refine wpAny_ready (rs := [12]) (by kernel_rfl) (by simp) ?_
          refine AllReady.cons rfl (fun K hK => ?_) AllReady.nil
          rw [if_pos (by rfl)]; refine wp_append_one (.tmp 60) (.tmp 67) 56 rfl rfl rfl HA.out.app ?_; refine hK _ _ ?_; clear hK K
          refine wpAny_take (i := 13) (v := ?_) rfl (by kernel_rfl) (by kernel_rfl) (by kernel_rfl) (fun _ _ _ h => h) (Or.inl ⟨by rfl, ?_⟩) ?_; rotate_left 1; focus (intro w; go_simp; try with_reducible rfl)
          refine wpAny_take (i := 14) (v := ?_) rfl (by kernel_rfl) (by kernel_rfl) (by kernel_rfl) (fun _ _ _ h => h) (Or.inl ⟨by rfl, ?_⟩) ?_; rotate_left 1; focus (intro w; go_simp; try with_reducible rfl)
          refine wpAny_ready (rs := [15]) (by kernel_rfl) (by simp) ?_
          refine AllReady.cons rfl (fun K hK => ?_) AllReady.nil
          go_simp; refine hK _ _ ?_; clear hK K
          refine wpAny_done (by kernel_rfl) ?_ _
          have HF := Lib.hid (PAns.done (x := .tuple #[.int .i64 t.S.length, .int .i64 0]) hO hS HT.out HA.out.pw HA.out.chg HA.out.foot)
          go_wp2
          go_ret2
          exact HF.out
        · go_simp; refine hK _ _ ?_; clear hK K
          refine wpAny_ready (rs := [4]) (by kernel_rfl) (by simp) ?_
          refine AllReady.cons rfl (fun K hK => ?_) AllReady.nil
          go_simp; refine hK _ _ ?_; clear hK K
          refine wpAny_ready (rs := [12]) (by kernel_rfl) (by simp) ?_
          refine AllReady.cons rfl (fun K hK => ?_) AllReady.nil
          rw [if_pos (by rfl)]; refine wp_append_one (.tmp 60) (.tmp 67) 56 rfl rfl rfl HA.out.app ?_; refine hK _ _ ?_; clear hK K
          refine wpAny_take (i := 13) (v := ?_) rfl (by kernel_rfl) (by kernel_rfl) (by kernel_rfl) (fun _ _ _ h => h) (Or.inl ⟨by rfl, ?_⟩) ?_; rotate_left 1; focus (intro w; go_simp; try with_reducible rfl)
          refine wpAny_take (i := 14) (v := ?_) rfl (by kernel_rfl) (by kernel_rfl) (by kernel_rfl) (fun _ _ _ h => h) (Or.inl ⟨by rfl, ?_⟩) ?_; rotate_left 1; focus (intro w; go_simp; try with_reducible rfl)
          refine wpAny_ready (rs := [15]) (by kernel_rfl) (by simp) ?_
          refine AllReady.cons rfl (fun K hK => ?_) AllReady.nil
          go_simp; refine hK _ _ ?_; clear hK K
          refine wpAny_done (by kernel_rfl) ?_ _
          have HF := Lib.hid (PAns.done (x := .tuple #[.int .i64 t.S.length, .int .i64 0]) hO hS HT.out HA.out.pw HA.out.chg HA.out.foot)
          go_wp2
          go_ret2
          exact HF.out
  · rw [k1] at HM
    obtain ⟨e1, e2, e3⟩ := as_7 hc k1
    rw [e1, e2, e3]
    generalize t.rt = rt at *
    clear e1 e2 e3 h1 h0 hc hkf k1 n1 hf q1 q2 hO hS
    generalize fS n = ft at *
    go_enter Try.func14, Try.ntmps14
    go_wp2_with fail
    (with_reducible refine HN.out.mono ?_); rintro e w1 ⟨rfl, hb⟩
    have HF := Lib.hid (fun x => HST.out x w1 hb)
    obtain ⟨c0, c1, c2, c3, c4, f2, f3⟩ := HK.out w1 hb
    have hl := HM.out w1 hb
    clear hb
    go_wp2_with fail
    (with_reducible refine (HW.out _).mono ?_); rintro e w' ⟨rfl, rfl⟩
    go_wp2
    go_ret2
    exact HF.out _
theorem addStation_any {C H : Nat} {S : Nat → Prop} {t : Tb} {w : World} (h : PO C H S t w) (n : ByteArray) (x r : Int) :
    Calls Try.prog 14 #[.pointer (some ⟨H, 0, none⟩), .string n, .int .i64 x, .int .i64 r] w (PAns C H S (asT t n x r) (.tuple #[.int .i64 (asX t n x r), .int .i64 (asE t n x r)]) w) := by
  cases hc : ((nam n).isSome && gwB x && decide (0 ≤ r) && decide (r < t.rt))
  · obtain ⟨e1, e2, e3⟩ := as_1 hc
    rw [e1, e2, e3]; exact addStation_bad h n x r hc
  · exact addStation_good h n x r hc
def fdV (S : List Sta) (n : ByteArray) : Int := ((fndN S n).getD 0 : Nat)
theorem find_any {C H : Nat} {S : Nat → Prop} {t : Tb} {w : World} (h : PO C H S t w) (n : ByteArray) :
    Calls Try.prog 23 #[.pointer (some ⟨H, 0, none⟩), .string n] w (Quiet (.tuple #[.int .i64 (fdV t.S n), .bool (fndN t.S n).isSome]) w) := by
  have HN := fold_name n w
  unfold FoldAns at HN
  obtain ⟨h0, ⟨vS, vF, mb, h1, hS⟩, hO⟩ := h
  have HK := Lib.hid (fun w' (hb : Below w.heap.size w w') => (h1.below hb).cells)
  unfold Quiet fdV
  cases q1 : (nam n).isSome
  · rw [fnd_no q1]
    rw [fE_no q1] at HN
    have HN := Lib.hid HN
    clear h1 h0 q1
    generalize fS n = ft at *
    go_enter Try.func23, Try.ntmps23
    go_wp2_with fail
    (with_reducible refine HN.out.mono ?_); rintro e w1 ⟨rfl, hb⟩
    have hb := Lib.hid hb
    go_wp2
    go_ret2
    exact ⟨rfl, hb.out⟩
  · obtain ⟨n1, n2, n3⟩ := fE_yes q1
    rw [n1] at HN
    have HN := Lib.hid HN
    have hkf := key_fnd (fun s hs => (h0.nms s hs).1) q1
    have HM := Lib.hid (fun w' (hb : Below w.heap.size w w') => (h1.below hb).map.look (fS n) (by unfold maxLen; omega))
    rw [hkf] at HM
    clear h1 h0 q1 n1 hkf
    generalize fndN t.S n = fd at *
    generalize fS n = ft at *
    go_enter Try.func23, Try.ntmps23
    go_wp2_with fail
    (with_reducible refine HN.out.mono ?_); rintro e w1 ⟨rfl, hb⟩
    obtain ⟨c0, c1, c2, c3, c4, f2, f3⟩ := HK.out w1 hb
    have hl := HM.out w1 hb
    have hb := Lib.hid hb
    go_wp2
    go_ret2
    exact ⟨rfl, hb.out⟩
end Go.Proofs.Ytgojbomdkdlclaa

