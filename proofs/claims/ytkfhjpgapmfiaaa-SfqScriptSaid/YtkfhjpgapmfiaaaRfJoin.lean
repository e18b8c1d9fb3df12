/-
  Layer 13: contract of the reference's Join. Written by gen_rfjoin.py.
-/
import Derived.Test.YtkfhjpgapmfiaaaRfLow
import Derived.Test.YtkfhjpgapmfiaaaStA
namespace Go.Proofs.Ytkfhjpgapmfiaaa
open Go.ChangeShapes Go.WideShapes Go.ChangeAt Go.RowKit
set_option linter.unusedVariables false

theorem jn_flt_ne {O : List Tg} {n k : Nat} (hk : k < O.length) (h : O[k].f ≠ n) : (O.take (k + 1)).filter (fun t => decide (t.f ≠ (n : Int))) = (O.take k).filter (fun t => decide (t.f ≠ (n : Int))) ++ [O[k]] := by
  rw [List.take_succ_eq_append_getElem hk, List.filter_append]; simp [h]
theorem jn_flt_eq {O : List Tg} {n k : Nat} (hk : k < O.length) (h : O[k].f = n) : (O.take (k + 1)).filter (fun t => decide (t.f ≠ (n : Int))) = (O.take k).filter (fun t => decide (t.f ≠ (n : Int))) := by
  rw [List.take_succ_eq_append_getElem hk, List.filter_append]; simp [h]
theorem jn_om_ne {O : List Tg} {n k : Nat} (hk : k < O.length) (h : O[k].f ≠ n) : omL (O.take (k + 1)) n = omL (O.take k) n := by
  rw [List.take_succ_eq_append_getElem hk, omL_app]
  have := omL_nonneg (O.take k) n
  simp only [omL]; rw [if_neg h]; omega
theorem jn_om_eq {O : List Tg} {n k : Nat} (hk : k < O.length) (h : O[k].f = n) : omL (O.take (k + 1)) n = max (omL (O.take k) n) O[k].s := by
  rw [List.take_succ_eq_append_getElem hk, omL_app]
  have := omL_nonneg (O.take k) n
  simp only [omL]; rw [if_pos h]; omega
/-- The three appends behind the loops. -/
theorem join_runs {w : World} {R : Nat} {T : Nat → Prop} {r : Rf} {vL vO : Value} (h : RfW w R T r vL vO) (hT : ∀ k, T k → k < w.heap.size) (hn : r.L.length ≤ 32) {i : Nat} (hi : i ≤ r.L.length) (x : Tg) :
    ∃ A c, (vL = .slice A r.L.length c ∧ i ≤ c ∧ r.L.length ≤ c) ∧ ∃ v1 w5 v2 w6 A3 n3 c3 w7,
      (Builtin.append_ #[49, 49] 49 #[.slice (some ⟨w.heap.size, 0, none⟩) 0 0, .slice A i c]).run Try.prog (w.alloc (.cells #[] 52)) = .ok v1 w5 ∧
      (Builtin.append_ #[49, 49] 49 #[v1, .slice (some ⟨w5.heap.size, 0, none⟩) 1 1]).run Try.prog (w5.alloc (.cells #[.int .i64 x.f, .int .i64 x.w, .int .i64 x.s] 52)) = .ok v2 w6 ∧
      (Builtin.append_ #[49, 49] 49 #[v2, dropV vL i]).run Try.prog w6 = .ok (.slice A3 n3 c3) w7 ∧
      Below w.heap.size w w5 ∧ Below w.heap.size w w6 ∧ Below w.heap.size w w7 ∧
      w7.ownsRow w.heap.size 52 3 (.slice A3 n3 c3) (r.L.take i ++ x :: r.L.drop i).length (srs csT (r.L.take i ++ x :: r.L.drop i)) := by
  obtain ⟨A, c, e1, e2, e3⟩ := h.lsL.take hi
  obtain ⟨A', c', e4, e5, _⟩ := h.lsL.shape
  obtain ⟨rfl, rfl⟩ : A = A' ∧ c = c' := by rw [e1] at e4; simpa using e4
  have hb0 := (Below.refl w.heap.size w).alloc (Nat.le_refl _) (.cells #[] 52)
  have hlt : (r.L.take i).length = i := by rw [List.length_take]; omega
  obtain ⟨v1, w5, run1, own1, grw1⟩ := run_append_list (P := Try.prog) 49 49 Try.underlying49 info_tg (own_empty w w.heap.size (Nat.le_refl _)) (e3.keep fun b hb => hb0.block b (hT b hb)) (by omega) (by omega) (by simp)
  rw [List.nil_append, Nat.zero_add] at own1
  have hb1 : Below w.heap.size w w5 := below_grew hb0 (Nat.le_refl _) grw1 (fun k hk => by simp [Value.ownBlock] at hk; omega)
  have hs1 := hb1.size
  have own1' := own1.alloc (.cells #[.int .i64 x.f, .int .i64 x.w, .int .i64 x.s] 52)
  have hb1' := hb1.alloc hs1 (.cells #[.int .i64 x.f, .int .i64 x.w, .int .i64 x.s] 52)
  obtain ⟨v2, w6, run2, own2, grw2, _⟩ := run_append_one (P := Try.prog) 49 49 Try.underlying49 info_tg rfl (by decide) own1' ⟨w5.heap.size, 0, none⟩ (csT_len x) (newCells w5 (csT x) 52) (csT_one x) (by omega) (by decide) (by simp; omega)
  have hb2 : Below w.heap.size w w6 := below_grew hb1' (Nat.le_refl _) grw2 (fun k hk => row_own own1' k hk)
  have own2' : w6.ownsRow w.heap.size 52 3 v2 ((r.L.take i).length + 1) (srs csT (r.L.take i ++ [x])) := by rw [srs_snoc]; exact own2
  have hd := (h.lsL.drop hi).keep (w' := w6) fun b hb => hb2.block b (hT b hb)
  obtain ⟨v3, w7, run3, own3, grw3⟩ := run_append_list (P := Try.prog) 49 49 Try.underlying49 info_tg own2' hd (by omega) (by rw [List.length_drop]; omega) hb2.size
  have hb3 : Below w.heap.size w w7 := below_grew hb2 (Nat.le_refl _) grw3 (fun k hk => row_own own2' k hk)
  obtain ⟨A3, c3, rfl⟩ := ow_shape own3
  refine ⟨A, c, ⟨e1, e2, e5⟩, v1, w5, v2, w6, A3, _, c3, w7, run1, run2, run3, hb1, hb2, hb3, ?_⟩
  rw [show r.L.take i ++ x :: r.L.drop i = r.L.take i ++ [x] ++ r.L.drop i by simp]
  rw [show (r.L.take i ++ [x] ++ r.L.drop i).length = (r.L.take i).length + 1 + (r.L.drop i).length by simp; omega]
  exact own3
/-- The place where the loop over the active flows ends. -/
theorem jn_parts {L : List Tg} {s : Sf} (h : RepL L s) {n i : Nat} (hn : n < 32) (ho : s.on n = false) (h1 : ∀ j (hj : j < L.length), j < i → L[j].f < n) (h2 : ∀ hi : i < L.length, (n : Int) ≤ L[i].f) : (∀ a ∈ L.take i, a.f < (n : Int)) ∧ ∀ b ∈ L.drop i, (n : Int) < b.f := by
  have hne : ∀ j (hj : j < L.length), L[j].f ≠ (n : Int) := fun j hj e => by
    obtain ⟨g, g1, g2, g3⟩ := h.at_ hj
    rw [g3] at e
    simp only [Sf.tag] at e
    have : g = n := by omega
    subst this; rw [ho] at g2; cases g2
  constructor
  · intro a ha
    obtain ⟨j, hj, rfl⟩ := List.getElem_of_mem ha
    rw [List.length_take] at hj
    rw [List.getElem_take]
    exact h1 j (by omega) (by omega)
  · intro b hb
    obtain ⟨j, hj, rfl⟩ := List.getElem_of_mem hb
    rw [List.length_drop] at hj
    rw [List.getElem_drop]
    have hi : i < L.length := by omega
    have h3 := h2 hi
    have h4 := hne i hi
    rcases Nat.eq_zero_or_pos j with h0 | h0
    · subst h0; simp only [Nat.add_zero]; omega
    · have := h.up hi (j := i + j) (by omega) (by omega)
      omega
set_option maxRecDepth 100000 in
set_option maxHeartbeats 16000000 in
theorem rjoin_any {T : Nat → Prop} {R : Nat} {s : Sf} {w : World} (h : RsO T R s w) (f x : Int) :
    Calls Try.prog 27 #[.pointer (some ⟨R, 0, none⟩), .int .i64 f, .int .i64 x] w (RsAns T R (jnT s f x) (.int .i64 (jnE s f x)) w) := by
  have h' := h
  obtain ⟨hs, r, ⟨hT, hTR, vL, vO, hw⟩, hr⟩ := h
  obtain ⟨hfL, hfO⟩ := hr.few
  have HG := rweight_any x
  by_cases hv : 0 ≤ f ∧ f < 32 ∧ wtB x = true
  rotate_left 1
  · obtain ⟨e1, e2⟩ := jn_1 (s := s) hv
    rw [e1, e2]
    have HF := Lib.hid (fun e w' => RsAns.same (x := .int .i64 1) h' (e := e) (w' := w'))
    clear e1 e2 hs hw hr h'
    rcases (by omega : f < 0 ∨ (¬ f < 0 ∧ 32 ≤ f) ∨ (¬ f < 0 ∧ ¬ 32 ≤ f)) with h1 | ⟨h1, h2⟩ | ⟨h1, h2⟩
    · clear hv
      go_enter Try.func27, Try.ntmps27
      go_wp2
      go_ret
      exact HF.out _ _ rfl (Below.refl _ _)
    · clear hv
      go_enter Try.func27, Try.ntmps27
      go_wp2
      go_ret
      exact HF.out _ _ rfl (Below.refl _ _)
    · have hx : wtB x = false := by
        cases hb : wtB x with
        | false => rfl
        | true => exact absurd ⟨by omega, by omega, hb⟩ hv
      rw [hx] at HG
      have HG := Lib.hid HG
      clear hv hx
      go_enter Try.func27, Try.ntmps27
      go_wp2_with fail
      (with_reducible refine (HG.out _).mono ?_); rintro e w' ⟨rfl, rfl⟩
      go_wp2
      go_ret
      exact HF.out _ _ rfl (Below.refl _ _)
  obtain ⟨hv1, hv2, hx⟩ := hv
  obtain ⟨n, rfl⟩ := Int.eq_ofNat_of_zero_le hv1
  have hn : n < 32 := by omega
  rw [hx] at HG
  have HG := Lib.hid HG
  have HI := rindex_any hw (by omega) (n : Int)
  cases ho : s.on n
  rotate_left 1
  · obtain ⟨i, hi, ei, _⟩ := hr.rep.one_place hn ho
    obtain ⟨e1, e2⟩ := jn_7 hn hx ho
    rw [e1, e2]
    rw [ei] at HI
    have HI := Lib.hid HI
    have HF := Lib.hid (fun e w' => RsAns.same (x := .int .i64 7) h' (e := e) (w' := w'))
    clear e1 e2 hs hw hr h' ho hx ei
    go_enter Try.func27, Try.ntmps27
    go_wp2_with fail
    (with_reducible refine (HG.out _).mono ?_); rintro e w' ⟨rfl, rfl⟩
    go_wp2_with fail
    (with_reducible refine HI.out.mono ?_); rintro e w' ⟨rfl, rfl⟩
    go_wp2
    go_ret
    exact HF.out _ _ rfl (Below.refl _ _)
  obtain ⟨e1, e2⟩ := jn_0 hn hx ho
  have hok := hs.jn (n : Int) x
  rw [e2] at hok
  rw [e1, e2]
  have hhf : s.here (n : Int) = false := by rw [here_is hn]; exact ho
  rw [hr.rep.no_place hhf] at HI
  have HI := Lib.hid HI
  obtain ⟨c0, c1, c2, c3, c4, cf⟩ := hw.cells
  have HLS := Lib.hid (And.intro hw.lsL hw.lsO)
  have HHW := Lib.hid hw
  have hRlt := hw.blk.size_lt
  have HC1 := Lib.hid c1
  have HC2 := Lib.hid c2
  have HCF := Lib.hid cf
  have HTT := Lib.hid hT
  have HRS := Lib.hid (And.intro hr hok)
  have HP := Lib.hid (fun i h1 h2 => jn_parts hr.rep (i := i) hn ho h1 h2)
  have HT := Lib.hid hTR
  have HON := Lib.hid ho
  obtain ⟨AO, cO, hvO, _, _⟩ := hw.lsO.shape
  obtain ⟨AL, cL, hvL, hlcL, _⟩ := hw.lsL.shape
  subst hvO hvL
  have HB0 := Lib.hid ((Below.refl w.heap.size w).alloc (Nat.le_refl _) (.cells #[.int .i64 n, .int .i64 x, .int .i64 r.now] 52))
  have HX0 := Lib.hid (Whole.fresh w 52 #[.int .i64 n, .int .i64 x, .int .i64 r.now])
  have HNOW : Hid (max r.now (omL (r.O.take 0) n) = r.now) := Lib.hid (by
    have h9 := hs.now
    have e9 : r.now = s.now := hr.1.2.2.2.1
    simp only [List.take_zero, omL]; omega)
  clear e1 e2 hs hw hr h' ho hx hhf c0 c1 c2 c4 cf hT hTR hok hv1 hv2
  go_enter Try.func27, Try.ntmps27
  go_wp2_with fail
  (with_reducible refine (HG.out _).mono ?_); rintro e w' ⟨rfl, rfl⟩
  go_wp2_with fail
  (with_reducible refine HI.out.mono ?_); rintro e w' ⟨rfl, rfl⟩
  go_wp2_with fail
  go_loopw [8, 9] (fun s8 s9 wr => ∃ (k m : Nat) (y : Int) (A' : Option Addr) (c' : Nat), k ≤ r.O.length ∧ s9 = .int .i64 k ∧ s8 = .slice A' m c' ∧ m ≤ k ∧ Hid (m = ((r.O.take k).filter (fun t => decide (t.f ≠ (n : Int)))).length) ∧ Hid (wr.ownsRow (w.heap.size + 1) 52 3 (.slice A' m c') m (srs csT ((r.O.take k).filter (fun t => decide (t.f ≠ (n : Int)))))) ∧ Hid (max r.now (omL (r.O.take k) n) = y) ∧ Hid (Whole wr w.heap.size 52 #[.int .i64 n, .int .i64 x, .int .i64 y]) ∧ Hid (Below w.heap.size w wr)) (fun s8 s9 _ => r.O.length - (intOf s9).toNat)
  case atStart => exact ⟨0, 0, r.now, none, 0, Nat.zero_le _, rfl, rfl, Nat.le_refl _, Lib.hid rfl, Lib.hid (World.ownsRow_nil _ _ _ _), HNOW, HX0, HB0⟩
  case round =>
    obtain ⟨k, m, y, A', c', hk, rfl, rfl, hmk, HM, HR, HY, HX, HW⟩ := hrel
    have hws := HW.out.size
    have hX2 := HX.out.size_lt
    have d2 := (HW.out.cell (p := ⟨R, 2, none⟩) hRlt).trans HC2.out
    by_cases hlt : k < r.O.length
    · obtain ⟨bb, off, c9, hv, _, _, hbw, _, e0, e1, e2⟩ := HLS.out.2.tg hlt
      obtain ⟨rfl, rfl⟩ : AO = some ⟨bb, off, none⟩ ∧ cO = c9 := by simpa using hv
      have hlt' : (k : Int) < r.O.length := by omega
      have hfe := fun h => jn_flt_eq (n := n) hlt h
      have hfn := fun h => jn_flt_ne (n := n) hlt h
      have hoe := fun h => jn_om_eq (n := n) hlt h
      have hon := fun h => jn_om_ne (n := n) hlt h
      have d3 := (HW.out.cell (p := ⟨bb, off + k * 3, none⟩) hbw).trans e0
      have d4 := (HW.out.cell (p := ⟨bb, off + k * 3 + 1, none⟩) hbw).trans e1
      have d5 := (HW.out.cell (p := ⟨bb, off + k * 3 + 2, none⟩) hbw).trans e2
      generalize hq : r.O[k] = q at *
      obtain ⟨q0, q1, q2⟩ := q
      simp only at d3 d4 d5 hfe hfn hoe hon
      by_cases hqn : q0 = (n : Int)
      · subst hqn
        have hb : ((n : Int) == (n : Int)) = true := by simp
        obtain ⟨z, hz⟩ : ∃ z, max y q2 = z := ⟨_, rfl⟩
        have hHM : Hid (m = ((r.O.take (k + 1)).filter (fun t => decide (t.f ≠ (n : Int)))).length) := Lib.hid (by rw [hfe rfl]; exact HM.out)
        have hHR := fun (W : World) (hW : W.ownsRow (w.heap.size + 1) 52 3 (.slice A' m c') m (srs csT ((r.O.take k).filter (fun t => decide (t.f ≠ (n : Int)))))) => Lib.hid (show W.ownsRow (w.heap.size + 1) 52 3 (.slice A' m c') m (srs csT ((r.O.take (k + 1)).filter (fun t => decide (t.f ≠ (n : Int))))) by rw [hfe rfl]; exact hW)
        have HHR := Lib.hid hHR
        have hHY : Hid (max r.now (omL (r.O.take (k + 1)) n) = z) := Lib.hid (by rw [hoe rfl, ← hz, ← HY.out]; omega)
        have x2 : wr.drew.cell? ⟨w.heap.size, 2, none⟩ = some (.int .i64 y) := HX.out.read 2
        have xf : wr.drew.frozen? ⟨w.heap.size, 2, none⟩ = false := HX.out.free 2
        have d2' : wr.drew.cell? ⟨R, 2, none⟩ = some (.slice (some ⟨bb, off, none⟩) r.O.length cO) := d2
        have d5' : wr.drew.cell? ⟨bb, off + k * 3 + 2, none⟩ = some (.int .i64 q2) := d5
        have HX2 := Lib.hid ((show Whole wr.drew w.heap.size 52 #[.int .i64 n, .int .i64 x, .int .i64 y] from HX.out).put 2 (.int .i64 z))
        have HW2 := Lib.hid ((HW.out.drew).setCell (p := ⟨w.heap.size, 2, none⟩) (Nat.le_refl _) (.int .i64 z))
        have HRo := Lib.hid (owk (w' := wr.drew.setCell ⟨w.heap.size, 2, none⟩ (.int .i64 z)) HR.out fun k hk => Below.heap_setCell _ _ _ _ (by have := row_own HR.out k hk; simp only; omega))
        have HZ := Lib.hid hz
        clear hfe hfn hoe hon hq e0 e1 e2 hv hHR hz HM HR HY HX HW
        go_wp2_with fail
        refine wp_region_looseS 123 (by kernel_rfl) (by kernel_rfl) (StC wr.drew (wr.drew.setCell ⟨w.heap.size, 2, none⟩ (.int .i64 z)) (fun i => [.pointer (some ⟨w.heap.size, 2, none⟩), .int .i64 y, .pointer (some ⟨R, 0, none⟩), .pointer (some ⟨R, 0, none⟩), .pointer (some ⟨R, 2, none⟩), .slice (some ⟨bb, off, none⟩) r.O.length cO, .int .i64 (k : Nat), .pointer (some ⟨bb, off + k * 3, none⟩), .pointer (some ⟨bb, off + k * 3 + 2, none⟩), .int .i64 q2, .int .i64 z, .pointer (some ⟨w.heap.size, 2, none⟩)].getD i undef) 12) rfl StC.start ?_ ?_
        · simp only [OblAllS]
          refine ⟨?_, ?_, ?_, ?_, ?_, ?_, ?_, ?_, ?_, ?_, ?_, ?_, ?_, trivial⟩
          · intro L wx vals hi hu hcl hC
            simp [ClosedL, UpL, predL, predE, Region.binds] at hcl
            have hst : L 12 = false := by clear hC; cases h : L 12 with | false => rfl | true => exfalso; simp_all
            obtain rfl := hC.a hst
            have HCx := Lib.hid hC
            clear hC hcl hu hi hst
            simp only [fillA, if_true, Act.put]
            simp
            go_wp2
            exact ⟨rfl, HCx.out.quiet (by decide) rfl⟩
          · intro L wx vals hi hu hcl hC
            simp [ClosedL, UpL, predL, predE, Region.binds] at hcl
            simp [predL, predE, Region.binds, UpL] at hu
            have hst : L 12 = false := by clear hC; cases h : L 12 with | false => rfl | true => exfalso; simp_all
            obtain rfl := hC.a hst
            have e0 : vals 0 = .pointer (some ⟨w.heap.size, 2, none⟩) := hC.v 0 (by decide) (by simp [hu])
            have HCx := Lib.hid hC
            clear hC hcl hu hi hst
            simp only [fillA, if_true, Act.put]
            simp
            simp only [e0]
            clear e0
            go_wp2
            exact ⟨rfl, HCx.out.quiet (by decide) rfl⟩
          · intro L wx vals hi hu hcl hC
            simp [ClosedL, UpL, predL, predE, Region.binds] at hcl
            have hst : L 12 = false := by clear hC; cases h : L 12 with | false => rfl | true => exfalso; simp_all
            obtain rfl := hC.a hst
            have HCx := Lib.hid hC
            clear hC hcl hu hi hst
            simp only [fillA, if_true, Act.put]
            simp
            go_wp2
            exact ⟨rfl, HCx.out.quiet (by decide) rfl⟩
          · intro L wx vals hi hu hcl hC
            simp [ClosedL, UpL, predL, predE, Region.binds] at hcl
            simp [predL, predE, Region.binds, UpL] at hu
            have hst : L 12 = false := by clear hC; cases h : L 12 with | false => rfl | true => exfalso; simp_all
            obtain rfl := hC.a hst
            have e2 : vals 2 = .pointer (some ⟨R, 0, none⟩) := hC.v 2 (by decide) (by simp [hu])
            have HCx := Lib.hid hC
            clear hC hcl hu hi hst
            simp only [fillA, if_true, Act.put]
            simp
            simp only [e2]
            clear e2
            go_wp2
            exact ⟨rfl, HCx.out.quiet (by decide) rfl⟩
          · intro L wx vals hi hu hcl hC
            simp [ClosedL, UpL, predL, predE, Region.binds] at hcl
            simp [predL, predE, Region.binds, UpL] at hu
            have hst : L 12 = false := by clear hC; cases h : L 12 with | false => rfl | true => exfalso; simp_all
            obtain rfl := hC.a hst
            have e3 : vals 3 = .pointer (some ⟨R, 0, none⟩) := hC.v 3 (by decide) (by simp [hu])
            have HCx := Lib.hid hC
            clear hC hcl hu hi hst
            simp only [fillA, if_true, Act.put]
            simp
            simp only [e3]
            clear e3
            go_wp2
            exact ⟨rfl, HCx.out.quiet (by decide) rfl⟩
          · intro L wx vals hi hu hcl hC
            simp [ClosedL, UpL, predL, predE, Region.binds] at hcl
            simp [predL, predE, Region.binds, UpL] at hu
            have hst : L 12 = false := by clear hC; cases h : L 12 with | false => rfl | true => exfalso; simp_all
            obtain rfl := hC.a hst
            have e4 : vals 4 = .pointer (some ⟨R, 2, none⟩) := hC.v 4 (by decide) (by simp [hu])
            have HCx := Lib.hid hC
            clear hC hcl hu hi hst
            simp only [fillA, if_true, Act.put]
            simp
            simp only [e4]
            clear e4
            go_wp2
            exact ⟨rfl, HCx.out.quiet (by decide) rfl⟩
          · intro L wx vals hi hu hcl hC
            simp [ClosedL, UpL, predL, predE, Region.binds] at hcl
            have hst : L 12 = false := by clear hC; cases h : L 12 with | false => rfl | true => exfalso; simp_all
            obtain rfl := hC.a hst
            have HCx := Lib.hid hC
            clear hC hcl hu hi hst
            simp only [fillA, if_true, Act.put]
            simp
            go_wp2
            exact ⟨rfl, HCx.out.quiet (by decide) rfl⟩
          · intro L wx vals hi hu hcl hC
            simp [ClosedL, UpL, predL, predE, Region.binds] at hcl
            simp [predL, predE, Region.binds, UpL] at hu
            have hst : L 12 = false := by clear hC; cases h : L 12 with | false => rfl | true => exfalso; simp_all
            obtain rfl := hC.a hst
            have e5 : vals 5 = .slice (some ⟨bb, off, none⟩) r.O.length cO := hC.v 5 (by decide) (by simp [hu])
            have e6 : vals 6 = .int .i64 (k : Nat) := hC.v 6 (by decide) (by simp [hu])
            have HCx := Lib.hid hC
            clear hC hcl hu hi hst
            simp only [fillA, if_true, Act.put]
            simp
            simp only [e5, e6]
            clear e5 e6
            go_wp2
            exact ⟨rfl, HCx.out.quiet (by decide) rfl⟩
          · intro L wx vals hi hu hcl hC
            simp [ClosedL, UpL, predL, predE, Region.binds] at hcl
            simp [predL, predE, Region.binds, UpL] at hu
            have hst : L 12 = false := by clear hC; cases h : L 12 with | false => rfl | true => exfalso; simp_all
            obtain rfl := hC.a hst
            have e7 : vals 7 = .pointer (some ⟨bb, off + k * 3, none⟩) := hC.v 7 (by decide) (by simp [hu])
            have HCx := Lib.hid hC
            clear hC hcl hu hi hst
            simp only [fillA, if_true, Act.put]
            simp
            simp only [e7]
            clear e7
            go_wp2
            exact ⟨rfl, HCx.out.quiet (by decide) rfl⟩
          · intro L wx vals hi hu hcl hC
            simp [ClosedL, UpL, predL, predE, Region.binds] at hcl
            simp [predL, predE, Region.binds, UpL] at hu
            have hst : L 12 = false := by clear hC; cases h : L 12 with | false => rfl | true => exfalso; simp_all
            obtain rfl := hC.a hst
            have e8 : vals 8 = .pointer (some ⟨bb, off + k * 3 + 2, none⟩) := hC.v 8 (by decide) (by simp [hu])
            have HCx := Lib.hid hC
            clear hC hcl hu hi hst
            simp only [fillA, if_true, Act.put]
            simp
            simp only [e8]
            clear e8
            go_wp2
            exact ⟨rfl, HCx.out.quiet (by decide) rfl⟩
          · intro L wx vals hi hu hcl hC
            simp [ClosedL, UpL, predL, predE, Region.binds] at hcl
            simp [predL, predE, Region.binds, UpL] at hu
            have hst : L 12 = false := by clear hC; cases h : L 12 with | false => rfl | true => exfalso; simp_all
            obtain rfl := hC.a hst
            have e1 : vals 1 = .int .i64 y := hC.v 1 (by decide) (by simp [hu])
            have e9 : vals 9 = .int .i64 q2 := hC.v 9 (by decide) (by simp [hu])
            have HCx := Lib.hid hC
            clear hC hcl hu hi hst
            simp only [fillA, if_true, Act.put]
            simp
            simp only [e1, e9]
            clear e1 e9
            go_wp2
            all_goals
              have hzz := HZ.out
              exact ⟨rfl, HCx.out.quiet (by decide) (congrArg (Value.int .i64) (by omega))⟩
          · intro L wx vals hi hu hcl hC
            simp [ClosedL, UpL, predL, predE, Region.binds] at hcl
            have hst : L 12 = false := by clear hC; cases h : L 12 with | false => rfl | true => exfalso; simp_all
            obtain rfl := hC.a hst
            have HCx := Lib.hid hC
            clear hC hcl hu hi hst
            simp only [fillA, if_true, Act.put]
            simp
            go_wp2
            exact ⟨rfl, HCx.out.quiet (by decide) rfl⟩
          · intro L wx vals hi hu hcl hC
            simp [ClosedL, UpL, predL, predE, Region.binds] at hcl
            simp [predL, predE, Region.binds, UpL] at hu
            have hst : L 12 = false := hi
            obtain rfl := hC.a hst
            have e10 : vals 10 = .int .i64 z := hC.v 10 (by decide) (by simp [hu])
            have e11 : vals 11 = .pointer (some ⟨w.heap.size, 2, none⟩) := hC.v 11 (by decide) (by simp [hu])
            have HCx := Lib.hid hC
            clear hC hcl hu hi hst
            simp only [fillA, if_true, Act.put]
            simp
            simp only [e10, e11]
            clear e10 e11
            go_wp2
            exact ⟨rfl, HCx.out.write⟩
        · intro wz vals L hC hall
          obtain rfl := hC.b (hall 12 (by simp))
          simp only [fillA, if_true, Act.put]
          simp
          clear hC hall
          go_wp2
          go_roundw
          case rel => exact ⟨k + 1, m, z, A', c', by omega, by go_num, rfl, by omega, hHM, HHR.out _ HRo.out, hHY, HX2, HW2⟩
          case measure => simp [intOf]; omega
      · have hb : (q0 == (n : Int)) = false := by simpa using hqn
        have hHM : Hid (m + 1 = ((r.O.take (k + 1)).filter (fun t => decide (t.f ≠ (n : Int)))).length) := Lib.hid (by rw [hfn hqn, List.length_append, ← HM.out]; rfl)
        have hHY : Hid (max r.now (omL (r.O.take (k + 1)) n) = y) := Lib.hid (by rw [hon hqn]; exact HY.out)
        have ho1 := HR.out.alloc (.cells #[.int .i64 q0, .int .i64 q1, .int .i64 q2] 52)
        obtain ⟨v2, w2, hrun, own2, grw2, _⟩ := run_append_one (P := Try.prog) 49 49 Try.underlying49 info_tg rfl (by decide) ho1 ⟨wr.heap.size, 0, none⟩ (csT_len ⟨q0, q1, q2⟩) (newCells wr (csT ⟨q0, q1, q2⟩) 52) (csT_one _) (by omega) (by decide) (by simp; omega)
        obtain ⟨A2, c2', rfl⟩ := ow_shape own2
        have hB2 : Below w.heap.size w w2 := below_grew (HW.out.alloc hws _) (Nat.le_refl _) grw2 (fun k hk => by have := row_own ho1 k hk; omega)
        have hX3 : Whole w2 w.heap.size 52 #[.int .i64 n, .int .i64 x, .int .i64 y] := (HX.out.alloc (.cells #[.int .i64 q0, .int .i64 q1, .int .i64 q2] 52)).carry (grw2.block _ (by simp; omega) (fun e => by have := row_own ho1 _ e.symm; omega))
        have HHR := Lib.hid (show w2.ownsRow (w.heap.size + 1) 52 3 (.slice A2 (m + 1) c2') (m + 1) (srs csT ((r.O.take (k + 1)).filter (fun t => decide (t.f ≠ (n : Int))))) by rw [hfn hqn, srs_snoc]; exact own2)
        have HB2 := Lib.hid hB2
        have HX3 := Lib.hid hX3
        clear hfe hfn hoe hon hq e0 e1 e2 hv HM HR HY HX HW own2 grw2 ho1 hB2 hX3
        go_wp2_with (at_builtin; go_loud (refine wpList_append_run rfl (.tmp 65) (.tmp 73) 49 rfl rfl rfl hrun ?_))
        go_roundw
        case rel => exact ⟨k + 1, m + 1, y, A2, c2', by omega, by go_num, rfl, by omega, hHM, HHR, hHY, HX3, HB2⟩
        case measure => simp [intOf]; omega
    · obtain rfl : k = r.O.length := by omega
      have hro := HR.out
      have hom := HY.out
      have hml := HM.out
      rw [List.take_length] at hro hom hml
      have hblk := HHW.out.blk.later HW.out
      -- the world behind r.Old = old
      have hcg : Chg (fun k => k = R) w (wr.setCell ⟨R, 2, none⟩ (.slice A' m c')) := (Chg.of_below (S := fun k => k = R) HW.out).setCell (g := R) rfl 2 _
      have hX4 : Whole (wr.setCell ⟨R, 2, none⟩ (.slice A' m c')) w.heap.size 52 #[.int .i64 n, .int .i64 x, .int .i64 y] := HX.out.other (by omega) 2 _
      have hro4 : (wr.setCell ⟨R, 2, none⟩ (.slice A' m c')).ownsRow (w.heap.size + 1) 52 3 (.slice A' m c') m (srs csT (r.O.filter (fun t => decide (t.f ≠ (n : Int))))) := owk hro fun k hk => Below.heap_setCell _ _ _ _ (by have := row_own hro k hk; simp only; omega)
      have hW4 : RfW (wr.setCell ⟨R, 2, none⟩ (.slice A' m c')) R (Tn T w (wr.setCell ⟨R, 2, none⟩ (.slice A' m c'))) ⟨r.at_, r.L, r.O.filter (fun t => decide (t.f ≠ (n : Int))), r.now, r.away⟩ (.slice AL r.L.length cL) (.slice A' m c') :=
        ⟨hblk.put 2 _, HHW.out.lsL.old HTT.out HHW.out.blk hcg, LsV.fresh hro4 hml (by omega)⟩
      have x2 : wr.frozen? ⟨R, 2, none⟩ = false := hblk.free 2
      have HW4 := Lib.hid hW4
      have HX4 := Lib.hid hX4
      have HCG := Lib.hid hcg
      have hz4 : w.heap.size ≤ (wr.setCell ⟨R, 2, none⟩ (.slice A' m c')).heap.size := by simpa [World.setCell] using hws
      clear hro hro4 hml hblk hcg hX4 hW4 HM HR HY HX HW
      go_wp2_with fail
      obtain ⟨w4, hw4⟩ : ∃ w4, wr.setCell ⟨R, 2, none⟩ (.slice A' m c') = w4 := ⟨_, rfl⟩
      rw [hw4] at HW4 HX4 HCG hz4
      rw [hw4]
      clear hw4 d2 x2
      have t1 := HW4.out.cells.2.1
      have HLL := Lib.hid HW4.out.lsL
      go_loopw [10] (fun s10 wx => ∃ i : Nat, i ≤ r.L.length ∧ s10 = .int .i64 i ∧ Hid (∀ j (hj : j < r.L.length), j < i → r.L[j].f < n) ∧ w4 = wx) (fun s10 _ => r.L.length - (intOf s10).toNat)
      case atStart => exact ⟨0, Nat.zero_le _, rfl, Lib.hid (fun j _ hj => by omega), rfl⟩
      case round =>
        obtain ⟨i, hi, rfl, HJ, rfl⟩ := hrel
        have hend : (∀ hi : i < r.L.length, (n : Int) ≤ r.L[i].f) → Hid ((∀ a ∈ r.L.take i, a.f < (n : Int)) ∧ ∀ b ∈ r.L.drop i, (n : Int) < b.f) := fun h2 => Lib.hid (HP.out i HJ.out h2)
        have hfin : Hid ((∀ a ∈ r.L.take i, a.f < (n : Int)) ∧ ∀ b ∈ r.L.drop i, (n : Int) < b.f) → ∃ AX cX, ((.slice AL r.L.length cL : Value) = .slice AX r.L.length cX ∧ i ≤ cX ∧ r.L.length ≤ cX) ∧ ∃ v1 w5 v2 w6 A3 n3 c3 w7,
            (Builtin.append_ #[49, 49] 49 #[.slice (some ⟨w4.heap.size, 0, none⟩) 0 0, .slice AX i cX]).run Try.prog (w4.alloc (.cells #[] 52)) = .ok v1 w5 ∧
            (Builtin.append_ #[49, 49] 49 #[v1, .slice (some ⟨w5.heap.size, 0, none⟩) 1 1]).run Try.prog (w5.alloc (.cells #[.int .i64 n, .int .i64 x, .int .i64 y] 52)) = .ok v2 w6 ∧
            (Builtin.append_ #[49, 49] 49 #[v2, dropV (.slice AL r.L.length cL) i]).run Try.prog w6 = .ok (.slice A3 n3 c3) w7 ∧
            Below w4.heap.size w4 w5 ∧ Below w4.heap.size w4 w6 ∧ Hid (RsAns T R (s.join n x) (.int .i64 0) w (.returned (.int .i64 0)) (w7.setCell ⟨R, 1, none⟩ (.slice A3 n3 c3))) ∧
            w7.cell? ⟨R, 1, none⟩ = some (.slice AL r.L.length cL) ∧ w7.frozen? ⟨R, 1, none⟩ = false ∧ w6.cell? ⟨R, 1, none⟩ = some (.slice AL r.L.length cL) := fun hp => by
          obtain ⟨AX, cX, hc, v1, w5, v2, w6, A3, n3, c3, w7, k1, k2, k3, k4, k5, k6, k7⟩ := join_runs HW4.out (fun k hk => hk.1) hfL hi ⟨n, x, y⟩
          have hblk7 := HW4.out.blk.later k6
          have hblk6 := HW4.out.blk.later k5
          have hcg7 : Chg (fun k => k = R) w4 (w7.setCell ⟨R, 1, none⟩ (.slice A3 n3 c3)) := (Chg.of_below (S := fun k => k = R) k6).setCell (g := R) rfl 1 _
          have hcgA := HCG.out.trans hcg7
          have hRL := HW4.out.blk.size_lt
          have hz7 := k6.size
          refine ⟨AX, cX, hc, v1, w5, v2, w6, A3, n3, c3, w7, k1, k2, k3, k4, k5, Lib.hid ?_, hblk7.read 1, hblk7.free 1, hblk6.read 1⟩
          have hown : (w7.setCell ⟨R, 1, none⟩ (.slice A3 n3 c3)).ownsRow w4.heap.size 52 3 (.slice A3 n3 c3) (r.L.take i ++ ⟨n, x, y⟩ :: r.L.drop i).length (srs csT (r.L.take i ++ ⟨n, x, y⟩ :: r.L.drop i)) := owk k7 fun k hk => Below.heap_setCell _ _ _ _ (by have := row_own k7 k hk; simp only; omega)
          have hOld := (HW4.out.lsO.old (fun k hk => hk.1) HW4.out.blk hcg7).wider (T' := Tn T w (w7.setCell ⟨R, 1, none⟩ (.slice A3 n3 c3))) (fun b hb => ⟨hb.1, by rcases hb.2 with h9 | h9; exact h9.2; exact .inr (by omega)⟩)
          refine RsAns.mk (r := ⟨r.at_, r.L.take i ++ ⟨n, x, y⟩ :: r.L.drop i, r.O.filter (fun t => decide (t.f ≠ (n : Int))), r.now, r.away⟩) (T := T) rfl ⟨hblk7.put 1 (.slice A3 n3 c3), LsV.fresh hown rfl (by omega), hOld⟩ HT.out ?_ HRS.out.2 hcgA
          have hjn := HRS.out.1.join (x := x) (i := i) hn (by have := here_is (s := s) hn; exact HON.out) hp.out.1 hp.out.2
          rw [hom] at hjn
          exact hjn
        by_cases hil : i < r.L.length
        · have hil' : (i : Int) < r.L.length := by omega
          obtain ⟨bb, off, c9, hv, _, _, hbw, _, e0, _, _⟩ := HLL.out.tg hil
          obtain ⟨rfl, rfl⟩ : AL = some ⟨bb, off, none⟩ ∧ cL = c9 := by simpa using hv
          obtain ⟨q, hq⟩ : ∃ q, r.L[i].f = q := ⟨_, rfl⟩
          simp only [hq] at e0
          by_cases hqn : q < (n : Int)
          · have HJ2 : Hid (∀ j (hj : j < r.L.length), j < i + 1 → r.L[j].f < n) := Lib.hid (fun j hj hji => by
              rcases (by omega : j < i ∨ j = i) with h9 | rfl
              · exact HJ.out j hj h9
              · rw [hq]; exact hqn)
            clear hfin hend hv hq HJ
            go_wp2
            go_roundw
            case rel => exact ⟨i + 1, by omega, by go_num, HJ2, trivial⟩
            case measure => simp [intOf]; omega
          · have hpp := hend (fun _ => by rw [hq]; omega)
            obtain ⟨AX, cX, ⟨hc, hc2, hc3⟩, v1, w5, v2, w6, A3, n3, c3, w7, k1, k2, k3, k4, k5, HF, k7, k8, k9⟩ := hfin hpp
            obtain ⟨rfl, rfl⟩ : some (⟨bb, off, none⟩ : Addr) = AX ∧ cL = cX := by simpa using hc
            have hx5 := (show Whole w5 w.heap.size 52 #[.int .i64 n, .int .i64 x, .int .i64 y] from HX4.out.later k4)
            have y0 := hx5.read 0
            have y1 := hx5.read 1
            have y2 := hx5.read 2
            simp at y0 y1 y2
            have hRL := HW4.out.blk.size_lt
            have t2 := (((Below.refl w4.heap.size w4).alloc (Nat.le_refl _) (.cells #[] 52)).cell (p := ⟨R, 1, none⟩) hRL).trans t1
            have hci : i ≤ cL := hc2
            have hcne : i ≠ cL := by omega
            have hdv : dropV (.slice (some ⟨bb, off, none⟩) r.L.length cL) i = .slice (some ⟨bb, off + i * 3, none⟩) (r.L.length - i) (cL - i) := by unfold dropV; simp only [if_neg hcne, Addr.add_lit]
            rw [hdv] at k3
            clear hfin hend hv hq HJ hpp hx5 k4 k5 hc hdv
            go_wp2_with (at_builtin; first | refine wpList_append_run rfl (.tmp 100) (.tmp 106) 49 rfl rfl rfl k1 ?_ | refine wpList_append_run rfl (.tmp 108) (.tmp 110) 49 rfl rfl rfl k2 ?_ | refine wpList_append_run rfl (.tmp 113) (.tmp 119) 49 rfl rfl rfl k3 ?_)
            go_ret
            exact HF.out
        · obtain rfl : i = r.L.length := by omega
          have hpp := hend (fun h9 => by omega)
          obtain ⟨AX, cX, ⟨hc, hc2, hc3⟩, v1, w5, v2, w6, A3, n3, c3, w7, k1, k2, k3, k4, k5, HF, k7, k8, k9⟩ := hfin hpp
          obtain ⟨rfl, rfl⟩ : AL = AX ∧ cL = cX := by simpa using hc
          have hdrop : (AL = none ∧ cL = 0 ∧ r.L.length = 0) ∨ (∃ b off, AL = some ⟨b, off, none⟩ ∧ r.L.length = cL) ∨ (∃ b off, AL = some ⟨b, off, none⟩ ∧ r.L.length ≠ cL) := by
            obtain ⟨A9, c9, q1, q2, q3, q4⟩ := HLL.out
            obtain ⟨rfl, rfl⟩ : AL = A9 ∧ cL = c9 := by simpa using q1
            rcases q4 with ⟨q4, q5⟩ | ⟨b, off, cur, q4, _⟩
            · exact .inl ⟨q4, q5, by omega⟩
            · by_cases h9 : r.L.length = cL
              · exact .inr (.inl ⟨b, off, q4, h9⟩)
              · exact .inr (.inr ⟨b, off, q4, h9⟩)
          rcases hdrop with ⟨rfl, rfl, h0⟩ | ⟨b, off, rfl, hceq⟩ | ⟨b, off, rfl, hcne⟩
          · have hdv : dropV (.slice none r.L.length 0) r.L.length = .slice none 0 0 := rfl
            rw [hdv] at k3
            have hx5 := (show Whole w5 w.heap.size 52 #[.int .i64 n, .int .i64 x, .int .i64 y] from HX4.out.later k4)
            have y0 := hx5.read 0
            have y1 := hx5.read 1
            have y2 := hx5.read 2
            simp at y0 y1 y2
            have hRL := HW4.out.blk.size_lt
            have t2 := (((Below.refl w4.heap.size w4).alloc (Nat.le_refl _) (.cells #[] 52)).cell (p := ⟨R, 1, none⟩) hRL).trans t1
            have hci : r.L.length ≤ 0 := hc2
            clear hfin hend HJ hpp hx5 k4 k5 hc hdv
            simp only [h0] at k1 k3
            go_wp2_with (at_builtin; (first | refine wpList_append_run rfl (.tmp 100) (.tmp 106) 49 rfl rfl rfl k1 ?_ | refine wpList_append_run rfl (.tmp 108) (.tmp 110) 49 rfl rfl rfl k2 ?_ | refine wpList_append_run rfl (.tmp 113) (.tmp 119) 49 rfl rfl rfl k3 ?_))
            go_ret
            exact HF.out
          · subst hceq
            have hdv : dropV (.slice (some ⟨b, off, none⟩) r.L.length r.L.length) r.L.length = .slice (some ⟨b, off, none⟩) 0 0 := by unfold dropV; simp only [if_pos]
            rw [hdv] at k3
            have hx5 := (show Whole w5 w.heap.size 52 #[.int .i64 n, .int .i64 x, .int .i64 y] from HX4.out.later k4)
            have y0 := hx5.read 0
            have y1 := hx5.read 1
            have y2 := hx5.read 2
            simp at y0 y1 y2
            have hRL := HW4.out.blk.size_lt
            have t2 := (((Below.refl w4.heap.size w4).alloc (Nat.le_refl _) (.cells #[] 52)).cell (p := ⟨R, 1, none⟩) hRL).trans t1
            have hci : r.L.length ≤ r.L.length := hc2
            clear hfin hend HJ hpp hx5 k4 k5 hc hdv
            go_wp2_with (at_builtin; (first | refine wpList_append_run rfl (.tmp 100) (.tmp 106) 49 rfl rfl rfl k1 ?_ | refine wpList_append_run rfl (.tmp 108) (.tmp 110) 49 rfl rfl rfl k2 ?_ | refine wpList_append_run rfl (.tmp 113) (.tmp 119) 49 rfl rfl rfl k3 ?_))
            go_ret
            exact HF.out
          · have hdv : dropV (.slice (some ⟨b, off, none⟩) r.L.length cL) r.L.length = .slice (some ⟨b, off + r.L.length * 3, none⟩) (r.L.length - r.L.length) (cL - r.L.length) := by unfold dropV; simp only [if_neg hcne, Addr.add_lit]
            rw [hdv] at k3
            have hx5 := (show Whole w5 w.heap.size 52 #[.int .i64 n, .int .i64 x, .int .i64 y] from HX4.out.later k4)
            have y0 := hx5.read 0
            have y1 := hx5.read 1
            have y2 := hx5.read 2
            simp at y0 y1 y2
            have hRL := HW4.out.blk.size_lt
            have t2 := (((Below.refl w4.heap.size w4).alloc (Nat.le_refl _) (.cells #[] 52)).cell (p := ⟨R, 1, none⟩) hRL).trans t1
            have hci : r.L.length ≤ cL := hc2
            clear hfin hend HJ hpp hx5 k4 k5 hc hdv
            simp only [Nat.sub_self] at k3
            go_wp2_with (at_builtin; (first | refine wpList_append_run rfl (.tmp 100) (.tmp 106) 49 rfl rfl rfl k1 ?_ | refine wpList_append_run rfl (.tmp 108) (.tmp 110) 49 rfl rfl rfl k2 ?_ | refine wpList_append_run rfl (.tmp 113) (.tmp 119) 49 rfl rfl rfl k3 ?_))
            go_ret
            exact HF.out
end Go.Proofs.Ytkfhjpgapmfiaaa

