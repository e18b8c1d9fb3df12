/-
  Layer 18: the reference's table in memory; contracts of flowOK, State, Refuse, Accept, Send, Count. Written by gen_lfref.py.
-/
import Derived.Test.YtkhngfadhfomoaaIntL
import Derived.Test.YtkhngfadhfomoaaLfPlain
import Derived.Test.YtkhngfadhfomoaaBlk
import Derived.Test.YtkhngfadhfomoaaAt
import Derived.Test.YtkhngfadhfomoaaStA
import Derived.Deep.LoopGhost
import Derived.LoopTactic
namespace Go.Proofs.Ytkhngfadhfomoaa
open Go.ChangeShapes Go.WideShapes Go.ChangeAt Go.RowKit
set_option linter.unusedVariables false

def csF (x : LfE) : List Value := [.int .i64 x.f, .int .i64 x.n, .int .i64 x.s, .int .i64 x.y]
theorem lfElt : Elt csF 4 34 28 :=
  ⟨fun _ => rfl, fun a u hu => by simp [csF] at hu; rcases hu with rfl | rfl | rfl | rfl <;> rfl, by decide, Try.underlying28, .agg #[.int .i64 0, .int .i64 0, .int .i64 0, .int .i64 0], 32, by decide, by decide, by kernel_rfl⟩
/-- The cells of a table: two slices, 32 numbers. -/
def ltC (s : LfS) (vL vD : Value) (i : Nat) : Value := if i = 0 then vL else if i = 1 then vD else .int .i64 (s.r ((i - 2 : Nat) : Int))
theorem ltC_r (s : LfS) (vL vD : Value) (k : Nat) : ltC s vL vD (2 + k) = .int .i64 (s.r (k : Int)) := by unfold ltC; rw [if_neg (by omega), if_neg (by omega), show 2 + k - 2 = k by omega]
/-- The reference's table in block S. -/
def LtP (S : Nat) (s : LfS) : RP := fun T w => LfOk s ∧ (∀ k, T k → k < w.heap.size) ∧ T S ∧ ∃ vL vD, Blk w S 31 34 (ltC s vL vD) ∧ w.ownsRow 0 34 4 vL s.l.length (srs csF s.l) ∧ w.ownsRow 0 3 1 vD s.d.length (srs csI s.d) ∧ (∀ b, vL.ownBlock = some b → T b) ∧ ∀ b, vD.ownBlock = some b → T b
theorem LtP.frm {base S : Nat} {s : LfS} : Frm base (LtP S s) := by
  refine ⟨fun ⟨_, h1, _⟩ => h1, fun {T U w w'} ⟨h0, h1, h2, vL, vD, h3, h4, h5, h6, h7⟩ hc hb hs => ?_⟩
  exact ⟨h0, fun k hk => by have := h1 k hk; have := hc.size; omega, h2, vL, vD, h3.carry (hc.block S (h1 S h2) (hs S h2)), owk h4 fun b hb => hc.block b (h1 b (h6 b hb)) (hs b (h6 b hb)), owk h5 fun b hb => hc.block b (h1 b (h7 b hb)) (hs b (h7 b hb)), h6, h7⟩
theorem LtP.later {S : Nat} {s : LfS} {T : Nat → Prop} {w w' : World} (h : LtP S s T w) (hb : Below w.heap.size w w') : LtP S s T w' :=
  (LtP.frm (base := 0)).chg (S := fun _ => False) h (Chg.of_below hb) (fun _ h => h.elim) (fun _ _ h => h)
/-- A row lies elsewhere than the struct. -/
theorem lt_apart {t t' : TypeId} {m n : Nat} {v : Value} {xs : List Value} {S k nf : Nat} {f : Nat → Value} {w : World} (h3 : Blk w S t nf f) (h4 : w.ownsRow 0 t' m v n xs) (hne : t' ≠ t) (e : v.ownBlock = some k) : k ≠ S := by
  intro hk
  subst hk
  obtain ⟨cur, hcur⟩ := ow_type h4 e
  obtain ⟨cs, h5, _⟩ := h3
  have h6 : some (Obj.cells cur t' (0, 0)) = some (Obj.cells cs t (0, 0)) := Eq.trans (Eq.symm hcur) h5
  simp at h6
  exact hne h6.2
/-- What a call needs that reads the packets. -/
theorem LtP.rd {S : Nat} {s : LfS} {T : Nat → Prop} {w : World} (h : LtP S s T w) : LfOk s ∧ S < w.heap.size ∧ (∃ A c, w.cell? ⟨S, 0, none⟩ = some (.slice A s.l.length c) ∧ ∀ k (hk : k < s.l.length), ∃ g, A = some ⟨g, 0, none⟩ ∧ S ≠ g ∧ T g ∧ g < w.heap.size ∧ s.l.length ≤ c ∧ w.cell? ⟨g, k * 4, none⟩ = some (.int .i64 s.l[k].f) ∧ w.cell? ⟨g, k * 4 + 1, none⟩ = some (.int .i64 s.l[k].n) ∧ w.cell? ⟨g, k * 4 + 2, none⟩ = some (.int .i64 s.l[k].s) ∧ w.cell? ⟨g, k * 4 + 3, none⟩ = some (.int .i64 s.l[k].y)) ∧
    (∃ A c, w.cell? ⟨S, 1, none⟩ = some (.slice A s.d.length c) ∧ ∀ k (hk : k < s.d.length), ∃ g, A = some ⟨g, 0, none⟩ ∧ S ≠ g ∧ g < w.heap.size ∧ w.cell? ⟨g, k, none⟩ = some (.int .i64 s.d[k])) ∧ ∀ k : Nat, k < 32 → w.cell? ⟨S, 2 + k, none⟩ = some (.int .i64 (s.r (k : Int))) := by
  obtain ⟨h0, h1, h2, vL, vD, h3, h4, h5, h6, h7⟩ := h
  refine ⟨h0, h1 S h2, ?_, ?_, fun k hk => by rw [h3.cell (by omega), ltC_r]⟩
  · obtain ⟨A, c, rfl⟩ := ow_shape h4
    refine ⟨A, c, (h3.cell (i := 0) (by omega)).trans rfl, fun k hk => ?_⟩
    obtain ⟨g, c', e, _, hg⟩ := ow_at h4 (by omega)
    obtain ⟨rfl, rfl⟩ : A = some ⟨g, 0, none⟩ ∧ c = c' := by simpa using e
    have hcc : s.l.length ≤ c := by
      rcases h4.2 with ⟨h9, _⟩ | ⟨g', c', cur, h9, _, _, hnc, _⟩
      · cases h9
      · obtain ⟨_, rfl⟩ : g = g' ∧ c = c' := by simpa using h9
        exact hnc
    have cc : ∀ j, j < 4 → w.cell? ⟨g, k * 4 + j, none⟩ = (csF s.l[k])[j]? := fun j hj => by rw [h4.cellAt (k * 4 + j) (by omega), srs_at lfElt.len s.l k j hk hj]
    exact ⟨g, rfl, (lt_apart h3 h4 (by decide) rfl).symm, h6 g rfl, hg, hcc, (cc 0 (by omega)).trans rfl, (cc 1 (by omega)).trans rfl, (cc 2 (by omega)).trans rfl, (cc 3 (by omega)).trans rfl⟩
  · obtain ⟨A, c, rfl⟩ := ow_shape h5
    refine ⟨A, c, (h3.cell (i := 1) (by omega)).trans rfl, fun k hk => ?_⟩
    obtain ⟨g, c', e, _, hg⟩ := ow_at h5 (by omega)
    obtain ⟨rfl, rfl⟩ : A = some ⟨g, 0, none⟩ ∧ c = c' := by simpa using e
    have h9 := h5.cellAt (k * 1 + 0) (by omega)
    rw [srs_at intElt.len s.d k 0 hk (by omega), Nat.mul_one, Nat.add_zero] at h9
    exact ⟨g, rfl, (lt_apart h3 h5 (by decide) rfl).symm, hg, h9.trans rfl⟩
/-- One packet's state and reason are written. -/
theorem LtP.upd {S : Nat} {s : LfS} {T : Nat → Prop} {w : World} (h : LtP S s T w) {id : Int} (hi : lfIn s id) {g c : Nat} (hc : w.cell? ⟨S, 0, none⟩ = some (.slice (some ⟨g, 0, none⟩) s.l.length c)) :
    w.frozen? ⟨g, lfI id * 4 + 2, none⟩ = false ∧ w.frozen? ⟨g, lfI id * 4 + 3, none⟩ = false ∧ (∀ st, 1 ≤ st ∧ st ≤ 4 → LtP S { s with l := lfUp s id st (lfWy s id) } T (w.setCell ⟨g, lfI id * 4 + 2, none⟩ (.int .i64 st)) ∧ Chg T w (w.setCell ⟨g, lfI id * 4 + 2, none⟩ (.int .i64 st))) ∧
      ∀ st wy, 1 ≤ st ∧ st ≤ 4 → LtP S { s with l := lfUp s id st wy } T ((w.setCell ⟨g, lfI id * 4 + 2, none⟩ (.int .i64 st)).setCell ⟨g, lfI id * 4 + 3, none⟩ (.int .i64 wy)) ∧ Chg T w ((w.setCell ⟨g, lfI id * 4 + 2, none⟩ (.int .i64 st)).setCell ⟨g, lfI id * 4 + 3, none⟩ (.int .i64 wy)) := by
  have hk := lfI_lt hi
  obtain ⟨h0, h1, h2, vL, vD, h3, h4, h5, h6, h7⟩ := h
  obtain rfl : vL = .slice (some ⟨g, 0, none⟩) s.l.length c := by
    have h9 := (h3.cell (i := 0) (by omega)).symm.trans hc
    simpa [ltC] using h9
  have hgT := h6 g rfl
  have hgS : S ≠ g := (lt_apart h3 h4 (by decide) rfl).symm
  have hgD : ∀ k, vD.ownBlock = some k → k ≠ g := fun k e e2 => by
    subst e2
    exact own_other h5 h4 (by decide) e rfl
  have hne : ∀ (W : World) (o : Nat) (u : Value) (k : Nat), k ≠ g → (W.setCell ⟨g, o, none⟩ u).heap[k]? = W.heap[k]? := fun W o u k hk => Below.heap_setCell _ _ _ _ (by simpa using hk)
  have e1 : ∀ st wy, lfUp s id st wy = s.l.set (lfI id) { s.l[lfI id] with s := st, y := wy } := fun st wy => by unfold lfUp; rw [dif_pos hi]
  have ewy : lfWy s id = s.l[lfI id].y := by unfold lfWy; rw [dif_pos hi]
  have r1 : ∀ st, (w.setCell ⟨g, lfI id * 4 + 2, none⟩ (.int .i64 st)).ownsRow 0 34 4 (.slice (some ⟨g, 0, none⟩) s.l.length c) s.l.length (srs csF (s.l.set (lfI id) { s.l[lfI id] with s := st })) := fun st =>
    row_cell (a := { s.l[lfI id] with s := st }) (u := .int .i64 st) (k := 2) lfElt.len h4 hk (by omega) (by unfold csF; rfl)
  refine ⟨h4.frozenAt _, h4.frozenAt _, fun st hst => ⟨⟨h0.up id hst s.d h0.d, fun k hk => by simpa [World.setCell] using h1 k hk, h2, _, vD, (h3.carry (hne _ _ _ S hgS)).same (fun _ _ => rfl), ?_, owk h5 fun k e => hne _ _ _ k (hgD k e), h6, h7⟩, (Chg.refl T w).setCell hgT _ _⟩,
    fun st wy hst => ⟨⟨h0.up id hst s.d h0.d, fun k hk => by simpa [World.setCell] using h1 k hk, h2, _, vD, ((h3.carry (hne _ _ _ S hgS)).carry (hne _ _ _ S hgS)).same (fun _ _ => rfl), ?_, owk (owk h5 fun k e => hne _ _ _ k (hgD k e)) fun k e => hne _ _ _ k (hgD k e), h6, h7⟩, ((Chg.refl T w).setCell hgT _ _).setCell hgT _ _⟩⟩
  · simp only [e1, ewy, List.length_set]
    exact r1 st
  · simp only [e1, List.length_set]
    have h9 := row_cell (a := { s.l[lfI id] with s := st, y := wy }) (u := .int .i64 wy) (k := 3) lfElt.len (r1 st) (by rw [List.length_set]; exact hk) (by omega) (by rw [List.getElem_set_self]; unfold csF; rfl)
    rw [List.set_set] at h9
    exact h9
/-! ### flowOK, State -/
set_option maxHeartbeats 4000000 in
theorem rflow_any (f : Int) (w : World) : Calls Try.prog 36 #[.int .i64 f] w fun e w' => e = .returned (.bool (lfF f)) ∧ w = w' := by
  have hc : (decide (0 ≤ f) = false ∧ lfF f = false) ∨ (decide (0 ≤ f) = true ∧ decide (f < 32) = true ∧ lfF f = true) ∨ (decide (0 ≤ f) = true ∧ decide (f < 32) = false ∧ lfF f = false) := by
    unfold lfF
    cases h1 : decide (0 ≤ f) <;> cases h2 : decide (f < 32) <;> simp
  rcases hc with ⟨h1, e⟩ | ⟨h1, h2, e⟩ | ⟨h1, h2, e⟩
  all_goals
    rw [e]
    clear e
    go_enter Try.func36, Try.ntmps36
    go_wp2
    go_ret
    exact ⟨rfl, rfl⟩
set_option maxHeartbeats 4000000 in
theorem rstate_any {S : Nat} {s : LfS} {T : Nat → Prop} {w : World} (hn : s.l.length ≤ 9999) (h : LtP S s T w) (id : Int) : Calls Try.prog 11 #[.pointer (some ⟨S, 0, none⟩), .int .i64 id] w fun e w' => e = .returned (.int .i64 (lfSt s id)) ∧ w = w' := by
  obtain ⟨h0, hS, ⟨A, c, d0, HR⟩, _, _⟩ := h.rd
  by_cases hi : lfIn s id
  · have hk := lfI_lt hi
    obtain ⟨g, rfl, hSg, _, hg, _, c0, c1, c2, c3⟩ := HR _ hk
    have e : lfSt s id = s.l[lfI id].s := by unfold lfSt; rw [dif_pos hi]
    rw [e]
    have hsub := lfI_is hi
    unfold lfIn at hi
    clear HR e h h0 c0 c1 c3
    generalize s.l[lfI id].s = x at *
    generalize lfI id = k at *
    generalize s.l.length = n at *
    obtain rfl : id = (k : Int) + 1 := by omega
    have w1 : IntKind.i64.wrap ((k : Int) + 1 - 1) = (k : Int) := by rw [IntWalk.i64_in _ (by omega)]; omega
    have hlt : ¬ (k : Int) + 1 < 1 := by omega
    have hgt : ¬ (n : Int) < (k : Int) + 1 := by omega
    have hlt2 : (k : Int) < (n : Int) := by omega
    have hk0 : (0 : Int) ≤ (k : Int) := by omega
    clear hsub hi hk
    go_enter Try.func11, Try.ntmps11
    go_wp2
    go_ret
    exact ⟨rfl, rfl⟩
  · have e : lfSt s id = 0 := by unfold lfSt; rw [dif_neg hi]
    rw [e]
    have hc : id < 1 ∨ (1 ≤ id ∧ (s.l.length : Int) < id) := by unfold lfIn at hi; omega
    clear h h0 HR e hi
    generalize s.l.length = n at *
    rcases hc with h1 | ⟨h1, h2⟩
    all_goals
      go_enter Try.func11, Try.ntmps11
      go_wp2
      go_ret
      exact ⟨rfl, rfl⟩
/-! ### Refuse -/
set_option maxRecDepth 100000 in
set_option maxHeartbeats 8000000 in
theorem rrfs_any {S : Nat} {s : LfS} {base : Nat} (hb9 : LfB s 9999) (f : Int) : Acts 23 #[.pointer (some ⟨S, 0, none⟩), .int .i64 f] base (LtP S s) (fun _ : Unit => .int .i64 (lfRfE f)) fun _ => LtP S (s.rfs f) := by
  intro T w hP hb hs
  have HFL := Lib.hid (rflow_any f w)
  cases hf : lfF f
  · have hE : lfRfE f = 1 := by unfold lfRfE; rw [hf]; rfl
    have hA : s.rfs f = s := by unfold LfS.rfs; rw [hf]; rfl
    rw [hE, hA]
    rw [hf] at HFL
    have HF := Lib.hid (show (∃ T', LtP S s T' w ∧ ∀ j, T' j → T j ∨ w.heap.size ≤ j) ∧ Chg T w w from ⟨⟨T, hP, fun k hk => .inl hk⟩, Chg.refl _ _⟩)
    clear hP hb hs hE hA hf hb9
    go_enter Try.func23, Try.ntmps23
    go_wp2_with fail
    (with_reducible refine HFL.out.mono ?_); rintro e w1 ⟨rfl, rfl⟩
    go_wp2
    go_ret
    first | exact ⟨rfl, HF.out⟩ | exact ⟨(), rfl, HF.out⟩
  · have hE : lfRfE f = 0 := by unfold lfRfE; rw [hf]; rfl
    rw [hE]
    rw [hf] at HFL
    have hff := lfF_yes hf
    obtain ⟨k, rfl⟩ : ∃ k : Nat, f = k := ⟨f.toNat, by omega⟩
    have hk : k < 32 := by omega
    have hA : s.rfs k = { s with r := fun j => if j = (k : Int) then s.r k + 1 else s.r j } := by unfold LfS.rfs; rw [if_pos hf]
    have hok := hP.1.rfs k
    rw [hA] at hok ⊢
    have hP2 := hP.later (Below.refl _ w).drew
    obtain ⟨h0, h1, h2, vL, vD, h3, h4, h5, h6, h7⟩ := hP2
    have c0 := h3.cell (i := 2 + k) (by omega)
    rw [ltC_r] at c0
    have z0 := h3.free (2 + k)
    have hr := hb9.r k
    have hne : ∀ (u : Value) (j : Nat), j ≠ S → (w.drew.setCell ⟨S, 2 + k, none⟩ u).heap[j]? = w.drew.heap[j]? := fun u j hj => Below.heap_setCell _ _ _ _ (by simpa using hj)
    have HF := Lib.hid (show (∃ T', LtP S { s with r := fun j => if j = (k : Int) then s.r k + 1 else s.r j } T' (w.drew.setCell ⟨S, 2 + k, none⟩ (.int .i64 (s.r k + 1))) ∧ ∀ j, T' j → T j ∨ w.heap.size ≤ j) ∧ Chg T w (w.drew.setCell ⟨S, 2 + k, none⟩ (.int .i64 (s.r k + 1))) from by
      refine ⟨⟨T, ⟨hok, fun j hj => by simpa [World.setCell] using h1 j hj, h2, vL, vD, (h3.set_ (i := 2 + k) (by omega) _).same fun i hi => ?_, owk h4 fun b e => hne _ b (lt_apart h3 h4 (by decide) e), owk h5 fun b e => hne _ b (lt_apart h3 h5 (by decide) e), h6, h7⟩, fun j hj => .inl hj⟩, ((Chg.refl T w).drew).setCell h2 _ _⟩
      by_cases e : i = 2 + k
      · subst e
        rw [updV_at, ltC_r]
        simp only [if_true]
      · rw [updV_ne e]
        unfold ltC
        by_cases e0 : i = 0
        · rw [if_pos e0, if_pos e0]
        · rw [if_neg e0, if_neg e0]
          by_cases e1 : i = 1
          · rw [if_pos e1, if_pos e1]
          · rw [if_neg e1, if_neg e1]
            have e2 : ((i - 2 : Nat) : Int) ≠ (k : Int) := by omega
            simp only [if_neg e2])
    have hS : S < w.drew.heap.size := h1 S h2
    clear hP h0 h1 h2 h3 h4 h5 h6 h7 hok hA hE hb hs hb9 hne hf
    generalize s.r k = r at *
    have hw : IntKind.i64.wrap (r + 1) = r + 1 := IntWalk.i64_in _ (by omega)
    have hk2 : (k : Int) < 32 := by omega
    have hk0 : (0 : Int) ≤ (k : Int) := by omega
    go_enter Try.func23, Try.ntmps23
    go_wp2_with fail
    (with_reducible refine HFL.out.mono ?_); rintro e w1 ⟨rfl, rfl⟩
    go_wp2_with fail
    refine wp_region_looseS 18 (by kernel_rfl) (by kernel_rfl) (StC w.drew (w.drew.setCell ⟨S, 2 + k, none⟩ (.int .i64 (r + 1))) (fun i => [.pointer (some ⟨S, 0, none⟩), .int .i64 (k : Nat), .pointer (some ⟨S, 0, none⟩), .pointer (some ⟨S, 2, none⟩), .pointer (some ⟨S, 2 + k, none⟩), .int .i64 r, .int .i64 (r + 1), .pointer (some ⟨S, 0, none⟩), .pointer (some ⟨S, 2, none⟩), .pointer (some ⟨S, 2 + k, none⟩)].getD i undef) 10) rfl StC.start ?_ ?_
    · simp only [OblAllS]
      refine ⟨?_, ?_, ?_, ?_, ?_, ?_, ?_, ?_, ?_, ?_, ?_, trivial⟩
      · intro L wx vals hi hu hcl hC
        simp [ClosedL, UpL, predL, predE, Region.binds] at hcl
        have hst : L 10 = false := by clear hC; cases h : L 10 with | false => rfl | true => exfalso; clear HF HFL; first | (simp_all; done) | grind
        obtain rfl := hC.a hst
        have HCx := Lib.hid hC
        clear hC hcl hu hi hst
        simp only [fillA, if_true, Act.put]
        simp
        go_wp2
        exact ⟨rfl, HCx.out.quiet (by decide) rfl⟩
      · intro L wx vals hi hu hcl hC
        simp [ClosedL, UpL, predL, predE, Region.binds] at hcl
        have hst : L 10 = false := by clear hC; cases h : L 10 with | false => rfl | true => exfalso; clear HF HFL; first | (simp_all; done) | grind
        obtain rfl := hC.a hst
        have HCx := Lib.hid hC
        clear hC hcl hu hi hst
        simp only [fillA, if_true, Act.put]
        simp
        go_wp2
        exact ⟨rfl, HCx.out.quiet (by decide) rfl⟩
      · intro L wx vals hi hu hcl hC
        simp [ClosedL, UpL, predL, predE, Region.binds] at hcl
        simp [predL, predE, Region.binds, UpL] at hu
        have hst : L 10 = false := by clear hC; cases h : L 10 with | false => rfl | true => exfalso; clear HF HFL; first | (simp_all; done) | grind
        have e0 : vals 0 = .pointer (some ⟨S, 0, none⟩) := hC.v 0 (by decide) (by simp [hu])
        obtain rfl := hC.a hst
        have HCx := Lib.hid hC
        clear hC hcl hu hi hst
        simp only [fillA, if_true, Act.put]
        simp
        simp only [e0]
        clear e0
        go_wp2
        exact ⟨rfl, HCx.out.quiet (by decide) rfl⟩
      · intro L wx vals hi hu hcl hC
        simp [ClosedL, UpL, predL, predE, Region.binds] at hcl
        simp [predL, predE, Region.binds, UpL] at hu
        have hst : L 10 = false := by clear hC; cases h : L 10 with | false => rfl | true => exfalso; clear HF HFL; first | (simp_all; done) | grind
        have e2 : vals 2 = .pointer (some ⟨S, 0, none⟩) := hC.v 2 (by decide) (by simp [hu])
        obtain rfl := hC.a hst
        have HCx := Lib.hid hC
        clear hC hcl hu hi hst
        simp only [fillA, if_true, Act.put]
        simp
        simp only [e2]
        clear e2
        go_wp2
        exact ⟨rfl, HCx.out.quiet (by decide) rfl⟩
      · intro L wx vals hi hu hcl hC
        simp [ClosedL, UpL, predL, predE, Region.binds] at hcl
        simp [predL, predE, Region.binds, UpL] at hu
        have hst : L 10 = false := by clear hC; cases h : L 10 with | false => rfl | true => exfalso; clear HF HFL; first | (simp_all; done) | grind
        have e1 : vals 1 = .int .i64 (k : Nat) := hC.v 1 (by decide) (by simp [hu])
        have e3 : vals 3 = .pointer (some ⟨S, 2, none⟩) := hC.v 3 (by decide) (by simp [hu])
        obtain rfl := hC.a hst
        have HCx := Lib.hid hC
        clear hC hcl hu hi hst
        simp only [fillA, if_true, Act.put]
        simp
        simp only [e1, e3]
        clear e1 e3
        go_wp2
        exact ⟨rfl, HCx.out.quiet (by decide) rfl⟩
      · intro L wx vals hi hu hcl hC
        simp [ClosedL, UpL, predL, predE, Region.binds] at hcl
        simp [predL, predE, Region.binds, UpL] at hu
        have hst : L 10 = false := by clear hC; cases h : L 10 with | false => rfl | true => exfalso; clear HF HFL; first | (simp_all; done) | grind
        have e4 : vals 4 = .pointer (some ⟨S, 2 + k, none⟩) := hC.v 4 (by decide) (by simp [hu])
        obtain rfl := hC.a hst
        have HCx := Lib.hid hC
        clear hC hcl hu hi hst
        simp only [fillA, if_true, Act.put]
        simp
        simp only [e4]
        clear e4
        go_wp2
        exact ⟨rfl, HCx.out.quiet (by decide) rfl⟩
      · intro L wx vals hi hu hcl hC
        simp [ClosedL, UpL, predL, predE, Region.binds] at hcl
        simp [predL, predE, Region.binds, UpL] at hu
        have hst : L 10 = false := by clear hC; cases h : L 10 with | false => rfl | true => exfalso; clear HF HFL; first | (simp_all; done) | grind
        have e5 : vals 5 = .int .i64 r := hC.v 5 (by decide) (by simp [hu])
        obtain rfl := hC.a hst
        have HCx := Lib.hid hC
        clear hC hcl hu hi hst
        simp only [fillA, if_true, Act.put]
        simp
        simp only [e5]
        clear e5
        go_wp2
        exact ⟨rfl, HCx.out.quiet (by decide) rfl⟩
      · intro L wx vals hi hu hcl hC
        simp [ClosedL, UpL, predL, predE, Region.binds] at hcl
        simp [predL, predE, Region.binds, UpL] at hu
        have hst : L 10 = false := by clear hC; cases h : L 10 with | false => rfl | true => exfalso; clear HF HFL; first | (simp_all; done) | grind
        have e0 : vals 0 = .pointer (some ⟨S, 0, none⟩) := hC.v 0 (by decide) (by simp [hu])
        obtain rfl := hC.a hst
        have HCx := Lib.hid hC
        clear hC hcl hu hi hst
        simp only [fillA, if_true, Act.put]
        simp
        simp only [e0]
        clear e0
        go_wp2
        exact ⟨rfl, HCx.out.quiet (by decide) rfl⟩
      · intro L wx vals hi hu hcl hC
        simp [ClosedL, UpL, predL, predE, Region.binds] at hcl
        simp [predL, predE, Region.binds, UpL] at hu
        have hst : L 10 = false := by clear hC; cases h : L 10 with | false => rfl | true => exfalso; clear HF HFL; first | (simp_all; done) | grind
        have e7 : vals 7 = .pointer (some ⟨S, 0, none⟩) := hC.v 7 (by decide) (by simp [hu])
        obtain rfl := hC.a hst
        have HCx := Lib.hid hC
        clear hC hcl hu hi hst
        simp only [fillA, if_true, Act.put]
        simp
        simp only [e7]
        clear e7
        go_wp2
        exact ⟨rfl, HCx.out.quiet (by decide) rfl⟩
      · intro L wx vals hi hu hcl hC
        simp [ClosedL, UpL, predL, predE, Region.binds] at hcl
        simp [predL, predE, Region.binds, UpL] at hu
        have hst : L 10 = false := by clear hC; cases h : L 10 with | false => rfl | true => exfalso; clear HF HFL; first | (simp_all; done) | grind
        have e1 : vals 1 = .int .i64 (k : Nat) := hC.v 1 (by decide) (by simp [hu])
        have e8 : vals 8 = .pointer (some ⟨S, 2, none⟩) := hC.v 8 (by decide) (by simp [hu])
        obtain rfl := hC.a hst
        have HCx := Lib.hid hC
        clear hC hcl hu hi hst
        simp only [fillA, if_true, Act.put]
        simp
        simp only [e1, e8]
        clear e1 e8
        go_wp2
        exact ⟨rfl, HCx.out.quiet (by decide) rfl⟩
      · intro L wx vals hi hu hcl hC
        simp [ClosedL, UpL, predL, predE, Region.binds] at hcl
        simp [predL, predE, Region.binds, UpL] at hu
        have hst : L 10 = false := hi
        have e6 : vals 6 = .int .i64 (r + 1) := hC.v 6 (by decide) (by simp [hu])
        have e9 : vals 9 = .pointer (some ⟨S, 2 + k, none⟩) := hC.v 9 (by decide) (by simp [hu])
        obtain rfl := hC.a hst
        have HCx := Lib.hid hC
        clear hC hcl hu hi hst
        simp only [fillA, if_true, Act.put]
        simp
        simp only [e6, e9]
        clear e6 e9
        go_wp2
        exact ⟨rfl, HCx.out.write⟩
    · intro wz vals U hC hall
      have hz := hC.b (hall 10 (by simp))
      subst hz
      simp only [fillA, if_true, Act.put]
      simp
      clear hC hall c0 z0
      generalize vals 0 = t0 at *
      generalize vals 1 = t1 at *
      generalize vals 2 = t2 at *
      generalize vals 3 = t3 at *
      generalize vals 4 = t4 at *
      generalize vals 5 = t5 at *
      generalize vals 6 = t6 at *
      generalize vals 7 = t7 at *
      generalize vals 8 = t8 at *
      generalize vals 9 = t9 at *
      go_wp2
      go_ret
      first | exact ⟨rfl, HF.out⟩ | exact ⟨(), rfl, HF.out⟩
/-! ### Accept -/
theorem racc_mem {S : Nat} {s : LfS} {f n : Int} {T : Nat → Prop} {w : World} (hb9 : LfB s 9999) (hP : LtP S s T w) (hE : lfAcE f n = 0) :
    ∃ vL A c w3 A0 c0, vL = .slice A0 s.l.length c0 ∧ w.cell? ⟨S, 0, none⟩ = some vL ∧
      (Builtin.append_ #[28, 28] 28 #[vL, .slice (some ⟨w.heap.size, 0, none⟩) 1 1]).run Try.prog (w.alloc (.cells #[.int .i64 f, .int .i64 n, .int .i64 1, .int .i64 0] 34)) = .ok (.slice A (s.l.length + 1) c) w3 ∧
      w3.cell? ⟨S, 0, none⟩ = some vL ∧ w3.frozen? ⟨S, 0, none⟩ = false ∧ (w3.setCell ⟨S, 0, none⟩ (.slice A (s.l.length + 1) c)).cell? ⟨S, 0, none⟩ = some (.slice A (s.l.length + 1) c) ∧
      (∃ T', LtP S (s.acc f n) T' (w3.setCell ⟨S, 0, none⟩ (.slice A (s.l.length + 1) c)) ∧ ∀ j, T' j → T j ∨ w.heap.size ≤ j) ∧ Chg T w (w3.setCell ⟨S, 0, none⟩ (.slice A (s.l.length + 1) c)) := by
  have hok := hP.1.acc f n
  have hA : s.acc f n = { s with l := s.l ++ [⟨f, n, 1, 0⟩] } := by unfold LfS.acc; rw [if_pos hE]
  rw [hA] at hok ⊢
  obtain ⟨h0, h1, h2, vL, vD, h3, h4, h5, h6, h7⟩ := hP
  have hln := hb9.l
  obtain ⟨A, c, w3, hrun, hv, hb3, hk3, hwh⟩ := lfElt.app_new3 ⟨f, n, 1, 0⟩ h4 (by omega) (Nat.zero_le _)
  have hS3 : w3.heap[S]? = w.heap[S]? := hk3 S (h1 S h2) fun e => lt_apart h3 h4 (by decide) e rfl
  have hB3 := h3.carry hS3
  have d0 : w.cell? ⟨S, 0, none⟩ = some vL := (h3.cell (i := 0) (by omega)).trans rfl
  have k0 : w3.cell? ⟨S, 0, none⟩ = some vL := (hB3.cell (i := 0) (by omega)).trans rfl
  have hch : Chg T w w3 := ⟨hb3.os, hb3.tape, hb3.output, hb3.size, fun k hk hnT => hk3 k hk fun e => hnT (h6 k e)⟩
  have hv' : w3.ownsRow 0 34 4 (.slice A (s.l.length + 1) c) (s.l ++ [(⟨f, n, 1, 0⟩ : LfE)]).length (srs csF (s.l ++ [(⟨f, n, 1, 0⟩ : LfE)])) := by rw [List.length_append]; exact hv
  have h5' : w3.ownsRow 0 3 1 vD s.d.length (srs csI s.d) := owk h5 fun b e => hk3 b (h1 b (h7 b e)) fun e2 => own_other h5 h4 (by decide) e e2
  have hne : ∀ (u : Value) (j : Nat), j ≠ S → (w3.setCell ⟨S, 0, none⟩ u).heap[j]? = w3.heap[j]? := fun u j hj => Below.heap_setCell _ _ _ _ (by simpa using hj)
  obtain ⟨A0, c0, e0⟩ := ow_shape h4
  refine ⟨vL, A, c, w3, A0, c0, e0, d0, hrun, k0, hB3.free 0, World.cell?_setCell_same _ _ _ k0, ⟨fun k => (T k ∨ w.heap.size ≤ k) ∧ k < w3.heap.size, ⟨hok, fun k hk => by simpa [World.setCell] using hk.2, ⟨.inl h2, hB3.lt⟩, .slice A (s.l.length + 1) c, vD, ?_, ?_, ?_, fun b e => ⟨?_, (own_lt hv e).2⟩, fun b e => ⟨.inl (h7 b e), (own_lt h5' e).2⟩⟩, fun j hj => hj.1⟩, hch.setCell h2 _ _⟩
  · refine (hB3.set_ (i := 0) (by omega) _).same fun i hi => ?_
    by_cases e : i = 0
    · subst e; rw [updV_at]; rfl
    · rw [updV_ne e]; unfold ltC; rw [if_neg e, if_neg e]
  · exact owk hv' fun b e => hne _ b (lt_apart hB3 hv' (by decide) e)
  · exact owk h5' fun b e => hne _ b (lt_apart hB3 h5' (by decide) e)
  · rcases hwh with h | ⟨g, h, hg⟩
    · rw [h] at e; exact .inl (h6 b e)
    · rw [h] at e
      have : g = b := by simpa using e
      exact .inr (by omega)
set_option maxRecDepth 100000 in
set_option maxHeartbeats 8000000 in
theorem racc_any {S : Nat} {s : LfS} {base : Nat} (hb9 : LfB s 9999) (f n : Int) : Acts 30 #[.pointer (some ⟨S, 0, none⟩), .int .i64 f, .int .i64 n] base (LtP S s) (fun _ : Unit => .tuple #[.int .i64 (lfAcV s f n), .int .i64 (lfAcE f n)]) fun _ => LtP S (s.acc f n) := by
  intro T w hP hb hs
  have HFL := Lib.hid (rflow_any f w)
  by_cases hE0 : lfAcE f n = 0
  · have hc : lfF f = true ∧ 1 ≤ n ∧ n ≤ 4096 := by
      unfold lfAcE at hE0
      by_cases h1 : lfF f = true ∧ 1 ≤ n ∧ n ≤ 4096
      · exact h1
      · rw [if_neg h1] at hE0; cases hE0
    obtain ⟨hf, hn1, hn2⟩ := hc
    have hV : lfAcV s f n = s.l.length + 1 := by unfold lfAcV; rw [if_pos hE0]
    rw [hE0, hV]
    obtain ⟨vL, A, c, w3, A0, c0, rfl, d0, hrun, k0, z0, k1, hR, hC⟩ := racc_mem hb9 hP hE0
    have HF := Lib.hid (And.intro hR hC)
    have hln := hb9.l
    rw [hf] at HFL
    clear hR hC hP hb hs hE0 hV hb9 hf
    generalize s.l.length = m at *
    obtain ⟨d, hmd⟩ : ∃ d : Int, (m : Int) = d := ⟨_, rfl⟩
    have HMD := Lib.hid hmd
    have hfull : decide (262144 ≤ d) = false := by simp; omega
    go_enter Try.func30, Try.ntmps30
    go_wp2_with fail
    (with_reducible refine HFL.out.mono ?_); rintro e w1 ⟨rfl, rfl⟩
    go_wp2_with (at_builtin; refine wpList_append_run rfl (.tmp 29) (.tmp 33) 28 rfl rfl rfl hrun ?_)
    clear HMD
    subst hmd
    go_ret2
    first | exact ⟨rfl, HF.out⟩ | exact ⟨(), rfl, HF.out⟩
  · have hE : lfAcE f n = 1 := by unfold lfAcE at hE0 ⊢; split at hE0 <;> simp_all
    have hV : lfAcV s f n = 0 := by unfold lfAcV; rw [if_neg hE0]
    have hA : s.acc f n = s := by unfold LfS.acc; rw [if_neg hE0]
    rw [hE, hV, hA]
    have hc : lfF f = false ∨ (lfF f = true ∧ n < 1) ∨ (lfF f = true ∧ 1 ≤ n ∧ 4096 < n) := by
      unfold lfAcE at hE0
      cases hf : lfF f
      · exact .inl rfl
      · by_cases h1 : n < 1
        · exact .inr (.inl ⟨rfl, h1⟩)
        · by_cases h2 : 4096 < n
          · exact .inr (.inr ⟨rfl, by omega, h2⟩)
          · exact absurd (if_pos ⟨hf, by omega, by omega⟩) hE0
    have HF := Lib.hid (show (∃ T', LtP S s T' w ∧ ∀ j, T' j → T j ∨ w.heap.size ≤ j) ∧ Chg T w w from ⟨⟨T, hP, fun k hk => .inl hk⟩, Chg.refl _ _⟩)
    clear hP hb hs hE hA hb9 hV hE0
    rcases hc with hf | ⟨hf, h1⟩ | ⟨hf, h1, h2⟩
    all_goals
      rw [hf] at HFL
      clear hf
      go_enter Try.func30, Try.ntmps30
      go_wp2_with fail
      (with_reducible refine HFL.out.mono ?_); rintro e w1 ⟨rfl, rfl⟩
      go_wp2
      go_ret2
      first | exact ⟨rfl, HF.out⟩ | exact ⟨(), rfl, HF.out⟩
/-! ### Send -/
set_option maxRecDepth 100000 in
set_option maxHeartbeats 8000000 in
theorem rsnd_any {S : Nat} {s : LfS} {base : Nat} (hb9 : LfB s 9999) (id : Int) : Acts 31 #[.pointer (some ⟨S, 0, none⟩), .int .i64 id] base (LtP S s) (fun _ : Unit => .int .i64 (lfSdE s id)) fun _ => LtP S (s.snd id) := by
  intro T w hP hb hs
  have HST := Lib.hid (rstate_any hb9.l hP id)
  have hst := (hP.1.st id).2
  by_cases hE : lfSdE s id = 0
  · have h12 : lfSt s id = 1 ∨ lfSt s id = 2 := by
      unfold lfSdE at hE
      by_cases h1 : lfSt s id = 0
      · rw [if_pos h1] at hE; cases hE
      · rw [if_neg h1] at hE
        by_cases h2 : lfSt s id = 1 ∨ lfSt s id = 2
        · exact h2
        · rw [if_neg h2] at hE; cases hE
    have hi : lfIn s id := lfSt_in (by omega)
    have hA : s.snd id = { s with l := lfUp s id 2 (lfWy s id) } := by unfold LfS.snd; rw [if_pos hE]
    rw [hE, hA]
    have hk := lfI_lt hi
    obtain ⟨h0, hS, ⟨A, c, d0, HR⟩, _, _⟩ := hP.rd
    obtain ⟨g, rfl, hSg, _, hg, _, c0, c1, c2, c3⟩ := HR _ hk
    obtain ⟨z2, z3, hU, _⟩ := hP.upd hi d0
    have hU2 := hU 2 (by omega)
    have HF := Lib.hid (show (∃ T', LtP S { s with l := lfUp s id 2 (lfWy s id) } T' (w.setCell ⟨g, lfI id * 4 + 2, none⟩ (.int .i64 2)) ∧ ∀ j, T' j → T j ∨ w.heap.size ≤ j) ∧ Chg T w (w.setCell ⟨g, lfI id * 4 + 2, none⟩ (.int .i64 2)) from ⟨⟨T, hU2.1, fun j hj => .inl hj⟩, hU2.2⟩)
    have hln := hb9.l
    have hsub := lfI_is hi
    unfold lfIn at hi
    clear HR h0 hU hU2 hP hb hs hE hA hb9 z3 c0 c1 c3
    obtain ⟨x, hx⟩ : ∃ x, lfSt s id = x := ⟨_, rfl⟩
    rw [hx] at h12 hst HST
    generalize s.l[lfI id].s = y at *
    obtain ⟨k, hkk⟩ : ∃ k, lfI id = k := ⟨_, rfl⟩
    rw [hkk] at hsub hk HF z2 c2
    obtain ⟨n, hnn⟩ : ∃ n, s.l.length = n := ⟨_, rfl⟩
    rw [hnn] at hi hk d0 hln
    have w1 : IntKind.i64.wrap (id - 1) = (k : Int) := by rw [IntWalk.i64_in _ (by omega)]; omega
    have hlt2 : (k : Int) < (n : Int) := by omega
    have hk0 : (0 : Int) ≤ (k : Int) := by omega
    clear hsub hkk hx hst hi hk hnn
    rcases h12 with rfl | rfl
    all_goals
      go_enter Try.func31, Try.ntmps31
      go_wp2_with fail
      (with_reducible refine HST.out.mono ?_); rintro e w1 ⟨rfl, rfl⟩
      go_wp2
      go_ret
      first | exact ⟨rfl, HF.out⟩ | exact ⟨(), rfl, HF.out⟩
  · have hA : s.snd id = s := by unfold LfS.snd; rw [if_neg hE]
    have hc : (lfSt s id = 0 ∧ lfSdE s id = 6) ∨ ((lfSt s id = 3 ∨ lfSt s id = 4) ∧ lfSdE s id = 14) := by
      unfold lfSdE at hE ⊢
      by_cases h1 : lfSt s id = 0
      · exact .inl ⟨h1, if_pos h1⟩
      · rw [if_neg h1] at hE ⊢
        by_cases h2 : lfSt s id = 1 ∨ lfSt s id = 2
        · rw [if_pos h2] at hE; exact absurd rfl hE
        · exact .inr ⟨by omega, if_neg h2⟩
    rw [hA]
    have HF := Lib.hid (show (∃ T', LtP S s T' w ∧ ∀ j, T' j → T j ∨ w.heap.size ≤ j) ∧ Chg T w w from ⟨⟨T, hP, fun k hk => .inl hk⟩, Chg.refl _ _⟩)
    clear hP hb hs hA hb9 hE hst
    generalize lfSt s id = x at *
    rcases hc with ⟨rfl, e⟩ | ⟨rfl | rfl, e⟩
    all_goals
      rw [e]
      clear e
      go_enter Try.func31, Try.ntmps31
      go_wp2_with fail
      (with_reducible refine HST.out.mono ?_); rintro e w1 ⟨rfl, rfl⟩
      go_wp2
      go_ret
      first | exact ⟨rfl, HF.out⟩ | exact ⟨(), rfl, HF.out⟩
/-! ### Count -/
set_option maxRecDepth 100000 in
set_option maxHeartbeats 8000000 in
theorem rcnt_any {S : Nat} {s : LfS} {T : Nat → Prop} {w : World} (hb9 : LfB s 9999) (h : LtP S s T w) (f x : Int) : Calls Try.prog 19 #[.pointer (some ⟨S, 0, none⟩), .int .i64 f, .int .i64 x] w fun e w' => e = .returned (.int .i64 (lfCn s f x)) ∧ w = w' := by
  obtain ⟨h0, hS, ⟨A, c, d0, hR⟩, _, _⟩ := h.rd
  have HR := Lib.hid hR
  unfold lfCn
  obtain ⟨l, sd, sr⟩ := s
  have hln := hb9.l
  simp only at hln d0 HR ⊢
  have HY := Lib.hid (fun k (hk : k < l.length) (h : (l[k].f == f && l[k].s == x) = true) => lfilter_yes (fun e : LfE => e.f == f && e.s == x) l hk h)
  have HNO := Lib.hid (fun k (hk : k < l.length) (h : (l[k].f == f && l[k].s == x) = false) => lfilter_no (fun e : LfE => e.f == f && e.s == x) l hk h)
  obtain ⟨n, hN⟩ : ∃ n, l.length = n := ⟨_, rfl⟩
  have HN := Lib.hid hN
  have hnn : n ≤ 9999 := by omega
  rw [hN] at d0
  clear h h0 hR hb9 hN hln
  go_enter Try.func19, Try.ntmps19
  go_wp2
  go_loopw [7, 8] (fun s7 s8 wr => ∃ (k m : Nat), k ≤ n ∧ m ≤ k ∧ s8 = .int .i64 k ∧ s7 = .int .i64 m ∧ Hid (((l.take k).filter (fun e => e.f == f && e.s == x)).length = m) ∧ Hid (wr = w)) (fun _ s8 _ => n - (intOf s8).toNat)
  case atStart => exact ⟨0, 0, Nat.zero_le _, Nat.le_refl _, rfl, rfl, Lib.hid (by simp), Lib.hid rfl⟩
  case round =>
    obtain ⟨k, m, hk, hm, rfl, rfl, HM, HW⟩ := hrel
    obtain rfl := HW.out
    by_cases hlt : k < n
    · have hlt' : (k : Int) < n := by omega
      have hk0 : (0 : Int) ≤ k := by omega
      have hkl : k < l.length := by have := HN.out; omega
      obtain ⟨g, rfl, _, _, _, _, c0, _, c2, _⟩ := HR.out k hkl
      have hY := HY.out k hkl
      have hNO := HNO.out k hkl
      generalize l[k] = e at *
      obtain ⟨ef, en, es, ey⟩ := e
      simp only at hY hNO c0 c2
      obtain ⟨b1, hb1⟩ : ∃ b1, (ef == f) = b1 := ⟨_, rfl⟩
      obtain ⟨b2, hb2⟩ : ∃ b2, (es == x) = b2 := ⟨_, rfl⟩
      rw [hb1, hb2] at hY hNO
      clear HR HY HNO
      cases b1
      · have HM2 := Lib.hid (show ((l.take (k + 1)).filter (fun e => e.f == f && e.s == x)).length = m by rw [hNO rfl]; exact HM.out)
        clear hY hNO
        go_wp2
        go_roundw
        case rel => exact ⟨k + 1, m, by omega, by omega, by go_num, rfl, HM2, by first | exact Lib.hid rfl | exact Lib.hid trivial⟩
        case measure => simp [intOf]; omega
      · cases b2
        · have HM2 := Lib.hid (show ((l.take (k + 1)).filter (fun e => e.f == f && e.s == x)).length = m by rw [hNO rfl]; exact HM.out)
          clear hY hNO
          go_wp2
          go_roundw
          case rel => exact ⟨k + 1, m, by omega, by omega, by go_num, rfl, HM2, by first | exact Lib.hid rfl | exact Lib.hid trivial⟩
          case measure => simp [intOf]; omega
        · have HM2 := Lib.hid (show ((l.take (k + 1)).filter (fun e => e.f == f && e.s == x)).length = m + 1 by rw [hY rfl, List.length_append, HM.out]; rfl)
          have hwm : IntKind.i64.wrap ((m : Int) + 1) = (m : Int) + 1 := IntWalk.i64_in _ (by omega)
          clear hY hNO
          go_wp2
          go_roundw
          case rel => exact ⟨k + 1, m + 1, by omega, by omega, by go_num, by go_num, HM2, by first | exact Lib.hid rfl | exact Lib.hid trivial⟩
          case measure => simp [intOf]; omega
    · obtain rfl : k = n := by omega
      have hf : ((l.filter fun e => e.f == f && e.s == x).length : Int) = m := by
        have := HM.out
        rw [List.take_of_length_le (by rw [HN.out]; exact Nat.le_refl _)] at this
        rw [this]
      have HF := Lib.hid hf
      clear HR HY HNO HM hf
      go_wp2
      go_ret
      exact ⟨ret_int HF.out.symm, rfl⟩
end Go.Proofs.Ytkhngfadhfomoaa

