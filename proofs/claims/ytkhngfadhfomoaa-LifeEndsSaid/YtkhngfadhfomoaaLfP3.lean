/-
  Layer 18: the program's Refuse, move, Accept. Written by gen_lfp3.py.
-/
import Derived.Test.YtkhngfadhfomoaaLfP2
import Derived.Test.YtkhngfadhfomoaaAt
import Derived.Test.YtkhngfadhfomoaaStA
namespace Go.Proofs.Ytkhngfadhfomoaa
open Go.ChangeShapes Go.WideShapes Go.ChangeAt Go.RowKit
set_option linter.unusedVariables false

/-- All operations read, the world stays. -/
structure StQ (W0 : World) (VT : Nat → Value) (L : Nat → Bool) (vals : Nat → Value) (w : World) : Prop where
  v : ∀ i, L i = true → vals i = VT i
  w : w = W0
theorem StQ.start {W0 : World} {VT : Nat → Value} : StQ W0 VT (fun _ => false) (fun _ => undef) W0 := ⟨(fun i h => by cases h), rfl⟩
theorem StQ.quiet {W0 w : World} {VT : Nat → Value} {L : Nat → Bool} {vals : Nat → Value} (h : StQ W0 VT L vals w) (i : Nat) {x : Value} (hx : x = VT i) : StQ W0 VT (setL L i) (setV vals i x) w := by
  refine ⟨fun j hL => ?_, h.w⟩
  by_cases e : j = i
  · subst e; rw [setV_at]; exact hx
  · rw [setV_ne e]; rw [setL_ne e] at hL; exact h.v j hL
/-- What the program holds of a table. -/
def lpM (s : LfS) : LpS := ⟨s.l, fun f j => lfCn s f j, fun f => s.r f, fun f => lfOd s f, fun f => lfBy s.l f⟩
def LfW (R : Nat) (s : LfS) : RP := fun T w => LfO s ∧ LpP R (lpM s) T w
theorem LfW.frm {base R : Nat} {s : LfS} : Frm base (LfW R s) :=
  ⟨fun ⟨_, h⟩ => (LpP.frm (base := base)).lt h, fun ⟨h0, h⟩ hc hb hs => ⟨h0, LpP.frm.chg h hc hb hs⟩⟩
theorem LfW.later {R : Nat} {s : LfS} {T : Nat → Prop} {w w' : World} (h : LfW R s T w) (hb : Below w.heap.size w w') : LfW R s T w' := ⟨h.1, h.2.later hb⟩
/-! ### Refuse -/
set_option maxRecDepth 100000 in
set_option maxHeartbeats 8000000 in
theorem pfrfs_any {R : Nat} {s : LfS} {base : Nat} (hb9 : LfB s 9999) (f : Int) : Acts 22 #[.pointer (some ⟨R, 0, none⟩), .int .i64 f] base (LfW R s) (fun _ : Unit => .int .i64 (lfRfE f)) fun _ => LfW R (s.rfs f) := by
  intro T w hP hb hs
  have HFL := Lib.hid (pfflow_any f w)
  cases hf : lfF f
  · have hE : lfRfE f = 1 := by unfold lfRfE; rw [hf]; rfl
    have hA : s.rfs f = s := by unfold LfS.rfs; rw [hf]; rfl
    rw [hE, hA]
    rw [hf] at HFL
    have HF := Lib.hid (show (∃ T', LfW R s T' w ∧ ∀ j, T' j → T j ∨ w.heap.size ≤ j) ∧ Chg T w w from ⟨⟨T, hP, fun k hk => .inl hk⟩, Chg.refl _ _⟩)
    clear hP hb hs hE hA hf hb9
    go_enter Try.func22, Try.ntmps22
    go_wp2_with fail
    (with_reducible refine HFL.out.mono ?_); rintro e w1 ⟨rfl, rfl⟩
    go_wp2
    go_ret
    first | exact ⟨rfl, HF.out⟩ | exact ⟨(), rfl, HF.out⟩
  · have hE : lfRfE f = 0 := by unfold lfRfE; rw [hf]; rfl
    rw [hE]
    rw [hf] at HFL
    have hff := lfF_yes hf
    obtain ⟨k, rfl⟩ : ∃ k : Nat, f = k := ⟨f.toNat, by omega⟩
    have hk : k < 32 := by omega
    have hA : s.rfs k = { s with r := fun j => if j = (k : Int) then s.r k + 1 else s.r j } := by unfold LfS.rfs; rw [if_pos hf]
    have hO := hP.1.rfs k
    have hP1 := hP.2.later (Below.refl _ w).drew
    obtain ⟨c0, z0⟩ := hP1.ref hk
    have hX := hP1.setR hk (s.r k + 1)
    have hr := hb9.r k
    have HF := Lib.hid (show (∃ T', LfW R (s.rfs k) T' (w.drew.setCell ⟨R, 1 + k * 8 + 5, none⟩ (.int .i64 (s.r k + 1))) ∧ ∀ j, T' j → T j ∨ w.heap.size ≤ j) ∧ Chg T w (w.drew.setCell ⟨R, 1 + k * 8 + 5, none⟩ (.int .i64 (s.r k + 1))) from by
      refine ⟨⟨T, ⟨hO, ?_⟩, fun j hj => .inl hj⟩, ((Chg.refl T w).drew).trans hX.2⟩
      rw [hA]
      refine hX.1.same rfl (fun f j hf hj => rfl) (fun g hg => ?_) (fun g hg => rfl) (fun g hg => rfl)
      show (if (g : Int) = (k : Int) then s.r k + 1 else s.r g) = if g = k then s.r k + 1 else s.r g
      by_cases e : g = k
      · rw [if_pos e, if_pos (by omega)]
      · rw [if_neg e, if_neg (by omega)])
    clear hP hP1 hX hO hA hE hb hs hb9 hf
    simp only [lpM] at c0
    generalize s.r k = r at *
    have hw : IntKind.i64.wrap (r + 1) = r + 1 := IntWalk.i64_in _ (by omega)
    have hk2 : (k : Int) < 32 := by omega
    have hk0 : (0 : Int) ≤ (k : Int) := by omega
    go_enter Try.func22, Try.ntmps22
    go_wp2_with fail
    (with_reducible refine HFL.out.mono ?_); rintro e w1 ⟨rfl, rfl⟩
    go_wp2_with fail
    refine wp_region_looseS 20 (by kernel_rfl) (by kernel_rfl) (StC (w.drew) (w.drew.setCell ⟨R, 1 + k * 8 + 5, none⟩ (.int .i64 (r + 1))) (fun i => [.pointer (some ⟨R, 0, none⟩), .int .i64 (k : Nat), .pointer (some ⟨R, 0, none⟩), .pointer (some ⟨R, 1, none⟩), .pointer (some ⟨R, 1 + k * 8, none⟩), .pointer (some ⟨R, 1 + k * 8 + 5, none⟩), .int .i64 r, .int .i64 (r + 1), .pointer (some ⟨R, 0, none⟩), .pointer (some ⟨R, 1, none⟩), .pointer (some ⟨R, 1 + k * 8, none⟩), .pointer (some ⟨R, 1 + k * 8 + 5, none⟩)].getD i undef) 12) rfl StC.start ?_ ?_
    · simp only [OblAllS]
      refine ⟨?_, ?_, ?_, ?_, ?_, ?_, ?_, ?_, ?_, ?_, ?_, ?_, ?_, trivial⟩
      · intro L wx vals hi hu hcl hC
        simp [ClosedL, UpL, predL, predE, Region.binds] at hcl
        have hst : L 12 = false := by clear hC; cases h : L 12 with | false => rfl | true => exfalso; clear HF HFL; first | (simp_all; done) | grind
        obtain rfl := hC.a hst
        have HCx := Lib.hid hC
        clear hC hcl hu hi hst
        simp only [fillA, if_true, Act.put]
        simp
        go_wp2
        exact ⟨rfl, HCx.out.quiet (by decide) rfl⟩
      · intro L wx vals hi hu hcl hC
        simp [ClosedL, UpL, predL, predE, Region.binds] at hcl
        have hst : L 12 = false := by clear hC; cases h : L 12 with | false => rfl | true => exfalso; clear HF HFL; first | (simp_all; done) | grind
        obtain rfl := hC.a hst
        have HCx := Lib.hid hC
        clear hC hcl hu hi hst
        simp only [fillA, if_true, Act.put]
        simp
        go_wp2
        exact ⟨rfl, HCx.out.quiet (by decide) rfl⟩
      · intro L wx vals hi hu hcl hC
        simp [ClosedL, UpL, predL, predE, Region.binds] at hcl
        simp [predL, predE, Region.binds, UpL] at hu
        have hst : L 12 = false := by clear hC; cases h : L 12 with | false => rfl | true => exfalso; clear HF HFL; first | (simp_all; done) | grind
        have e0 : vals 0 = .pointer (some ⟨R, 0, none⟩) := hC.v 0 (by decide) (by simp [hu])
        obtain rfl := hC.a hst
        have HCx := Lib.hid hC
        clear hC hcl hu hi hst
        simp only [fillA, if_true, Act.put]
        simp
        simp only [e0]
        clear e0
        go_wp2
        exact ⟨rfl, HCx.out.quiet (by decide) rfl⟩
      · intro L wx vals hi hu hcl hC
        simp [ClosedL, UpL, predL, predE, Region.binds] at hcl
        simp [predL, predE, Region.binds, UpL] at hu
        have hst : L 12 = false := by clear hC; cases h : L 12 with | false => rfl | true => exfalso; clear HF HFL; first | (simp_all; done) | grind
        have e2 : vals 2 = .pointer (some ⟨R, 0, none⟩) := hC.v 2 (by decide) (by simp [hu])
        obtain rfl := hC.a hst
        have HCx := Lib.hid hC
        clear hC hcl hu hi hst
        simp only [fillA, if_true, Act.put]
        simp
        simp only [e2]
        clear e2
        go_wp2
        exact ⟨rfl, HCx.out.quiet (by decide) rfl⟩
      · intro L wx vals hi hu hcl hC
        simp [ClosedL, UpL, predL, predE, Region.binds] at hcl
        simp [predL, predE, Region.binds, UpL] at hu
        have hst : L 12 = false := by clear hC; cases h : L 12 with | false => rfl | true => exfalso; clear HF HFL; first | (simp_all; done) | grind
        have e1 : vals 1 = .int .i64 (k : Nat) := hC.v 1 (by decide) (by simp [hu])
        have e3 : vals 3 = .pointer (some ⟨R, 1, none⟩) := hC.v 3 (by decide) (by simp [hu])
        obtain rfl := hC.a hst
        have HCx := Lib.hid hC
        clear hC hcl hu hi hst
        simp only [fillA, if_true, Act.put]
        simp
        simp only [e1, e3]
        clear e1 e3
        go_wp2
        exact ⟨rfl, HCx.out.quiet (by decide) rfl⟩
      · intro L wx vals hi hu hcl hC
        simp [ClosedL, UpL, predL, predE, Region.binds] at hcl
        simp [predL, predE, Region.binds, UpL] at hu
        have hst : L 12 = false := by clear hC; cases h : L 12 with | false => rfl | true => exfalso; clear HF HFL; first | (simp_all; done) | grind
        have e4 : vals 4 = .pointer (some ⟨R, 1 + k * 8, none⟩) := hC.v 4 (by decide) (by simp [hu])
        obtain rfl := hC.a hst
        have HCx := Lib.hid hC
        clear hC hcl hu hi hst
        simp only [fillA, if_true, Act.put]
        simp
        simp only [e4]
        clear e4
        go_wp2
        exact ⟨rfl, HCx.out.quiet (by decide) rfl⟩
      · intro L wx vals hi hu hcl hC
        simp [ClosedL, UpL, predL, predE, Region.binds] at hcl
        simp [predL, predE, Region.binds, UpL] at hu
        have hst : L 12 = false := by clear hC; cases h : L 12 with | false => rfl | true => exfalso; clear HF HFL; first | (simp_all; done) | grind
        have e5 : vals 5 = .pointer (some ⟨R, 1 + k * 8 + 5, none⟩) := hC.v 5 (by decide) (by simp [hu])
        obtain rfl := hC.a hst
        have HCx := Lib.hid hC
        clear hC hcl hu hi hst
        simp only [fillA, if_true, Act.put]
        simp
        simp only [e5]
        clear e5
        go_wp2
        exact ⟨rfl, HCx.out.quiet (by decide) rfl⟩
      · intro L wx vals hi hu hcl hC
        simp [ClosedL, UpL, predL, predE, Region.binds] at hcl
        simp [predL, predE, Region.binds, UpL] at hu
        have hst : L 12 = false := by clear hC; cases h : L 12 with | false => rfl | true => exfalso; clear HF HFL; first | (simp_all; done) | grind
        have e6 : vals 6 = .int .i64 r := hC.v 6 (by decide) (by simp [hu])
        obtain rfl := hC.a hst
        have HCx := Lib.hid hC
        clear hC hcl hu hi hst
        simp only [fillA, if_true, Act.put]
        simp
        simp only [e6]
        clear e6
        go_wp2
        exact ⟨rfl, HCx.out.quiet (by decide) rfl⟩
      · intro L wx vals hi hu hcl hC
        simp [ClosedL, UpL, predL, predE, Region.binds] at hcl
        simp [predL, predE, Region.binds, UpL] at hu
        have hst : L 12 = false := by clear hC; cases h : L 12 with | false => rfl | true => exfalso; clear HF HFL; first | (simp_all; done) | grind
        have e0 : vals 0 = .pointer (some ⟨R, 0, none⟩) := hC.v 0 (by decide) (by simp [hu])
        obtain rfl := hC.a hst
        have HCx := Lib.hid hC
        clear hC hcl hu hi hst
        simp only [fillA, if_true, Act.put]
        simp
        simp only [e0]
        clear e0
        go_wp2
        exact ⟨rfl, HCx.out.quiet (by decide) rfl⟩
      · intro L wx vals hi hu hcl hC
        simp [ClosedL, UpL, predL, predE, Region.binds] at hcl
        simp [predL, predE, Region.binds, UpL] at hu
        have hst : L 12 = false := by clear hC; cases h : L 12 with | false => rfl | true => exfalso; clear HF HFL; first | (simp_all; done) | grind
        have e8 : vals 8 = .pointer (some ⟨R, 0, none⟩) := hC.v 8 (by decide) (by simp [hu])
        obtain rfl := hC.a hst
        have HCx := Lib.hid hC
        clear hC hcl hu hi hst
        simp only [fillA, if_true, Act.put]
        simp
        simp only [e8]
        clear e8
        go_wp2
        exact ⟨rfl, HCx.out.quiet (by decide) rfl⟩
      · intro L wx vals hi hu hcl hC
        simp [ClosedL, UpL, predL, predE, Region.binds] at hcl
        simp [predL, predE, Region.binds, UpL] at hu
        have hst : L 12 = false := by clear hC; cases h : L 12 with | false => rfl | true => exfalso; clear HF HFL; first | (simp_all; done) | grind
        have e1 : vals 1 = .int .i64 (k : Nat) := hC.v 1 (by decide) (by simp [hu])
        have e9 : vals 9 = .pointer (some ⟨R, 1, none⟩) := hC.v 9 (by decide) (by simp [hu])
        obtain rfl := hC.a hst
        have HCx := Lib.hid hC
        clear hC hcl hu hi hst
        simp only [fillA, if_true, Act.put]
        simp
        simp only [e1, e9]
        clear e1 e9
        go_wp2
        exact ⟨rfl, HCx.out.quiet (by decide) rfl⟩
      · intro L wx vals hi hu hcl hC
        simp [ClosedL, UpL, predL, predE, Region.binds] at hcl
        simp [predL, predE, Region.binds, UpL] at hu
        have hst : L 12 = false := by clear hC; cases h : L 12 with | false => rfl | true => exfalso; clear HF HFL; first | (simp_all; done) | grind
        have e10 : vals 10 = .pointer (some ⟨R, 1 + k * 8, none⟩) := hC.v 10 (by decide) (by simp [hu])
        obtain rfl := hC.a hst
        have HCx := Lib.hid hC
        clear hC hcl hu hi hst
        simp only [fillA, if_true, Act.put]
        simp
        simp only [e10]
        clear e10
        go_wp2
        exact ⟨rfl, HCx.out.quiet (by decide) rfl⟩
      · intro L wx vals hi hu hcl hC
        simp [ClosedL, UpL, predL, predE, Region.binds] at hcl
        simp [predL, predE, Region.binds, UpL] at hu
        have hst : L 12 = false := hi
        have e7 : vals 7 = .int .i64 (r + 1) := hC.v 7 (by decide) (by simp [hu])
        have e11 : vals 11 = .pointer (some ⟨R, 1 + k * 8 + 5, none⟩) := hC.v 11 (by decide) (by simp [hu])
        obtain rfl := hC.a hst
        have HCx := Lib.hid hC
        clear hC hcl hu hi hst
        simp only [fillA, if_true, Act.put]
        simp
        simp only [e7, e11]
        clear e7 e11
        go_wp2
        exact ⟨rfl, HCx.out.write⟩
    · intro wz vals U hC hall
      have hz := hC.b (hall 12 (by simp))
      subst hz
      simp only [fillA, if_true, Act.put]
      simp
      clear hC hall c0 z0
      generalize vals 0 = t0 at *
      generalize vals 1 = t1 at *
      generalize vals 2 = t2 at *
      generalize vals 3 = t3 at *
      generalize vals 4 = t4 at *
      generalize vals 5 = t5 at *
      generalize vals 6 = t6 at *
      generalize vals 7 = t7 at *
      generalize vals 8 = t8 at *
      generalize vals 9 = t9 at *
      generalize vals 10 = t10 at *
      generalize vals 11 = t11 at *
      go_wp2
      go_ret
      first | exact ⟨rfl, HF.out⟩ | exact ⟨(), rfl, HF.out⟩
/-! ### move -/
def LpS.mv (m : LpS) (k f j x : Nat) (e : LfE) : LpS := ((m.cn f j (m.c f j - 1)).cn f x (m.c f x + 1)).el (m.l.set k { e with s := x })
set_option maxRecDepth 100000 in
set_option maxHeartbeats 16000000 in
theorem pfmove_any {R k f j x : Nat} {m : LpS} {base : Nat} {e : LfE} (hk : k < m.l.length) (hn : m.l.length ≤ 99999) (he : m.l[k] = e) (hef : e.f = f) (hes : e.s = j) (hf : f < 32) (hj : j < 5) (hx : x < 5) (hjx : x ≠ j) (hc : ∀ i, 0 ≤ m.c f i ∧ m.c f i ≤ 99999) :
    Acts 38 #[.pointer (some ⟨R, 0, none⟩), .int .i64 ((k : Int) + 1), .int .i64 (x : Nat)] base (LpP R m) (fun _ : Unit => .tuple #[]) fun _ => LpP R (m.mv k f j x e) := by
  intro T w hP hb hs
  obtain ⟨ef, en, es, ey⟩ := e
  simp only at hef hes
  subst hef hes
  have hP1 := hP.later (Below.refl _ w).drew
  have hP2 := hP1.later (Below.refl _ w.drew).drew
  obtain ⟨A, c, d0, _, HR⟩ := hP.pk
  obtain ⟨g, rfl, hnc, c0, c1, c2, c3⟩ := HR k hk
  rw [he] at c0 c2
  clear c1 c3
  have hb1 : Below w.heap.size w w.drew := (Below.refl _ w).drew
  have hb2 : Below w.heap.size w w.drew.drew := hb1.drew
  have q1 : w.drew.cell? ⟨g, k * 4, none⟩ = some (.int .i64 (f : Int)) := cell_later c0 hb1
  have q2 : w.drew.drew.cell? ⟨g, k * 4 + 2, none⟩ = some (.int .i64 (j : Int)) := cell_later c2 hb2
  obtain ⟨q3, z3⟩ := hP2.cnt hf hj
  have hX := hP2.setC hf hj (m.c f j - 1)
  obtain ⟨W2, hW2⟩ : ∃ W2, w.drew.drew.setCell ⟨R, 1 + f * 8 + j, none⟩ (.int .i64 (m.c f j - 1)) = W2 := ⟨_, rfl⟩
  rw [hW2] at hX
  have hP3 := hX.1.later (Below.refl _ W2).drew
  obtain ⟨q4, z4⟩ := hP3.cnt hf hx
  have e4 : (m.cn f j (m.c f j - 1)).c f x = m.c f x := if_neg (fun h => hjx h.2)
  rw [e4] at q4
  have hY := hP3.setC hf hx (m.c f x + 1)
  obtain ⟨W3, hW3⟩ : ∃ W3, W2.drew.setCell ⟨R, 1 + f * 8 + x, none⟩ (.int .i64 (m.c f x + 1)) = W3 := ⟨_, rfl⟩
  rw [hW3] at hY
  have hl3 : ((m.cn f j (m.c f j - 1)).cn f x (m.c f x + 1)).l = m.l := rfl
  have hgR : g ≠ R := hP.g_ne d0
  have hgw : ∀ p : Addr, (p = ⟨R, 0, none⟩ ∨ p.block ≠ R) → p.block < w.heap.size → W3.cell? p = w.cell? p := fun p hp hlt => by
    have n1 : ∀ i, (⟨R, 1 + i, none⟩ : Addr) ≠ p := fun i e2 => by
      rcases hp with rfl | h9
      · simp at e2
      · exact h9 (by rw [← e2])
    rw [← hW3, ← hW2, Nat.add_assoc 1, Nat.add_assoc 1, World.cell?_setCell_other _ _ _ _ (n1 _)]
    show (w.drew.drew.setCell _ _).cell? p = _
    rw [World.cell?_setCell_other _ _ _ _ (n1 _)]
    exact hb2.cell hlt
  have hg : g < w.heap.size := lt_of_cell c0
  have d3 : W3.cell? ⟨R, 0, none⟩ = some (.slice (some ⟨g, 0, none⟩) m.l.length c) := (hgw _ (.inl rfl) (hP.1 R hP.2.1)).trans d0
  have y3 : ∃ u, W3.cell? ⟨g, k * 4 + 2, none⟩ = some u := ⟨_, (hgw ⟨g, k * 4 + 2, none⟩ (.inr hgR) hg).trans c2⟩
  obtain ⟨y3v, y3⟩ := y3
  obtain ⟨z5, hZ⟩ := hY.1.setP (k := k) (j := 2) hk (by omega) d3 ⟨f, en, x, ey⟩ (.int .i64 (x : Nat)) (by
    have h9 : ((m.cn f j (m.c f j - 1)).cn f x (m.c f x + 1)).l[k] = ⟨f, en, j, ey⟩ := he
    rw [h9]; rfl)
  have hch : Chg T w (W3.setCell ⟨g, k * 4 + 2, none⟩ (.int .i64 (x : Nat))) := by
    have h1 : Chg T w W2 := (Chg.of_below (S := T) hb2).trans hX.2
    have h2 : Chg T w W3 := (h1.trans (Chg.of_below (S := T) (Below.refl _ W2).drew)).trans hY.2
    exact h2.trans hZ.2
  have HF := Lib.hid (show (∃ T', LpP R (m.mv k f j x ⟨f, en, j, ey⟩) T' (W3.setCell ⟨g, k * 4 + 2, none⟩ (.int .i64 (x : Nat))) ∧ ∀ j, T' j → T j ∨ w.heap.size ≤ j) ∧ Chg T w (W3.setCell ⟨g, k * 4 + 2, none⟩ (.int .i64 (x : Nat))) from ⟨⟨T, hZ.1, fun j hj => .inl hj⟩, hch⟩)
  have hcj := hc j
  have hcx := hc x
  clear hP hP1 hP2 hP3 HR hX hY hZ hch hgw hb hs hc e4 hl3 he c0 c2 hg
  generalize m.c f j = cj at *
  generalize m.c f x = cx at *
  have w1 : IntKind.i64.wrap ((k : Int) + 1 - 1) = (k : Int) := by rw [IntWalk.i64_in _ (by omega)]; omega
  have w2 : IntKind.i64.wrap (cj - 1) = cj - 1 := IntWalk.i64_in _ (by omega)
  have w3 : IntKind.i64.wrap (cx + 1) = cx + 1 := IntWalk.i64_in _ (by omega)
  have hk0 : (0 : Int) ≤ (k : Int) := by omega
  have hf0 : (0 : Int) ≤ (f : Int) ∧ (f : Int) < 32 := by omega
  have hj0 : (0 : Int) ≤ (j : Int) ∧ (j : Int) < 5 := by omega
  have hx0 : (0 : Int) ≤ (x : Int) ∧ (x : Int) < 5 := by omega
  obtain ⟨hf1, hf2⟩ := hf0
  obtain ⟨hj1, hj2⟩ := hj0
  obtain ⟨hx1, hx2⟩ := hx0
  generalize m.l.length = n at *
  have hlt2 : (k : Int) < (n : Int) := by omega
  have HW2 := Lib.hid hW2
  have HW3 := Lib.hid hW3
  clear hW2 hW3 hb1 hb2
  go_enter Try.func38, Try.ntmps38
  go_wp2_with fail
  refine wp_region_looseS 47 (by kernel_rfl) (by kernel_rfl) (StQ (w.drew) (fun i => [.pointer (some ⟨R, 0, none⟩), .pointer (some ⟨g, k * 4, none⟩), .pointer (some ⟨g, k * 4, none⟩), .pointer (some ⟨g, k * 4, none⟩), .int .i64 (f : Nat), .pointer (some ⟨R, 0, none⟩), .pointer (some ⟨R, 1, none⟩), .pointer (some ⟨R, 1 + f * 8, none⟩), .pointer (some ⟨R, 1 + f * 8, none⟩), .pointer (some ⟨R, 1 + f * 8, none⟩)].getD i undef)) rfl StQ.start ?_ ?_
  · simp only [OblAllS]
    refine ⟨?_, ?_, ?_, ?_, ?_, ?_, ?_, ?_, ?_, ?_, trivial⟩
    · intro L wx vals hi hu hcl hC
      obtain rfl := hC.w
      have HCx := Lib.hid hC
      clear hC hcl hu hi
      simp only [fillA, if_true, Act.put]
      simp
      go_wp2
      exact ⟨rfl, HCx.out.quiet 0 rfl⟩
    · intro L wx vals hi hu hcl hC
      obtain rfl := hC.w
      have HCx := Lib.hid hC
      clear hC hcl hu hi
      simp only [fillA, if_true, Act.put]
      simp
      go_wp2
      exact ⟨rfl, HCx.out.quiet 1 rfl⟩
    · intro L wx vals hi hu hcl hC
      simp [predL, predE, Region.binds, UpL] at hu
      have e1 : vals 1 = .pointer (some ⟨g, k * 4, none⟩) := hC.v 1 (by simp [hu])
      obtain rfl := hC.w
      have HCx := Lib.hid hC
      clear hC hcl hu hi
      simp only [fillA, if_true, Act.put]
      simp
      simp only [e1]
      clear e1
      go_wp2
      exact ⟨rfl, HCx.out.quiet 2 rfl⟩
    · intro L wx vals hi hu hcl hC
      simp [predL, predE, Region.binds, UpL] at hu
      have e2 : vals 2 = .pointer (some ⟨g, k * 4, none⟩) := hC.v 2 (by simp [hu])
      obtain rfl := hC.w
      have HCx := Lib.hid hC
      clear hC hcl hu hi
      simp only [fillA, if_true, Act.put]
      simp
      simp only [e2]
      clear e2
      go_wp2
      exact ⟨rfl, HCx.out.quiet 3 rfl⟩
    · intro L wx vals hi hu hcl hC
      simp [predL, predE, Region.binds, UpL] at hu
      have e3 : vals 3 = .pointer (some ⟨g, k * 4, none⟩) := hC.v 3 (by simp [hu])
      obtain rfl := hC.w
      have HCx := Lib.hid hC
      clear hC hcl hu hi
      simp only [fillA, if_true, Act.put]
      simp
      simp only [e3]
      clear e3
      go_wp2
      exact ⟨rfl, HCx.out.quiet 4 rfl⟩
    · intro L wx vals hi hu hcl hC
      simp [predL, predE, Region.binds, UpL] at hu
      have e0 : vals 0 = .pointer (some ⟨R, 0, none⟩) := hC.v 0 (by simp [hu])
      obtain rfl := hC.w
      have HCx := Lib.hid hC
      clear hC hcl hu hi
      simp only [fillA, if_true, Act.put]
      simp
      simp only [e0]
      clear e0
      go_wp2
      exact ⟨rfl, HCx.out.quiet 5 rfl⟩
    · intro L wx vals hi hu hcl hC
      simp [predL, predE, Region.binds, UpL] at hu
      have e5 : vals 5 = .pointer (some ⟨R, 0, none⟩) := hC.v 5 (by simp [hu])
      obtain rfl := hC.w
      have HCx := Lib.hid hC
      clear hC hcl hu hi
      simp only [fillA, if_true, Act.put]
      simp
      simp only [e5]
      clear e5
      go_wp2
      exact ⟨rfl, HCx.out.quiet 6 rfl⟩
    · intro L wx vals hi hu hcl hC
      simp [predL, predE, Region.binds, UpL] at hu
      have e4 : vals 4 = .int .i64 (f : Nat) := hC.v 4 (by simp [hu])
      have e6 : vals 6 = .pointer (some ⟨R, 1, none⟩) := hC.v 6 (by simp [hu])
      obtain rfl := hC.w
      have HCx := Lib.hid hC
      clear hC hcl hu hi
      simp only [fillA, if_true, Act.put]
      simp
      simp only [e4, e6]
      clear e4 e6
      go_wp2
      exact ⟨rfl, HCx.out.quiet 7 rfl⟩
    · intro L wx vals hi hu hcl hC
      simp [predL, predE, Region.binds, UpL] at hu
      have e7 : vals 7 = .pointer (some ⟨R, 1 + f * 8, none⟩) := hC.v 7 (by simp [hu])
      obtain rfl := hC.w
      have HCx := Lib.hid hC
      clear hC hcl hu hi
      simp only [fillA, if_true, Act.put]
      simp
      simp only [e7]
      clear e7
      go_wp2
      exact ⟨rfl, HCx.out.quiet 8 rfl⟩
    · intro L wx vals hi hu hcl hC
      simp [predL, predE, Region.binds, UpL] at hu
      have e8 : vals 8 = .pointer (some ⟨R, 1 + f * 8, none⟩) := hC.v 8 (by simp [hu])
      obtain rfl := hC.w
      have HCx := Lib.hid hC
      clear hC hcl hu hi
      simp only [fillA, if_true, Act.put]
      simp
      simp only [e8]
      clear e8
      go_wp2
      exact ⟨rfl, HCx.out.quiet 9 rfl⟩
  · intro wz vals U hC hall
    obtain rfl := hC.w
    have e9 : vals 9 = .pointer (some ⟨R, 1 + f * 8, none⟩) := hC.v 9 (hall 9 (by simp))
    simp only [fillA, if_true, Act.put]
    simp
    simp only [e9]
    clear hC hall e9
    generalize vals 0 = t0 at *
    generalize vals 1 = t1 at *
    generalize vals 2 = t2 at *
    generalize vals 3 = t3 at *
    generalize vals 4 = t4 at *
    generalize vals 5 = t5 at *
    generalize vals 6 = t6 at *
    generalize vals 7 = t7 at *
    generalize vals 8 = t8 at *
    clear q1
    go_wp2_with fail
    refine wp_region_looseS 47 (by kernel_rfl) (by kernel_rfl) (StC (w.drew.drew) (w.drew.drew.setCell ⟨R, 1 + f * 8 + j, none⟩ (.int .i64 (cj - 1))) (fun i => [.pointer (some ⟨R, 1 + f * 8, none⟩), .pointer (some ⟨g, k * 4, none⟩), .pointer (some ⟨g, k * 4, none⟩), .pointer (some ⟨g, k * 4 + 2, none⟩), .int .i64 (j : Nat), .pointer (some ⟨R, 1 + f * 8, none⟩), .pointer (some ⟨R, 1 + f * 8 + j, none⟩), .int .i64 cj, .int .i64 (cj - 1), .pointer (some ⟨R, 1 + f * 8, none⟩), .pointer (some ⟨R, 1 + f * 8 + j, none⟩)].getD i undef) 11) rfl StC.start ?_ ?_
    · simp only [OblAllS]
      refine ⟨?_, ?_, ?_, ?_, ?_, ?_, ?_, ?_, ?_, ?_, ?_, ?_, trivial⟩
      · intro L wx vals hi hu hcl hC
        simp [ClosedL, UpL, predL, predE, Region.binds] at hcl
        have hst : L 11 = false := by clear hC; cases h : L 11 with | false => rfl | true => exfalso; clear HF; first | (simp_all; done) | grind
        obtain rfl := hC.a hst
        have HCx := Lib.hid hC
        clear hC hcl hu hi hst
        simp only [fillA, if_true, Act.put]
        simp
        go_wp2
        exact ⟨rfl, HCx.out.quiet (by decide) rfl⟩
      · intro L wx vals hi hu hcl hC
        simp [ClosedL, UpL, predL, predE, Region.binds] at hcl
        have hst : L 11 = false := by clear hC; cases h : L 11 with | false => rfl | true => exfalso; clear HF; first | (simp_all; done) | grind
        obtain rfl := hC.a hst
        have HCx := Lib.hid hC
        clear hC hcl hu hi hst
        simp only [fillA, if_true, Act.put]
        simp
        go_wp2
        exact ⟨rfl, HCx.out.quiet (by decide) rfl⟩
      · intro L wx vals hi hu hcl hC
        simp [ClosedL, UpL, predL, predE, Region.binds] at hcl
        simp [predL, predE, Region.binds, UpL] at hu
        have hst : L 11 = false := by clear hC; cases h : L 11 with | false => rfl | true => exfalso; clear HF; first | (simp_all; done) | grind
        have e1 : vals 1 = .pointer (some ⟨g, k * 4, none⟩) := hC.v 1 (by decide) (by simp [hu])
        obtain rfl := hC.a hst
        have HCx := Lib.hid hC
        clear hC hcl hu hi hst
        simp only [fillA, if_true, Act.put]
        simp
        simp only [e1]
        clear e1
        go_wp2
        exact ⟨rfl, HCx.out.quiet (by decide) rfl⟩
      · intro L wx vals hi hu hcl hC
        simp [ClosedL, UpL, predL, predE, Region.binds] at hcl
        simp [predL, predE, Region.binds, UpL] at hu
        have hst : L 11 = false := by clear hC; cases h : L 11 with | false => rfl | true => exfalso; clear HF; first | (simp_all; done) | grind
        have e2 : vals 2 = .pointer (some ⟨g, k * 4, none⟩) := hC.v 2 (by decide) (by simp [hu])
        obtain rfl := hC.a hst
        have HCx := Lib.hid hC
        clear hC hcl hu hi hst
        simp only [fillA, if_true, Act.put]
        simp
        simp only [e2]
        clear e2
        go_wp2
        exact ⟨rfl, HCx.out.quiet (by decide) rfl⟩
      · intro L wx vals hi hu hcl hC
        simp [ClosedL, UpL, predL, predE, Region.binds] at hcl
        simp [predL, predE, Region.binds, UpL] at hu
        have hst : L 11 = false := by clear hC; cases h : L 11 with | false => rfl | true => exfalso; clear HF; first | (simp_all; done) | grind
        have e3 : vals 3 = .pointer (some ⟨g, k * 4 + 2, none⟩) := hC.v 3 (by decide) (by simp [hu])
        obtain rfl := hC.a hst
        have HCx := Lib.hid hC
        clear hC hcl hu hi hst
        simp only [fillA, if_true, Act.put]
        simp
        simp only [e3]
        clear e3
        go_wp2
        exact ⟨rfl, HCx.out.quiet (by decide) rfl⟩
      · intro L wx vals hi hu hcl hC
        simp [ClosedL, UpL, predL, predE, Region.binds] at hcl
        simp [predL, predE, Region.binds, UpL] at hu
        have hst : L 11 = false := by clear hC; cases h : L 11 with | false => rfl | true => exfalso; clear HF; first | (simp_all; done) | grind
        have e0 : vals 0 = .pointer (some ⟨R, 1 + f * 8, none⟩) := hC.v 0 (by decide) (by simp [hu])
        obtain rfl := hC.a hst
        have HCx := Lib.hid hC
        clear hC hcl hu hi hst
        simp only [fillA, if_true, Act.put]
        simp
        simp only [e0]
        clear e0
        go_wp2
        exact ⟨rfl, HCx.out.quiet (by decide) rfl⟩
      · intro L wx vals hi hu hcl hC
        simp [ClosedL, UpL, predL, predE, Region.binds] at hcl
        simp [predL, predE, Region.binds, UpL] at hu
        have hst : L 11 = false := by clear hC; cases h : L 11 with | false => rfl | true => exfalso; clear HF; first | (simp_all; done) | grind
        have e4 : vals 4 = .int .i64 (j : Nat) := hC.v 4 (by decide) (by simp [hu])
        have e5 : vals 5 = .pointer (some ⟨R, 1 + f * 8, none⟩) := hC.v 5 (by decide) (by simp [hu])
        obtain rfl := hC.a hst
        have HCx := Lib.hid hC
        clear hC hcl hu hi hst
        simp only [fillA, if_true, Act.put]
        simp
        simp only [e4, e5]
        clear e4 e5
        go_wp2
        exact ⟨rfl, HCx.out.quiet (by decide) rfl⟩
      · intro L wx vals hi hu hcl hC
        simp [ClosedL, UpL, predL, predE, Region.binds] at hcl
        simp [predL, predE, Region.binds, UpL] at hu
        have hst : L 11 = false := by clear hC; cases h : L 11 with | false => rfl | true => exfalso; clear HF; first | (simp_all; done) | grind
        have e6 : vals 6 = .pointer (some ⟨R, 1 + f * 8 + j, none⟩) := hC.v 6 (by decide) (by simp [hu])
        obtain rfl := hC.a hst
        have HCx := Lib.hid hC
        clear hC hcl hu hi hst
        simp only [fillA, if_true, Act.put]
        simp
        simp only [e6]
        clear e6
        go_wp2
        exact ⟨rfl, HCx.out.quiet (by decide) rfl⟩
      · intro L wx vals hi hu hcl hC
        simp [ClosedL, UpL, predL, predE, Region.binds] at hcl
        simp [predL, predE, Region.binds, UpL] at hu
        have hst : L 11 = false := by clear hC; cases h : L 11 with | false => rfl | true => exfalso; clear HF; first | (simp_all; done) | grind
        have e7 : vals 7 = .int .i64 cj := hC.v 7 (by decide) (by simp [hu])
        obtain rfl := hC.a hst
        have HCx := Lib.hid hC
        clear hC hcl hu hi hst
        simp only [fillA, if_true, Act.put]
        simp
        simp only [e7]
        clear e7
        go_wp2
        exact ⟨rfl, HCx.out.quiet (by decide) rfl⟩
      · intro L wx vals hi hu hcl hC
        simp [ClosedL, UpL, predL, predE, Region.binds] at hcl
        simp [predL, predE, Region.binds, UpL] at hu
        have hst : L 11 = false := by clear hC; cases h : L 11 with | false => rfl | true => exfalso; clear HF; first | (simp_all; done) | grind
        have e0 : vals 0 = .pointer (some ⟨R, 1 + f * 8, none⟩) := hC.v 0 (by decide) (by simp [hu])
        obtain rfl := hC.a hst
        have HCx := Lib.hid hC
        clear hC hcl hu hi hst
        simp only [fillA, if_true, Act.put]
        simp
        simp only [e0]
        clear e0
        go_wp2
        exact ⟨rfl, HCx.out.quiet (by decide) rfl⟩
      · intro L wx vals hi hu hcl hC
        simp [ClosedL, UpL, predL, predE, Region.binds] at hcl
        simp [predL, predE, Region.binds, UpL] at hu
        have hst : L 11 = false := by clear hC; cases h : L 11 with | false => rfl | true => exfalso; clear HF; first | (simp_all; done) | grind
        have e4 : vals 4 = .int .i64 (j : Nat) := hC.v 4 (by decide) (by simp [hu])
        have e9 : vals 9 = .pointer (some ⟨R, 1 + f * 8, none⟩) := hC.v 9 (by decide) (by simp [hu])
        obtain rfl := hC.a hst
        have HCx := Lib.hid hC
        clear hC hcl hu hi hst
        simp only [fillA, if_true, Act.put]
        simp
        simp only [e4, e9]
        clear e4 e9
        go_wp2
        exact ⟨rfl, HCx.out.quiet (by decide) rfl⟩
      · intro L wx vals hi hu hcl hC
        simp [ClosedL, UpL, predL, predE, Region.binds] at hcl
        simp [predL, predE, Region.binds, UpL] at hu
        have hst : L 11 = false := hi
        have e8 : vals 8 = .int .i64 (cj - 1) := hC.v 8 (by decide) (by simp [hu])
        have e10 : vals 10 = .pointer (some ⟨R, 1 + f * 8 + j, none⟩) := hC.v 10 (by decide) (by simp [hu])
        obtain rfl := hC.a hst
        have HCx := Lib.hid hC
        clear hC hcl hu hi hst
        simp only [fillA, if_true, Act.put]
        simp
        simp only [e8, e10]
        clear e8 e10
        go_wp2
        exact ⟨rfl, HCx.out.write⟩
    · intro wz vals U hC hall
      have hz := hC.b (hall 11 (by simp))
      subst hz
      simp only [fillA, if_true, Act.put]
      simp
      clear hC hall q2 q3 z3
      generalize vals 0 = t0 at *
      generalize vals 1 = t1 at *
      generalize vals 2 = t2 at *
      generalize vals 3 = t3 at *
      generalize vals 4 = t4 at *
      generalize vals 5 = t5 at *
      generalize vals 6 = t6 at *
      generalize vals 7 = t7 at *
      generalize vals 8 = t8 at *
      generalize vals 9 = t9 at *
      generalize vals 10 = t10 at *
      rw [HW2.out]
      go_wp2_with fail
      refine wp_region_looseS 47 (by kernel_rfl) (by kernel_rfl) (StC (W2.drew) (W2.drew.setCell ⟨R, 1 + f * 8 + x, none⟩ (.int .i64 (cx + 1))) (fun i => [.pointer (some ⟨R, 1 + f * 8, none⟩), .int .i64 (x : Nat), .pointer (some ⟨R, 1 + f * 8, none⟩), .pointer (some ⟨R, 1 + f * 8 + x, none⟩), .int .i64 cx, .int .i64 (cx + 1), .pointer (some ⟨R, 1 + f * 8, none⟩), .pointer (some ⟨R, 1 + f * 8 + x, none⟩)].getD i undef) 8) rfl StC.start ?_ ?_
      · simp only [OblAllS]
        refine ⟨?_, ?_, ?_, ?_, ?_, ?_, ?_, ?_, ?_, trivial⟩
        · intro L wx vals hi hu hcl hC
          simp [ClosedL, UpL, predL, predE, Region.binds] at hcl
          have hst : L 8 = false := by clear hC; cases h : L 8 with | false => rfl | true => exfalso; clear HF; first | (simp_all; done) | grind
          obtain rfl := hC.a hst
          have HCx := Lib.hid hC
          clear hC hcl hu hi hst
          simp only [fillA, if_true, Act.put]
          simp
          go_wp2
          exact ⟨rfl, HCx.out.quiet (by decide) rfl⟩
        · intro L wx vals hi hu hcl hC
          simp [ClosedL, UpL, predL, predE, Region.binds] at hcl
          have hst : L 8 = false := by clear hC; cases h : L 8 with | false => rfl | true => exfalso; clear HF; first | (simp_all; done) | grind
          obtain rfl := hC.a hst
          have HCx := Lib.hid hC
          clear hC hcl hu hi hst
          simp only [fillA, if_true, Act.put]
          simp
          go_wp2
          exact ⟨rfl, HCx.out.quiet (by decide) rfl⟩
        · intro L wx vals hi hu hcl hC
          simp [ClosedL, UpL, predL, predE, Region.binds] at hcl
          simp [predL, predE, Region.binds, UpL] at hu
          have hst : L 8 = false := by clear hC; cases h : L 8 with | false => rfl | true => exfalso; clear HF; first | (simp_all; done) | grind
          have e0 : vals 0 = .pointer (some ⟨R, 1 + f * 8, none⟩) := hC.v 0 (by decide) (by simp [hu])
          obtain rfl := hC.a hst
          have HCx := Lib.hid hC
          clear hC hcl hu hi hst
          simp only [fillA, if_true, Act.put]
          simp
          simp only [e0]
          clear e0
          go_wp2
          exact ⟨rfl, HCx.out.quiet (by decide) rfl⟩
        · intro L wx vals hi hu hcl hC
          simp [ClosedL, UpL, predL, predE, Region.binds] at hcl
          simp [predL, predE, Region.binds, UpL] at hu
          have hst : L 8 = false := by clear hC; cases h : L 8 with | false => rfl | true => exfalso; clear HF; first | (simp_all; done) | grind
          have e1 : vals 1 = .int .i64 (x : Nat) := hC.v 1 (by decide) (by simp [hu])
          have e2 : vals 2 = .pointer (some ⟨R, 1 + f * 8, none⟩) := hC.v 2 (by decide) (by simp [hu])
          obtain rfl := hC.a hst
          have HCx := Lib.hid hC
          clear hC hcl hu hi hst
          simp only [fillA, if_true, Act.put]
          simp
          simp only [e1, e2]
          clear e1 e2
          go_wp2
          exact ⟨rfl, HCx.out.quiet (by decide) rfl⟩
        · intro L wx vals hi hu hcl hC
          simp [ClosedL, UpL, predL, predE, Region.binds] at hcl
          simp [predL, predE, Region.binds, UpL] at hu
          have hst : L 8 = false := by clear hC; cases h : L 8 with | false => rfl | true => exfalso; clear HF; first | (simp_all; done) | grind
          have e3 : vals 3 = .pointer (some ⟨R, 1 + f * 8 + x, none⟩) := hC.v 3 (by decide) (by simp [hu])
          obtain rfl := hC.a hst
          have HCx := Lib.hid hC
          clear hC hcl hu hi hst
          simp only [fillA, if_true, Act.put]
          simp
          simp only [e3]
          clear e3
          go_wp2
          exact ⟨rfl, HCx.out.quiet (by decide) rfl⟩
        · intro L wx vals hi hu hcl hC
          simp [ClosedL, UpL, predL, predE, Region.binds] at hcl
          simp [predL, predE, Region.binds, UpL] at hu
          have hst : L 8 = false := by clear hC; cases h : L 8 with | false => rfl | true => exfalso; clear HF; first | (simp_all; done) | grind
          have e4 : vals 4 = .int .i64 cx := hC.v 4 (by decide) (by simp [hu])
          obtain rfl := hC.a hst
          have HCx := Lib.hid hC
          clear hC hcl hu hi hst
          simp only [fillA, if_true, Act.put]
          simp
          simp only [e4]
          clear e4
          go_wp2
          exact ⟨rfl, HCx.out.quiet (by decide) rfl⟩
        · intro L wx vals hi hu hcl hC
          simp [ClosedL, UpL, predL, predE, Region.binds] at hcl
          simp [predL, predE, Region.binds, UpL] at hu
          have hst : L 8 = false := by clear hC; cases h : L 8 with | false => rfl | true => exfalso; clear HF; first | (simp_all; done) | grind
          have e0 : vals 0 = .pointer (some ⟨R, 1 + f * 8, none⟩) := hC.v 0 (by decide) (by simp [hu])
          obtain rfl := hC.a hst
          have HCx := Lib.hid hC
          clear hC hcl hu hi hst
          simp only [fillA, if_true, Act.put]
          simp
          simp only [e0]
          clear e0
          go_wp2
          exact ⟨rfl, HCx.out.quiet (by decide) rfl⟩
        · intro L wx vals hi hu hcl hC
          simp [ClosedL, UpL, predL, predE, Region.binds] at hcl
          simp [predL, predE, Region.binds, UpL] at hu
          have hst : L 8 = false := by clear hC; cases h : L 8 with | false => rfl | true => exfalso; clear HF; first | (simp_all; done) | grind
          have e1 : vals 1 = .int .i64 (x : Nat) := hC.v 1 (by decide) (by simp [hu])
          have e6 : vals 6 = .pointer (some ⟨R, 1 + f * 8, none⟩) := hC.v 6 (by decide) (by simp [hu])
          obtain rfl := hC.a hst
          have HCx := Lib.hid hC
          clear hC hcl hu hi hst
          simp only [fillA, if_true, Act.put]
          simp
          simp only [e1, e6]
          clear e1 e6
          go_wp2
          exact ⟨rfl, HCx.out.quiet (by decide) rfl⟩
        · intro L wx vals hi hu hcl hC
          simp [ClosedL, UpL, predL, predE, Region.binds] at hcl
          simp [predL, predE, Region.binds, UpL] at hu
          have hst : L 8 = false := hi
          have e5 : vals 5 = .int .i64 (cx + 1) := hC.v 5 (by decide) (by simp [hu])
          have e7 : vals 7 = .pointer (some ⟨R, 1 + f * 8 + x, none⟩) := hC.v 7 (by decide) (by simp [hu])
          obtain rfl := hC.a hst
          have HCx := Lib.hid hC
          clear hC hcl hu hi hst
          simp only [fillA, if_true, Act.put]
          simp
          simp only [e5, e7]
          clear e5 e7
          go_wp2
          exact ⟨rfl, HCx.out.write⟩
      · intro wz vals U hC hall
        have hz := hC.b (hall 8 (by simp))
        subst hz
        simp only [fillA, if_true, Act.put]
        simp
        clear hC hall q4 z4
        generalize vals 0 = t0 at *
        generalize vals 1 = t1 at *
        generalize vals 2 = t2 at *
        generalize vals 3 = t3 at *
        generalize vals 4 = t4 at *
        generalize vals 5 = t5 at *
        generalize vals 6 = t6 at *
        generalize vals 7 = t7 at *
        rw [HW3.out]
        go_wp2
        go_end0
        first | exact ⟨rfl, HF.out⟩ | exact ⟨(), rfl, HF.out⟩
end Go.Proofs.Ytkhngfadhfomoaa

