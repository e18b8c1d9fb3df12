/-
  Layer 11: contract of the reference's Push.
-/
import Derived.Test.YtijdfkdfojiffaaQuRef2
import Derived.Test.YtijdfkdfojiffaaLooseS
import Derived.Deep.AppendSrc
import Derived.Deep.QuietTactic
import Derived.BigQuiet
namespace Go.Proofs.Ytijdfkdfojiffaa
open Go.ChangeShapes Go.WideShapes Go.ChangeAt Go.RowKit
set_option linter.unusedVariables false

theorem SrAt.src {w : World} {L B b off : Nat} {l : List Pk} (h : SrAt csP 5 w L B (some ⟨b, off, none⟩) l) : ∀ j u, (srs csP l)[j]? = some u → w.cell? ((⟨b, off, none⟩ : Addr).add j) = some u := by
  intro j u hj
  have hjl : j < l.length * 5 := by
    rcases Nat.lt_or_ge j (l.length * 5) with h' | h'
    · exact h'
    · rw [List.getElem?_eq_none (by rw [srs_len csP_len]; exact h')] at hj; cases hj
  have hi : j / 5 < l.length := by omega
  obtain ⟨b', off', e, _, _, h3⟩ := h (j / 5) hi
  obtain ⟨rfl, rfl⟩ : b = b' ∧ off = off' := by simpa using e
  have hk : j % 5 < 5 := Nat.mod_lt _ (by decide)
  have e1 : j / 5 * 5 + j % 5 = j := by omega
  rw [Addr.add_lit, ← hj, ← e1, srs_at csP_len l (j / 5) (j % 5) hi hk, ← h3 _ hk]
  congr 2; omega
/-- append of all of a slice to an empty one: a row of the call's own. -/
theorem app1 {W : World} {b c base B L : Nat} {A : Option Addr} {l : List Pk} (hE : Whole W b 40 #[]) (hb : base ≤ b) (hB : base ≤ W.heap.size) (hrow : SrAt csP 5 W L B A l) (hl : l.length ≤ 64) :
    ∃ A' c' W', (Builtin.append_ #[35, 35] 35 #[.slice (some ⟨b, 0, none⟩) 0 0, .slice A l.length c]).run Try.prog W = .ok (.slice A' l.length c') W' ∧ W'.ownsRow base 40 5 (.slice A' l.length c') l.length (srs csP l) ∧ Below W.heap.size W W' := by
  obtain ⟨i0, hii, hz0, hz1, hz2⟩ := info_parts info_pk
  cases l with
  | nil =>
    have src : Src Try.prog i0.size 35 (.slice A 0 c) 0 [] W := by
      cases A with
      | none => exact Src.ofNil W Try.underlying35 c
      | some a => exact Src.ofSlice W Try.underlying35 a 0 c [] (by simp) (by simp) (by simp)
    have := run_append_room_src (P := Try.prog) W 35 35 35 _ i0 Try.underlying35 hii b 0 0 0 (.slice A 0 c) 0 [] src (by omega) (by simp) (by simp)
    refine ⟨some ⟨b, 0, none⟩, 0, W, by simpa [World.setCells] using this, ⟨by simp [srs], .inr ⟨b, 0, #[], rfl, hb, hE, Nat.le_refl _, by unfold maxLen; omega, by simp, by simp [srs]⟩⟩, Below.refl _ _⟩
  | cons p t =>
    obtain ⟨b2, off, rfl, _⟩ := hrow 0 (by simp)
    simp only [List.length_cons] at hl
    obtain ⟨v', w', hrun, r1, r2⟩ := run_append_arg_grows (P := Try.prog) W 35 35 _ i0 _ 5 40 Try.underlying35 hii hz0 hz1 hz2 rfl (by decide) ⟨b, 0, none⟩ 0 0 [] (by simp) (by simp) ⟨b2, off, none⟩ (p :: t).length c (srs csP (p :: t)) (srs_len csP_len _) hrow.src (by simp) (by unfold maxLen; simp; omega) (by simp; omega)
    rw [Nat.zero_add, List.nil_append] at r1
    obtain ⟨A', c', rfl⟩ := ow_shape r1
    exact ⟨A', c', w', hrun, oww r1 hB, ⟨r2.os, r2.tape, r2.output, r2.size, fun k hk => r2.block k hk (by simp)⟩⟩
theorem pu_1 {q : Qu} {p : Pk} (h : pkOk p = false) : puE q p = 1 ∧ puT q p = q := by
  have e : puE q p = 1 := by unfold puE; rw [if_pos h]
  exact ⟨e, by unfold puT; rw [e]; rfl⟩
theorem pu_4 {q : Qu} {p : Pk} (h : pkOk p = true) (h2 : q.mp < q.L.length + 1 ∨ q.mb < sumB q.L + p.l) : puE q p = 4 ∧ puT q p = q := by
  have e : puE q p = 4 := by unfold puE; rw [if_neg (by rw [h]; decide), if_pos h2]
  exact ⟨e, by unfold puT; rw [e]; rfl⟩
theorem pu_0 {q : Qu} {p : Pk} (h : pkOk p = true) (h2 : ¬ q.mp < q.L.length + 1) (h3 : ¬ q.mb < sumB q.L + p.l) : puE q p = 0 ∧ puT q p = { q with L := q.L ++ [p] } := by
  have e : puE q p = 0 := by unfold puE; rw [if_neg (by rw [h]; decide), if_neg (by rintro (a | a); exact h2 a; exact h3 a)]
  exact ⟨e, by unfold puT; rw [e]; rfl⟩
/-- What Push leaves. -/
theorem RQO.pushed {C R : Nat} {S : Nat → Prop} {q : Qu} {w wr : World} {p : Pk} (h : RQO C R S q w) (he : puE q p = 0) {A6 : Option Addr} {c6 : Nat} (bl : Below w.heap.size w wr) (r6 : wr.ownsRow w.heap.size 40 5 (.slice A6 (q.L.length + 1) c6) (q.L.length + 1) (srs csP q.L ++ csP p)) (x : Value) :
    RQAns C R S (puT q p) x w (.returned x) (wr.setCell ⟨R, 2, none⟩ (.slice A6 (q.L.length + 1) c6)) := by
  have hlo := h.lo
  have hq := h.1.push p
  have e : puT q p = { q with L := q.L ++ [p] } := by unfold puT; rw [if_pos he]
  rw [e] at hq ⊢
  rw [← srs_snoc] at r6
  obtain ⟨A, c, h1, h2⟩ := h.2.1
  have hblk := (bl.block R hlo.2).trans h1.blk
  have row6 : SrAt csP 5 wr w.heap.size wr.heap.size A6 (q.L ++ [p]) := SrAt.own csP_len r6 (by simp)
  have hcap : q.L.length + 1 ≤ c6 := by
    rcases r6.2 with ⟨e, e0⟩ | ⟨g, cap, cur, e, _, _, e2, e3, _⟩
    · omega
    · simp only [Value.slice.injEq] at e; obtain ⟨_, _, rfl⟩ := e; omega
  refine ⟨rfl, h.turn hq bl (A' := A6) (c' := c6) (by simp [World.setCell]) (fun k hk => Below.heap_setCell _ ⟨R, 2, none⟩ _ k hk) rfl rfl rfl (by rw [heap_setCell_same wr R 2 _ _ _ hblk]; simp) (row6.wider (by omega) (Nat.le_refl _)) (by simpa using hcap) ?_⟩
  rintro k (e | ⟨e, o, f, e'⟩)
  · exact .inl (h2 k (.inl e))
  · obtain ⟨b, off, e2, h3, _⟩ := row6 0 (by simp)
    rw [e2] at e'; obtain ⟨rfl, _⟩ : b = k ∧ _ := by simpa using e'
    exact .inr h3
set_option maxRecDepth 100000 in
theorem rqpush_bad {C R : Nat} {S : Nat → Prop} {q : Qu} {w : World} (h : RQO C R S q w) {p : Pk} (hv : pkOk p = false) :
    Calls Try.prog 29 #[.pointer (some ⟨R, 0, none⟩), aggP p] w (RQAns C R S q (.int .i64 1) w) := by
  have HST := Lib.hid (fun x w' (hb : Below w.heap.size w w') => RQAns.stay (x := x) h hb)
  have HV := rvalid_any p
  rw [hv] at HV
  obtain ⟨i, f, l, a, d⟩ := p
  unfold aggP at HV ⊢
  simp only at HV ⊢
  have HV := Lib.hid HV
  have hb1 := (Below.refl w.heap.size w).alloc (Nat.le_refl _) (.cells #[.int .i64 i, .int .i64 f, .int .i64 l, .int .i64 a, .int .i64 d] 40)
  have HB1 := Lib.hid hb1
  clear hb1 h hv
  go_enter Try.func29, Try.ntmps29
  go_wp2_with fail
  (with_reducible refine (HV.out _).mono ?_); rintro e w1 ⟨rfl, hb⟩
  have HF := Lib.hid (fun x => HST.out x w1 (HB1.out.trans (hb.mono HB1.out.size)))
  clear hb
  go_wp2
  go_ret
  exact HF.out _
set_option maxRecDepth 100000 in
set_option maxHeartbeats 4000000 in
theorem rqpush_many {C R : Nat} {S : Nat → Prop} {q : Qu} {w : World} (h : RQO C R S q w) {p : Pk} (hv : pkOk p = true) (hm : q.mp < q.L.length + 1) :
    Calls Try.prog 29 #[.pointer (some ⟨R, 0, none⟩), aggP p] w (RQAns C R S q (.int .i64 4) w) := by
  have HST := Lib.hid (fun x w' (hb : Below w.heap.size w w') => RQAns.stay (x := x) h hb)
  have HV := rvalid_any p
  rw [hv] at HV
  obtain ⟨i, f, l, a, d⟩ := p
  unfold aggP at HV ⊢
  simp only at HV ⊢
  have HV := Lib.hid HV
  have hb1 := (Below.refl w.heap.size w).alloc (Nat.le_refl _) (.cells #[.int .i64 i, .int .i64 f, .int .i64 l, .int .i64 a, .int .i64 d] 40)
  have HB1 := Lib.hid hb1
  obtain ⟨h0, ⟨A, c, h1, h2⟩, h3⟩ := h
  have HK := Lib.hid (fun w' (hb : Below w.heap.size w w') => (h1.below hb).cells)
  have hf := h0.few
  have hd : decide (q.mp < (q.L.length : Int) + 1) = true := decide_eq_true hm
  have hwr : IntKind.i64.wrap ((q.L.length : Int) + 1) = (q.L.length : Int) + 1 := IntWalk.i64_in _ (by omega)
  have HWH := Lib.hid (Whole.fresh w 40 #[.int .i64 i, .int .i64 f, .int .i64 l, .int .i64 a, .int .i64 d])
  clear hb1 hv h0 h1 h2 h3 hm
  generalize q.mp = mp at *
  generalize q.mb = mb at *
  go_enter Try.func29, Try.ntmps29
  go_wp2_with fail
  (with_reducible refine (HV.out _).mono ?_); rintro e w1 ⟨rfl, hb⟩
  have hb2 := HB1.out.trans (hb.mono HB1.out.size)
  obtain ⟨c0, c1, c2, cf⟩ := HK.out w1 hb2
  have HF := Lib.hid (fun x n => HST.out x (w1.drewN n) (Below_drewN hb2 n))
  clear hb hb2 cf HK
  go_wp2_with fail
  go_quiet (fail)
  go_wp2
  go_ret
  exact HF.out _ _
set_option maxRecDepth 100000 in
set_option maxHeartbeats 4000000 in
theorem rqpush_big {C R : Nat} {S : Nat → Prop} {q : Qu} {w : World} (h : RQO C R S q w) {p : Pk} (hv : pkOk p = true) (hm : ¬ q.mp < q.L.length + 1) (hm2 : q.mb < sumB q.L + p.l) :
    Calls Try.prog 29 #[.pointer (some ⟨R, 0, none⟩), aggP p] w (RQAns C R S q (.int .i64 4) w) := by
  have HST := Lib.hid (fun x w' (hb : Below w.heap.size w w') => RQAns.stay (x := x) h hb)
  have HBY := Lib.hid (fun w' (hb : Below w.heap.size w w') => rqbytes_any (h.below hb))
  have HV := rvalid_any p
  have hsum := h.1.sums
  have hpl := pk_len hv
  rw [hv] at HV
  obtain ⟨i, f, l, a, d⟩ := p
  unfold aggP at HV ⊢
  simp only at HV ⊢
  have HV := Lib.hid HV
  have hb1 := (Below.refl w.heap.size w).alloc (Nat.le_refl _) (.cells #[.int .i64 i, .int .i64 f, .int .i64 l, .int .i64 a, .int .i64 d] 40)
  have HB1 := Lib.hid hb1
  obtain ⟨h0, ⟨A, c, h1, h2⟩, h3⟩ := h
  have HK := Lib.hid (fun w' (hb : Below w.heap.size w w') => (h1.below hb).cells)
  have hf := h0.few
  have hd : decide (q.mp < (q.L.length : Int) + 1) = false := decide_eq_false hm
  have hd2 : decide (q.mb < sumB q.L + l) = true := decide_eq_true hm2
  have hwr2 : IntKind.i64.wrap (sumB q.L + l) = sumB q.L + l := IntWalk.i64_in _ (by simp only at hpl; omega)
  have hwr : IntKind.i64.wrap ((q.L.length : Int) + 1) = (q.L.length : Int) + 1 := IntWalk.i64_in _ (by omega)
  have HWH := Lib.hid (Whole.fresh w 40 #[.int .i64 i, .int .i64 f, .int .i64 l, .int .i64 a, .int .i64 d])
  clear hb1 hv h0 h1 h2 h3 hm hm2 hsum hpl
  generalize q.mp = mp at *
  generalize q.mb = mb at *
  generalize sumB q.L = sm at *
  go_enter Try.func29, Try.ntmps29
  go_wp2_with fail
  (with_reducible refine (HV.out _).mono ?_); rintro e w1 ⟨rfl, hb⟩
  have hb2 := HB1.out.trans (hb.mono HB1.out.size)
  obtain ⟨c0, c1, c2, cf⟩ := HK.out w1 hb2
  have HF := Lib.hid (fun x n => HST.out x (w1.drewN n) (Below_drewN hb2 n))
  have HBX := Lib.hid (fun n => HBY.out (w1.drewN n) (Below_drewN hb2 n))
  have k2 := (HWH.out.later hb).read 2
  simp at k2
  clear hb hb2 cf HK
  go_wp2_with fail
  go_quiet ((go_at_call 14; exact Calls.quiet_of_same ((HBX.out _).mono fun _ _ h => ⟨h.1, h.2.symm⟩)))
  go_wp2
  go_ret
  exact HF.out _ _
/-- The state of Push's second region, by what has come up: w0 is where it begins. -/
structure PuC (w0 : World) (R : Nat) (A : Option Addr) (c : Nat) (Ls : List Pk) (p : Pk) (L : Nat → Bool) (vals : Nat → Value) (w : World) : Prop where
  old : L 12 = false → Below w0.heap.size w0 w
  v0 : L 0 = true → vals 0 = .pointer (some ⟨R, 0, none⟩)
  v1 : L 1 = true → L 6 = false → ∃ b, vals 1 = .slice (some ⟨b, 0, none⟩) 0 0 ∧ w0.heap.size ≤ b ∧ Whole w b 40 #[]
  v2 : L 2 = true → vals 2 = .pointer (some ⟨R, 0, none⟩)
  v3 : L 3 = true → vals 3 = .pointer (some ⟨R, 0, none⟩)
  v4 : L 4 = true → vals 4 = .pointer (some ⟨R, 2, none⟩)
  v5 : L 5 = true → vals 5 = .slice A Ls.length c
  v6 : L 6 = true → L 9 = false → ∃ A' c', vals 6 = .slice A' Ls.length c' ∧ w.ownsRow w0.heap.size 40 5 (.slice A' Ls.length c') Ls.length (srs csP Ls)
  v7 : L 7 = true → vals 7 = .agg #[.int .i64 p.i, .int .i64 p.f, .int .i64 p.l, .int .i64 p.a, .int .i64 p.d]
  v8 : L 8 = true → L 9 = false → ∃ g, vals 8 = .slice (some ⟨g, 0, none⟩) 1 1 ∧ w0.heap.size ≤ g ∧ Whole w g 40 (csP p).toArray
  v9 : L 9 = true → L 12 = false → ∃ A' c', vals 9 = .slice A' (Ls.length + 1) c' ∧ w.ownsRow w0.heap.size 40 5 (.slice A' (Ls.length + 1) c') (Ls.length + 1) (srs csP Ls ++ csP p)
  v10 : L 10 = true → vals 10 = .pointer (some ⟨R, 0, none⟩)
  v11 : L 11 = true → vals 11 = .pointer (some ⟨R, 2, none⟩)
  fin : L 12 = true → ∃ W A' c', Below w0.heap.size w0 W ∧ W.ownsRow w0.heap.size 40 5 (.slice A' (Ls.length + 1) c') (Ls.length + 1) (srs csP Ls ++ csP p) ∧ w = W.setCell ⟨R, 2, none⟩ (.slice A' (Ls.length + 1) c')
section
variable {w0 w w' : World} {R : Nat} {A : Option Addr} {c : Nat} {Ls : List Pk} {p : Pk} {L : Nat → Bool} {vals : Nat → Value}
theorem PuC.op0 (h : PuC w0 R A c Ls p L vals w) : PuC w0 R A c Ls p (setL L 0) (setV vals 0 (.pointer (some ⟨R, 0, none⟩))) w :=
  ⟨(by rw [setL_ne (show (12 : Nat) ≠ 0 by decide)]; exact h.old), (fun _ => by rw [setV_at]), (by rw [setL_ne (show (1 : Nat) ≠ 0 by decide), setL_ne (show (6 : Nat) ≠ 0 by decide), setV_ne (show (1 : Nat) ≠ 0 by decide)]; exact h.v1), (by rw [setL_ne (show (2 : Nat) ≠ 0 by decide), setV_ne (show (2 : Nat) ≠ 0 by decide)]; exact h.v2), (by rw [setL_ne (show (3 : Nat) ≠ 0 by decide), setV_ne (show (3 : Nat) ≠ 0 by decide)]; exact h.v3), (by rw [setL_ne (show (4 : Nat) ≠ 0 by decide), setV_ne (show (4 : Nat) ≠ 0 by decide)]; exact h.v4), (by rw [setL_ne (show (5 : Nat) ≠ 0 by decide), setV_ne (show (5 : Nat) ≠ 0 by decide)]; exact h.v5), (by rw [setL_ne (show (6 : Nat) ≠ 0 by decide), setL_ne (show (9 : Nat) ≠ 0 by decide), setV_ne (show (6 : Nat) ≠ 0 by decide)]; exact h.v6), (by rw [setL_ne (show (7 : Nat) ≠ 0 by decide), setV_ne (show (7 : Nat) ≠ 0 by decide)]; exact h.v7), (by rw [setL_ne (show (8 : Nat) ≠ 0 by decide), setL_ne (show (9 : Nat) ≠ 0 by decide), setV_ne (show (8 : Nat) ≠ 0 by decide)]; exact h.v8), (by rw [setL_ne (show (9 : Nat) ≠ 0 by decide), setL_ne (show (12 : Nat) ≠ 0 by decide), setV_ne (show (9 : Nat) ≠ 0 by decide)]; exact h.v9), (by rw [setL_ne (show (10 : Nat) ≠ 0 by decide), setV_ne (show (10 : Nat) ≠ 0 by decide)]; exact h.v10), (by rw [setL_ne (show (11 : Nat) ≠ 0 by decide), setV_ne (show (11 : Nat) ≠ 0 by decide)]; exact h.v11), (by rw [setL_ne (show (12 : Nat) ≠ 0 by decide)]; exact h.fin)⟩
theorem PuC.op2 (h : PuC w0 R A c Ls p L vals w) : PuC w0 R A c Ls p (setL L 2) (setV vals 2 (.pointer (some ⟨R, 0, none⟩))) w :=
  ⟨(by rw [setL_ne (show (12 : Nat) ≠ 2 by decide)]; exact h.old), (by rw [setL_ne (show (0 : Nat) ≠ 2 by decide), setV_ne (show (0 : Nat) ≠ 2 by decide)]; exact h.v0), (by rw [setL_ne (show (1 : Nat) ≠ 2 by decide), setL_ne (show (6 : Nat) ≠ 2 by decide), setV_ne (show (1 : Nat) ≠ 2 by decide)]; exact h.v1), (fun _ => by rw [setV_at]), (by rw [setL_ne (show (3 : Nat) ≠ 2 by decide), setV_ne (show (3 : Nat) ≠ 2 by decide)]; exact h.v3), (by rw [setL_ne (show (4 : Nat) ≠ 2 by decide), setV_ne (show (4 : Nat) ≠ 2 by decide)]; exact h.v4), (by rw [setL_ne (show (5 : Nat) ≠ 2 by decide), setV_ne (show (5 : Nat) ≠ 2 by decide)]; exact h.v5), (by rw [setL_ne (show (6 : Nat) ≠ 2 by decide), setL_ne (show (9 : Nat) ≠ 2 by decide), setV_ne (show (6 : Nat) ≠ 2 by decide)]; exact h.v6), (by rw [setL_ne (show (7 : Nat) ≠ 2 by decide), setV_ne (show (7 : Nat) ≠ 2 by decide)]; exact h.v7), (by rw [setL_ne (show (8 : Nat) ≠ 2 by decide), setL_ne (show (9 : Nat) ≠ 2 by decide), setV_ne (show (8 : Nat) ≠ 2 by decide)]; exact h.v8), (by rw [setL_ne (show (9 : Nat) ≠ 2 by decide), setL_ne (show (12 : Nat) ≠ 2 by decide), setV_ne (show (9 : Nat) ≠ 2 by decide)]; exact h.v9), (by rw [setL_ne (show (10 : Nat) ≠ 2 by decide), setV_ne (show (10 : Nat) ≠ 2 by decide)]; exact h.v10), (by rw [setL_ne (show (11 : Nat) ≠ 2 by decide), setV_ne (show (11 : Nat) ≠ 2 by decide)]; exact h.v11), (by rw [setL_ne (show (12 : Nat) ≠ 2 by decide)]; exact h.fin)⟩
theorem PuC.op3 (h : PuC w0 R A c Ls p L vals w) : PuC w0 R A c Ls p (setL L 3) (setV vals 3 (.pointer (some ⟨R, 0, none⟩))) w :=
  ⟨(by rw [setL_ne (show (12 : Nat) ≠ 3 by decide)]; exact h.old), (by rw [setL_ne (show (0 : Nat) ≠ 3 by decide), setV_ne (show (0 : Nat) ≠ 3 by decide)]; exact h.v0), (by rw [setL_ne (show (1 : Nat) ≠ 3 by decide), setL_ne (show (6 : Nat) ≠ 3 by decide), setV_ne (show (1 : Nat) ≠ 3 by decide)]; exact h.v1), (by rw [setL_ne (show (2 : Nat) ≠ 3 by decide), setV_ne (show (2 : Nat) ≠ 3 by decide)]; exact h.v2), (fun _ => by rw [setV_at]), (by rw [setL_ne (show (4 : Nat) ≠ 3 by decide), setV_ne (show (4 : Nat) ≠ 3 by decide)]; exact h.v4), (by rw [setL_ne (show (5 : Nat) ≠ 3 by decide), setV_ne (show (5 : Nat) ≠ 3 by decide)]; exact h.v5), (by rw [setL_ne (show (6 : Nat) ≠ 3 by decide), setL_ne (show (9 : Nat) ≠ 3 by decide), setV_ne (show (6 : Nat) ≠ 3 by decide)]; exact h.v6), (by rw [setL_ne (show (7 : Nat) ≠ 3 by decide), setV_ne (show (7 : Nat) ≠ 3 by decide)]; exact h.v7), (by rw [setL_ne (show (8 : Nat) ≠ 3 by decide), setL_ne (show (9 : Nat) ≠ 3 by decide), setV_ne (show (8 : Nat) ≠ 3 by decide)]; exact h.v8), (by rw [setL_ne (show (9 : Nat) ≠ 3 by decide), setL_ne (show (12 : Nat) ≠ 3 by decide), setV_ne (show (9 : Nat) ≠ 3 by decide)]; exact h.v9), (by rw [setL_ne (show (10 : Nat) ≠ 3 by decide), setV_ne (show (10 : Nat) ≠ 3 by decide)]; exact h.v10), (by rw [setL_ne (show (11 : Nat) ≠ 3 by decide), setV_ne (show (11 : Nat) ≠ 3 by decide)]; exact h.v11), (by rw [setL_ne (show (12 : Nat) ≠ 3 by decide)]; exact h.fin)⟩
theorem PuC.op4 (h : PuC w0 R A c Ls p L vals w) : PuC w0 R A c Ls p (setL L 4) (setV vals 4 (.pointer (some ⟨R, 2, none⟩))) w :=
  ⟨(by rw [setL_ne (show (12 : Nat) ≠ 4 by decide)]; exact h.old), (by rw [setL_ne (show (0 : Nat) ≠ 4 by decide), setV_ne (show (0 : Nat) ≠ 4 by decide)]; exact h.v0), (by rw [setL_ne (show (1 : Nat) ≠ 4 by decide), setL_ne (show (6 : Nat) ≠ 4 by decide), setV_ne (show (1 : Nat) ≠ 4 by decide)]; exact h.v1), (by rw [setL_ne (show (2 : Nat) ≠ 4 by decide), setV_ne (show (2 : Nat) ≠ 4 by decide)]; exact h.v2), (by rw [setL_ne (show (3 : Nat) ≠ 4 by decide), setV_ne (show (3 : Nat) ≠ 4 by decide)]; exact h.v3), (fun _ => by rw [setV_at]), (by rw [setL_ne (show (5 : Nat) ≠ 4 by decide), setV_ne (show (5 : Nat) ≠ 4 by decide)]; exact h.v5), (by rw [setL_ne (show (6 : Nat) ≠ 4 by decide), setL_ne (show (9 : Nat) ≠ 4 by decide), setV_ne (show (6 : Nat) ≠ 4 by decide)]; exact h.v6), (by rw [setL_ne (show (7 : Nat) ≠ 4 by decide), setV_ne (show (7 : Nat) ≠ 4 by decide)]; exact h.v7), (by rw [setL_ne (show (8 : Nat) ≠ 4 by decide), setL_ne (show (9 : Nat) ≠ 4 by decide), setV_ne (show (8 : Nat) ≠ 4 by decide)]; exact h.v8), (by rw [setL_ne (show (9 : Nat) ≠ 4 by decide), setL_ne (show (12 : Nat) ≠ 4 by decide), setV_ne (show (9 : Nat) ≠ 4 by decide)]; exact h.v9), (by rw [setL_ne (show (10 : Nat) ≠ 4 by decide), setV_ne (show (10 : Nat) ≠ 4 by decide)]; exact h.v10), (by rw [setL_ne (show (11 : Nat) ≠ 4 by decide), setV_ne (show (11 : Nat) ≠ 4 by decide)]; exact h.v11), (by rw [setL_ne (show (12 : Nat) ≠ 4 by decide)]; exact h.fin)⟩
theorem PuC.op5 (h : PuC w0 R A c Ls p L vals w) : PuC w0 R A c Ls p (setL L 5) (setV vals 5 (.slice A Ls.length c)) w :=
  ⟨(by rw [setL_ne (show (12 : Nat) ≠ 5 by decide)]; exact h.old), (by rw [setL_ne (show (0 : Nat) ≠ 5 by decide), setV_ne (show (0 : Nat) ≠ 5 by decide)]; exact h.v0), (by rw [setL_ne (show (1 : Nat) ≠ 5 by decide), setL_ne (show (6 : Nat) ≠ 5 by decide), setV_ne (show (1 : Nat) ≠ 5 by decide)]; exact h.v1), (by rw [setL_ne (show (2 : Nat) ≠ 5 by decide), setV_ne (show (2 : Nat) ≠ 5 by decide)]; exact h.v2), (by rw [setL_ne (show (3 : Nat) ≠ 5 by decide), setV_ne (show (3 : Nat) ≠ 5 by decide)]; exact h.v3), (by rw [setL_ne (show (4 : Nat) ≠ 5 by decide), setV_ne (show (4 : Nat) ≠ 5 by decide)]; exact h.v4), (fun _ => by rw [setV_at]), (by rw [setL_ne (show (6 : Nat) ≠ 5 by decide), setL_ne (show (9 : Nat) ≠ 5 by decide), setV_ne (show (6 : Nat) ≠ 5 by decide)]; exact h.v6), (by rw [setL_ne (show (7 : Nat) ≠ 5 by decide), setV_ne (show (7 : Nat) ≠ 5 by decide)]; exact h.v7), (by rw [setL_ne (show (8 : Nat) ≠ 5 by decide), setL_ne (show (9 : Nat) ≠ 5 by decide), setV_ne (show (8 : Nat) ≠ 5 by decide)]; exact h.v8), (by rw [setL_ne (show (9 : Nat) ≠ 5 by decide), setL_ne (show (12 : Nat) ≠ 5 by decide), setV_ne (show (9 : Nat) ≠ 5 by decide)]; exact h.v9), (by rw [setL_ne (show (10 : Nat) ≠ 5 by decide), setV_ne (show (10 : Nat) ≠ 5 by decide)]; exact h.v10), (by rw [setL_ne (show (11 : Nat) ≠ 5 by decide), setV_ne (show (11 : Nat) ≠ 5 by decide)]; exact h.v11), (by rw [setL_ne (show (12 : Nat) ≠ 5 by decide)]; exact h.fin)⟩
theorem PuC.op7 (h : PuC w0 R A c Ls p L vals w) : PuC w0 R A c Ls p (setL L 7) (setV vals 7 (.agg #[.int .i64 p.i, .int .i64 p.f, .int .i64 p.l, .int .i64 p.a, .int .i64 p.d])) w :=
  ⟨(by rw [setL_ne (show (12 : Nat) ≠ 7 by decide)]; exact h.old), (by rw [setL_ne (show (0 : Nat) ≠ 7 by decide), setV_ne (show (0 : Nat) ≠ 7 by decide)]; exact h.v0), (by rw [setL_ne (show (1 : Nat) ≠ 7 by decide), setL_ne (show (6 : Nat) ≠ 7 by decide), setV_ne (show (1 : Nat) ≠ 7 by decide)]; exact h.v1), (by rw [setL_ne (show (2 : Nat) ≠ 7 by decide), setV_ne (show (2 : Nat) ≠ 7 by decide)]; exact h.v2), (by rw [setL_ne (show (3 : Nat) ≠ 7 by decide), setV_ne (show (3 : Nat) ≠ 7 by decide)]; exact h.v3), (by rw [setL_ne (show (4 : Nat) ≠ 7 by decide), setV_ne (show (4 : Nat) ≠ 7 by decide)]; exact h.v4), (by rw [setL_ne (show (5 : Nat) ≠ 7 by decide), setV_ne (show (5 : Nat) ≠ 7 by decide)]; exact h.v5), (by rw [setL_ne (show (6 : Nat) ≠ 7 by decide), setL_ne (show (9 : Nat) ≠ 7 by decide), setV_ne (show (6 : Nat) ≠ 7 by decide)]; exact h.v6), (fun _ => by rw [setV_at]), (by rw [setL_ne (show (8 : Nat) ≠ 7 by decide), setL_ne (show (9 : Nat) ≠ 7 by decide), setV_ne (show (8 : Nat) ≠ 7 by decide)]; exact h.v8), (by rw [setL_ne (show (9 : Nat) ≠ 7 by decide), setL_ne (show (12 : Nat) ≠ 7 by decide), setV_ne (show (9 : Nat) ≠ 7 by decide)]; exact h.v9), (by rw [setL_ne (show (10 : Nat) ≠ 7 by decide), setV_ne (show (10 : Nat) ≠ 7 by decide)]; exact h.v10), (by rw [setL_ne (show (11 : Nat) ≠ 7 by decide), setV_ne (show (11 : Nat) ≠ 7 by decide)]; exact h.v11), (by rw [setL_ne (show (12 : Nat) ≠ 7 by decide)]; exact h.fin)⟩
theorem PuC.op10 (h : PuC w0 R A c Ls p L vals w) : PuC w0 R A c Ls p (setL L 10) (setV vals 10 (.pointer (some ⟨R, 0, none⟩))) w :=
  ⟨(by rw [setL_ne (show (12 : Nat) ≠ 10 by decide)]; exact h.old), (by rw [setL_ne (show (0 : Nat) ≠ 10 by decide), setV_ne (show (0 : Nat) ≠ 10 by decide)]; exact h.v0), (by rw [setL_ne (show (1 : Nat) ≠ 10 by decide), setL_ne (show (6 : Nat) ≠ 10 by decide), setV_ne (show (1 : Nat) ≠ 10 by decide)]; exact h.v1), (by rw [setL_ne (show (2 : Nat) ≠ 10 by decide), setV_ne (show (2 : Nat) ≠ 10 by decide)]; exact h.v2), (by rw [setL_ne (show (3 : Nat) ≠ 10 by decide), setV_ne (show (3 : Nat) ≠ 10 by decide)]; exact h.v3), (by rw [setL_ne (show (4 : Nat) ≠ 10 by decide), setV_ne (show (4 : Nat) ≠ 10 by decide)]; exact h.v4), (by rw [setL_ne (show (5 : Nat) ≠ 10 by decide), setV_ne (show (5 : Nat) ≠ 10 by decide)]; exact h.v5), (by rw [setL_ne (show (6 : Nat) ≠ 10 by decide), setL_ne (show (9 : Nat) ≠ 10 by decide), setV_ne (show (6 : Nat) ≠ 10 by decide)]; exact h.v6), (by rw [setL_ne (show (7 : Nat) ≠ 10 by decide), setV_ne (show (7 : Nat) ≠ 10 by decide)]; exact h.v7), (by rw [setL_ne (show (8 : Nat) ≠ 10 by decide), setL_ne (show (9 : Nat) ≠ 10 by decide), setV_ne (show (8 : Nat) ≠ 10 by decide)]; exact h.v8), (by rw [setL_ne (show (9 : Nat) ≠ 10 by decide), setL_ne (show (12 : Nat) ≠ 10 by decide), setV_ne (show (9 : Nat) ≠ 10 by decide)]; exact h.v9), (fun _ => by rw [setV_at]), (by rw [setL_ne (show (11 : Nat) ≠ 10 by decide), setV_ne (show (11 : Nat) ≠ 10 by decide)]; exact h.v11), (by rw [setL_ne (show (12 : Nat) ≠ 10 by decide)]; exact h.fin)⟩
theorem PuC.op11 (h : PuC w0 R A c Ls p L vals w) : PuC w0 R A c Ls p (setL L 11) (setV vals 11 (.pointer (some ⟨R, 2, none⟩))) w :=
  ⟨(by rw [setL_ne (show (12 : Nat) ≠ 11 by decide)]; exact h.old), (by rw [setL_ne (show (0 : Nat) ≠ 11 by decide), setV_ne (show (0 : Nat) ≠ 11 by decide)]; exact h.v0), (by rw [setL_ne (show (1 : Nat) ≠ 11 by decide), setL_ne (show (6 : Nat) ≠ 11 by decide), setV_ne (show (1 : Nat) ≠ 11 by decide)]; exact h.v1), (by rw [setL_ne (show (2 : Nat) ≠ 11 by decide), setV_ne (show (2 : Nat) ≠ 11 by decide)]; exact h.v2), (by rw [setL_ne (show (3 : Nat) ≠ 11 by decide), setV_ne (show (3 : Nat) ≠ 11 by decide)]; exact h.v3), (by rw [setL_ne (show (4 : Nat) ≠ 11 by decide), setV_ne (show (4 : Nat) ≠ 11 by decide)]; exact h.v4), (by rw [setL_ne (show (5 : Nat) ≠ 11 by decide), setV_ne (show (5 : Nat) ≠ 11 by decide)]; exact h.v5), (by rw [setL_ne (show (6 : Nat) ≠ 11 by decide), setL_ne (show (9 : Nat) ≠ 11 by decide), setV_ne (show (6 : Nat) ≠ 11 by decide)]; exact h.v6), (by rw [setL_ne (show (7 : Nat) ≠ 11 by decide), setV_ne (show (7 : Nat) ≠ 11 by decide)]; exact h.v7), (by rw [setL_ne (show (8 : Nat) ≠ 11 by decide), setL_ne (show (9 : Nat) ≠ 11 by decide), setV_ne (show (8 : Nat) ≠ 11 by decide)]; exact h.v8), (by rw [setL_ne (show (9 : Nat) ≠ 11 by decide), setL_ne (show (12 : Nat) ≠ 11 by decide), setV_ne (show (9 : Nat) ≠ 11 by decide)]; exact h.v9), (by rw [setL_ne (show (10 : Nat) ≠ 11 by decide), setV_ne (show (10 : Nat) ≠ 11 by decide)]; exact h.v10), (fun _ => by rw [setV_at]), (by rw [setL_ne (show (12 : Nat) ≠ 11 by decide)]; exact h.fin)⟩
theorem PuC.op1 (h : PuC w0 R A c Ls p L vals w) (g6 : L 6 = false) (g9 : L 9 = false) (g12 : L 12 = false) : PuC w0 R A c Ls p (setL L 1) (setV vals 1 (.slice (some ⟨w.heap.size, 0, none⟩) 0 0)) (w.alloc (.cells #[] 40)) :=
  ⟨(by rw [setL_ne (show (12 : Nat) ≠ 1 by decide)]; exact fun h12 => (h.old h12).alloc (h.old h12).size _), (by rw [setL_ne (show (0 : Nat) ≠ 1 by decide), setV_ne (show (0 : Nat) ≠ 1 by decide)]; exact h.v0), (fun _ _ => ⟨w.heap.size, by rw [setV_at], (h.old g12).size, Whole.fresh w _ _⟩), (by rw [setL_ne (show (2 : Nat) ≠ 1 by decide), setV_ne (show (2 : Nat) ≠ 1 by decide)]; exact h.v2), (by rw [setL_ne (show (3 : Nat) ≠ 1 by decide), setV_ne (show (3 : Nat) ≠ 1 by decide)]; exact h.v3), (by rw [setL_ne (show (4 : Nat) ≠ 1 by decide), setV_ne (show (4 : Nat) ≠ 1 by decide)]; exact h.v4), (by rw [setL_ne (show (5 : Nat) ≠ 1 by decide), setV_ne (show (5 : Nat) ≠ 1 by decide)]; exact h.v5), (fun h6 h9 => by rw [setL_ne (show (6 : Nat) ≠ 1 by decide), g6] at h6; cases h6), (by rw [setL_ne (show (7 : Nat) ≠ 1 by decide), setV_ne (show (7 : Nat) ≠ 1 by decide)]; exact h.v7), (by rw [setL_ne (show (8 : Nat) ≠ 1 by decide), setL_ne (show (9 : Nat) ≠ 1 by decide), setV_ne (show (8 : Nat) ≠ 1 by decide)]; exact fun h8 h9 => (h.v8 h8 h9).imp fun g hg => ⟨hg.1, hg.2.1, hg.2.2.alloc _⟩), (fun h9 h12 => by rw [setL_ne (show (9 : Nat) ≠ 1 by decide), g9] at h9; cases h9), (by rw [setL_ne (show (10 : Nat) ≠ 1 by decide), setV_ne (show (10 : Nat) ≠ 1 by decide)]; exact h.v10), (by rw [setL_ne (show (11 : Nat) ≠ 1 by decide), setV_ne (show (11 : Nat) ≠ 1 by decide)]; exact h.v11), (fun h12 => by rw [setL_ne (show (12 : Nat) ≠ 1 by decide), g12] at h12; cases h12)⟩
theorem PuC.op8 (h : PuC w0 R A c Ls p L vals w) (g9 : L 9 = false) (g12 : L 12 = false) : PuC w0 R A c Ls p (setL L 8) (setV vals 8 (.slice (some ⟨w.heap.size, 0, none⟩) 1 1)) (w.alloc (.cells #[.int .i64 p.i, .int .i64 p.f, .int .i64 p.l, .int .i64 p.a, .int .i64 p.d] 40)) :=
  ⟨(by rw [setL_ne (show (12 : Nat) ≠ 8 by decide)]; exact fun h12 => (h.old h12).alloc (h.old h12).size _), (by rw [setL_ne (show (0 : Nat) ≠ 8 by decide), setV_ne (show (0 : Nat) ≠ 8 by decide)]; exact h.v0), (by rw [setL_ne (show (1 : Nat) ≠ 8 by decide), setL_ne (show (6 : Nat) ≠ 8 by decide), setV_ne (show (1 : Nat) ≠ 8 by decide)]; exact fun h1 h6 => (h.v1 h1 h6).imp fun g hg => ⟨hg.1, hg.2.1, hg.2.2.alloc _⟩), (by rw [setL_ne (show (2 : Nat) ≠ 8 by decide), setV_ne (show (2 : Nat) ≠ 8 by decide)]; exact h.v2), (by rw [setL_ne (show (3 : Nat) ≠ 8 by decide), setV_ne (show (3 : Nat) ≠ 8 by decide)]; exact h.v3), (by rw [setL_ne (show (4 : Nat) ≠ 8 by decide), setV_ne (show (4 : Nat) ≠ 8 by decide)]; exact h.v4), (by rw [setL_ne (show (5 : Nat) ≠ 8 by decide), setV_ne (show (5 : Nat) ≠ 8 by decide)]; exact h.v5), (by rw [setL_ne (show (6 : Nat) ≠ 8 by decide), setL_ne (show (9 : Nat) ≠ 8 by decide), setV_ne (show (6 : Nat) ≠ 8 by decide)]; exact fun h6 h9 => (h.v6 h6 h9).imp fun A' => Exists.imp fun c' hg => ⟨hg.1, hg.2.alloc _⟩), (by rw [setL_ne (show (7 : Nat) ≠ 8 by decide), setV_ne (show (7 : Nat) ≠ 8 by decide)]; exact h.v7), (fun _ _ => ⟨w.heap.size, by rw [setV_at], (h.old g12).size, Whole.fresh w _ _⟩), (fun h9 h12 => by rw [setL_ne (show (9 : Nat) ≠ 8 by decide), g9] at h9; cases h9), (by rw [setL_ne (show (10 : Nat) ≠ 8 by decide), setV_ne (show (10 : Nat) ≠ 8 by decide)]; exact h.v10), (by rw [setL_ne (show (11 : Nat) ≠ 8 by decide), setV_ne (show (11 : Nat) ≠ 8 by decide)]; exact h.v11), (fun h12 => by rw [setL_ne (show (12 : Nat) ≠ 8 by decide), g12] at h12; cases h12)⟩
theorem PuC.op6 (h : PuC w0 R A c Ls p L vals w) (g9 : L 9 = false) (g12 : L 12 = false) {A' : Option Addr} {c' : Nat} (ho : w'.ownsRow w0.heap.size 40 5 (.slice A' Ls.length c') Ls.length (srs csP Ls)) (hb : Below w.heap.size w w') : PuC w0 R A c Ls p (setL L 6) (setV vals 6 (.slice A' Ls.length c')) w' :=
  ⟨(by rw [setL_ne (show (12 : Nat) ≠ 6 by decide)]; exact fun h12 => (h.old h12).trans (hb.mono (h.old h12).size)), (by rw [setL_ne (show (0 : Nat) ≠ 6 by decide), setV_ne (show (0 : Nat) ≠ 6 by decide)]; exact h.v0), (fun h1 h6 => by rw [setL_at] at h6; cases h6), (by rw [setL_ne (show (2 : Nat) ≠ 6 by decide), setV_ne (show (2 : Nat) ≠ 6 by decide)]; exact h.v2), (by rw [setL_ne (show (3 : Nat) ≠ 6 by decide), setV_ne (show (3 : Nat) ≠ 6 by decide)]; exact h.v3), (by rw [setL_ne (show (4 : Nat) ≠ 6 by decide), setV_ne (show (4 : Nat) ≠ 6 by decide)]; exact h.v4), (by rw [setL_ne (show (5 : Nat) ≠ 6 by decide), setV_ne (show (5 : Nat) ≠ 6 by decide)]; exact h.v5), (fun _ _ => ⟨A', c', by rw [setV_at], ho⟩), (by rw [setL_ne (show (7 : Nat) ≠ 6 by decide), setV_ne (show (7 : Nat) ≠ 6 by decide)]; exact h.v7), (by rw [setL_ne (show (8 : Nat) ≠ 6 by decide), setL_ne (show (9 : Nat) ≠ 6 by decide), setV_ne (show (8 : Nat) ≠ 6 by decide)]; exact fun h8 h9 => (h.v8 h8 h9).imp fun g hg => ⟨hg.1, hg.2.1, hg.2.2.later hb⟩), (fun h9 h12 => by rw [setL_ne (show (9 : Nat) ≠ 6 by decide), g9] at h9; cases h9), (by rw [setL_ne (show (10 : Nat) ≠ 6 by decide), setV_ne (show (10 : Nat) ≠ 6 by decide)]; exact h.v10), (by rw [setL_ne (show (11 : Nat) ≠ 6 by decide), setV_ne (show (11 : Nat) ≠ 6 by decide)]; exact h.v11), (fun h12 => by rw [setL_ne (show (12 : Nat) ≠ 6 by decide), g12] at h12; cases h12)⟩
theorem PuC.op9 (h : PuC w0 R A c Ls p L vals w) (g6 : L 6 = true) (g12 : L 12 = false) {A' : Option Addr} {c' : Nat} (ho : w'.ownsRow w0.heap.size 40 5 (.slice A' (Ls.length + 1) c') (Ls.length + 1) (srs csP Ls ++ csP p)) (hb : Below w0.heap.size w0 w') : PuC w0 R A c Ls p (setL L 9) (setV vals 9 (.slice A' (Ls.length + 1) c')) w' :=
  ⟨(by rw [setL_ne (show (12 : Nat) ≠ 9 by decide)]; exact fun h12 => hb), (by rw [setL_ne (show (0 : Nat) ≠ 9 by decide), setV_ne (show (0 : Nat) ≠ 9 by decide)]; exact h.v0), (fun h1 h6 => by rw [setL_ne (show (6 : Nat) ≠ 9 by decide), g6] at h6; cases h6), (by rw [setL_ne (show (2 : Nat) ≠ 9 by decide), setV_ne (show (2 : Nat) ≠ 9 by decide)]; exact h.v2), (by rw [setL_ne (show (3 : Nat) ≠ 9 by decide), setV_ne (show (3 : Nat) ≠ 9 by decide)]; exact h.v3), (by rw [setL_ne (show (4 : Nat) ≠ 9 by decide), setV_ne (show (4 : Nat) ≠ 9 by decide)]; exact h.v4), (by rw [setL_ne (show (5 : Nat) ≠ 9 by decide), setV_ne (show (5 : Nat) ≠ 9 by decide)]; exact h.v5), (fun h6 h9 => by rw [setL_at] at h9; cases h9), (by rw [setL_ne (show (7 : Nat) ≠ 9 by decide), setV_ne (show (7 : Nat) ≠ 9 by decide)]; exact h.v7), (fun h8 h9 => by rw [setL_at] at h9; cases h9), (fun _ _ => ⟨A', c', by rw [setV_at], ho⟩), (by rw [setL_ne (show (10 : Nat) ≠ 9 by decide), setV_ne (show (10 : Nat) ≠ 9 by decide)]; exact h.v10), (by rw [setL_ne (show (11 : Nat) ≠ 9 by decide), setV_ne (show (11 : Nat) ≠ 9 by decide)]; exact h.v11), (fun h12 => by rw [setL_ne (show (12 : Nat) ≠ 9 by decide), g12] at h12; cases h12)⟩
theorem PuC.op12 (h : PuC w0 R A c Ls p L vals w) (g6 : L 6 = true) (g9 : L 9 = true) {A' : Option Addr} {c' : Nat} (ho : w.ownsRow w0.heap.size 40 5 (.slice A' (Ls.length + 1) c') (Ls.length + 1) (srs csP Ls ++ csP p)) (hb : Below w0.heap.size w0 w) (u : Value) : PuC w0 R A c Ls p (setL L 12) (setV vals 12 u) (w.setCell ⟨R, 2, none⟩ (.slice A' (Ls.length + 1) c')) :=
  ⟨(fun h12 => by rw [setL_at] at h12; cases h12), (by rw [setL_ne (show (0 : Nat) ≠ 12 by decide), setV_ne (show (0 : Nat) ≠ 12 by decide)]; exact h.v0), (fun h1 h6 => by rw [setL_ne (show (6 : Nat) ≠ 12 by decide), g6] at h6; cases h6), (by rw [setL_ne (show (2 : Nat) ≠ 12 by decide), setV_ne (show (2 : Nat) ≠ 12 by decide)]; exact h.v2), (by rw [setL_ne (show (3 : Nat) ≠ 12 by decide), setV_ne (show (3 : Nat) ≠ 12 by decide)]; exact h.v3), (by rw [setL_ne (show (4 : Nat) ≠ 12 by decide), setV_ne (show (4 : Nat) ≠ 12 by decide)]; exact h.v4), (by rw [setL_ne (show (5 : Nat) ≠ 12 by decide), setV_ne (show (5 : Nat) ≠ 12 by decide)]; exact h.v5), (fun h6 h9 => by rw [setL_ne (show (9 : Nat) ≠ 12 by decide), g9] at h9; cases h9), (by rw [setL_ne (show (7 : Nat) ≠ 12 by decide), setV_ne (show (7 : Nat) ≠ 12 by decide)]; exact h.v7), (fun h8 h9 => by rw [setL_ne (show (9 : Nat) ≠ 12 by decide), g9] at h9; cases h9), (fun h9 h12 => by rw [setL_at] at h12; cases h12), (by rw [setL_ne (show (10 : Nat) ≠ 12 by decide), setV_ne (show (10 : Nat) ≠ 12 by decide)]; exact h.v10), (by rw [setL_ne (show (11 : Nat) ≠ 12 by decide), setV_ne (show (11 : Nat) ≠ 12 by decide)]; exact h.v11), (fun _ => ⟨w, A', c', hb, ho, rfl⟩)⟩
theorem PuC.start (w0 : World) (R : Nat) (A : Option Addr) (c : Nat) (Ls : List Pk) (p : Pk) (vals : Nat → Value) {w : World} (hb : Below w0.heap.size w0 w) : PuC w0 R A c Ls p (fun _ => false) vals w :=
  ⟨fun _ => hb, (fun h => by cases h), (fun h => by cases h), (fun h => by cases h), (fun h => by cases h), (fun h => by cases h), (fun h => by cases h), (fun h => by cases h), (fun h => by cases h), (fun h => by cases h), (fun h => by cases h), (fun h => by cases h), (fun h => by cases h), (fun h => by cases h)⟩
end
/-- An append whose run is known, at the operation. -/
theorem wpList_append_run {P : Program} {w : World} {ops : Array Oper} {rest : List Oper} {o : Oper} {a : Act} {Q : Exit → Act → World → Prop} (hgd : o.guard = none) (s x : Operand) (T : TypeId)
    (ho : o.op = .call { callee := .builtin .append, args := #[s, x], argTypes := #[T, T] }) {v v' u : Value} {w' : World} (hs : a.eval s = v) (hx : a.eval x = u)
    (hrun : (Builtin.append_ #[T, T] o.type #[v, u]).run P w = .ok v' w') (h : wpList P ops Q rest (a.put o.dst v') w') : wpList P ops Q (o :: rest) a w := by
  refine wpList_plain hgd fun K' hK' => ?_
  unfold Oper.wp
  simp [execOp, ho, resolve, invoke, builtin, hs, hx, hrun, Result.andThen]
  exact hK' _ _ h
theorem Whole.src {W : World} {b : Nat} {T : TypeId} {p : Pk} (h : Whole W b T (csP p).toArray) : ∀ j u, (csP p)[j]? = some u → W.cell? ((⟨b, 0, none⟩ : Addr).add j) = some u := by
  intro j u hj
  rw [Addr.add_lit, Nat.zero_add, h.read]
  simpa using hj
set_option maxRecDepth 100000 in
set_option maxHeartbeats 8000000 in
theorem rqpush_ok {C R : Nat} {S : Nat → Prop} {q : Qu} {w : World} (h : RQO C R S q w) {p : Pk} (hv : pkOk p = true) (hm : ¬ q.mp < q.L.length + 1) (hm2 : ¬ q.mb < sumB q.L + p.l) :
    Calls Try.prog 29 #[.pointer (some ⟨R, 0, none⟩), aggP p] w (RQAns C R S (puT q p) (.int .i64 0) w) := by
  have HP := Lib.hid (fun (wr : World) (A6 : Option Addr) (c6 : Nat) bl r6 x => h.pushed (wr := wr) (A6 := A6) (c6 := c6) (pu_0 hv hm hm2).1 bl r6 x)
  have HBY := Lib.hid (fun w' (hb : Below w.heap.size w w') => rqbytes_any (h.below hb))
  have HV := rvalid_any p
  have hsum := h.1.sums
  have hpl := pk_len hv
  rw [hv] at HV
  obtain ⟨i, f, l, a, d⟩ := p
  unfold aggP at HV ⊢
  simp only at HV ⊢
  have HV := Lib.hid HV
  have hb1 := (Below.refl w.heap.size w).alloc (Nat.le_refl _) (.cells #[.int .i64 i, .int .i64 f, .int .i64 l, .int .i64 a, .int .i64 d] 40)
  have HB1 := Lib.hid hb1
  obtain ⟨h0, ⟨A, c, h1, h2⟩, h3⟩ := h
  have HK := Lib.hid (fun w' (hb : Below w.heap.size w w') => (h1.below hb).cells)
  have HR0 := Lib.hid (fun w' (hb : Below w.heap.size w w') => (h1.below hb).row)
  have hf := h0.few
  have hd : decide (q.mp < (q.L.length : Int) + 1) = false := decide_eq_false hm
  have hd2 : decide (q.mb < sumB q.L + l) = false := decide_eq_false hm2
  have hwr2 : IntKind.i64.wrap (sumB q.L + l) = sumB q.L + l := IntWalk.i64_in _ (by simp only at hpl; omega)
  have hwr : IntKind.i64.wrap ((q.L.length : Int) + 1) = (q.L.length : Int) + 1 := IntWalk.i64_in _ (by omega)
  have HWH := Lib.hid (Whole.fresh w 40 #[.int .i64 i, .int .i64 f, .int .i64 l, .int .i64 a, .int .i64 d])
  have hRlt := (h1.lt R (.inl rfl)).2
  clear hb1 hv h0 h1 h2 h3 hm hm2 hsum hpl
  generalize q.mp = mp at *
  generalize q.mb = mb at *
  generalize sumB q.L = sm at *
  go_enter Try.func29, Try.ntmps29
  go_wp2_with fail
  (with_reducible refine (HV.out _).mono ?_); rintro e w1 ⟨rfl, hb⟩
  have hb2 := HB1.out.trans (hb.mono HB1.out.size)
  have HWS := Lib.hid hb2.size
  obtain ⟨c0, c1, c2, cf⟩ := HK.out w1 hb2
  have HBX := Lib.hid (fun n => HBY.out (w1.drewN n) (Below_drewN hb2 n))
  have HWB := HWH.out.later hb
  have k2 := HWB.read 2
  simp at k2
  have HWW := Lib.hid (fun W (h : Below w1.heap.size w1 W) => hb2.trans (h.mono hb2.size))
  have HK1 := Lib.hid (fun W (h : Below w1.heap.size w1 W) => (HK.out W (HWW.out W h)).2.2.1)
  have HRow := Lib.hid (fun W (h : Below w1.heap.size w1 W) => HR0.out W (HWW.out W h))
  have HK2 := Lib.hid (fun W (h : Below w1.heap.size w1 W) => show W.cell? ⟨w.heap.size, 0, none⟩ = some (.int .i64 i) ∧ W.cell? ⟨w.heap.size, 1, none⟩ = some (.int .i64 f) ∧ W.cell? ⟨w.heap.size, 2, none⟩ = some (.int .i64 l) ∧ W.cell? ⟨w.heap.size, 3, none⟩ = some (.int .i64 a) ∧ W.cell? ⟨w.heap.size, 4, none⟩ = some (.int .i64 d) from ⟨(HWB.later h).read 0, (HWB.later h).read 1, (HWB.later h).read 2, (HWB.later h).read 3, (HWB.later h).read 4⟩)
  clear hb hb2 cf HWB
  go_wp2_with fail
  go_quiet ((go_at_call 14; exact Calls.quiet_of_same ((HBX.out _).mono fun _ _ h => ⟨h.1, h.2.symm⟩)))
  clear c0 c1 c2 k2
  have HB0 := Lib.hid (Below_drewN (Below.refl w1.heap.size w1) (nq + 1))
  have HRW := Lib.hid (show R < w1.heap.size ∧ w.heap.size ≤ w1.heap.size by have := hRlt; have := HWS.out; omega)
  go_wp2_with fail
  refine wp_region_looseS 43 (by kernel_rfl) (by kernel_rfl) (PuC w1 R A c q.L ⟨i, f, l, a, d⟩) rfl (PuC.start _ _ _ _ _ _ _ HB0.out) ?_ ?_
  · simp only [OblAllS]
    refine ⟨?_, ?_, ?_, ?_, ?_, ?_, ?_, ?_, ?_, ?_, ?_, ?_, ?_, trivial⟩
    all_goals
      intro L wx vals hi hu hcl hC
      simp [predL, predE, Region.binds, UpL] at hu
      simp [ClosedL, UpL, predL, predE, Region.binds] at hcl
      simp only [fillA, if_true, Act.put]
      simp
    · have HF := Lib.hid hC.op0
      clear hcl hu hi hC
      go_wp2
      exact ⟨rfl, HF.out⟩
    · have g6 : L 6 = false := by cases h : L 6 <;> simp_all
      have g9 : L 9 = false := by cases h : L 9 <;> simp_all
      have g12 : L 12 = false := by cases h : L 12 <;> simp_all
      have HF := Lib.hid (hC.op1 g6 g9 g12)
      clear hcl hu hi hC g6 g9 g12
      go_wp2
      exact ⟨rfl, HF.out⟩
    · have HF := Lib.hid hC.op2
      clear hcl hu hi hC
      go_wp2
      exact ⟨rfl, HF.out⟩
    · have e2 := hC.v2 hu
      have HF := Lib.hid hC.op3
      clear hcl hu hi hC
      simp only [e2]
      clear e2
      go_wp2
      exact ⟨rfl, HF.out⟩
    · have e2 := hC.v3 hu
      have HF := Lib.hid hC.op4
      clear hcl hu hi hC
      simp only [e2]
      clear e2
      go_wp2
      exact ⟨rfl, HF.out⟩
    · have e2 := hC.v4 hu
      have g12 : L 12 = false := by cases h : L 12 <;> simp_all
      have z2 := HK1.out wx (hC.old g12)
      have HF := Lib.hid hC.op5
      clear hcl hu hi hC g12
      simp only [e2]
      clear e2
      go_wp2
      exact ⟨rfl, HF.out⟩
    · have g9 : L 9 = false := by cases h : L 9 <;> simp_all
      have g12 : L 12 = false := by cases h : L 12 <;> simp_all
      obtain ⟨b, e1, hb1, hE⟩ := hC.v1 hu.1 hi
      have e2 := hC.v5 hu.2
      obtain ⟨A6, c6, w6, hr6, ho6, hb6⟩ := app1 (c := c) hE hb1 (hC.old g12).size (HRow.out wx (hC.old g12)) hf
      have HF := Lib.hid (hC.op6 g9 g12 ho6 hb6)
      clear hcl hu hi hC g9 g12 hE hb1 ho6 hb6
      simp only [e1, e2]
      clear e1 e2
      refine wpList_append_run rfl (.tmp 32) (.tmp 36) 35 rfl rfl rfl hr6 ?_
      clear hr6
      go_wp2
      exact ⟨rfl, HF.out⟩
    · have g12 : L 12 = false := by cases h : L 12 <;> simp_all
      obtain ⟨y0, y1, y2, y3, y4⟩ := HK2.out wx (hC.old g12)
      have HF := Lib.hid hC.op7
      clear hcl hu hi hC g12
      go_wp2
      exact ⟨rfl, HF.out⟩
    · have g9 : L 9 = false := by cases h : L 9 <;> simp_all
      have g12 : L 12 = false := by cases h : L 12 <;> simp_all
      have e2 := hC.v7 hu
      have HF := Lib.hid (hC.op8 g9 g12)
      clear hcl hu hi hC g9 g12
      simp only [e2]
      clear e2
      go_wp2
      exact ⟨rfl, HF.out⟩
    · have g12 : L 12 = false := by cases h : L 12 <;> simp_all
      obtain ⟨A6, c6, e1, ho⟩ := hC.v6 hu.1 hi
      obtain ⟨g, e2, hg, hL⟩ := hC.v8 hu.2.1 hi
      have hbo := hC.old g12
      obtain ⟨v9, w9, hr9, ho9, hg9, _⟩ := run_append_one (P := Try.prog) (w := wx) 35 35 Try.underlying35 info_pk rfl (by decide) ho ⟨g, 0, none⟩ (csP_len ⟨i, f, l, a, d⟩) hL.src (csP_one _) (by omega) (by decide) hbo.size
      obtain ⟨A9, c9, rfl⟩ := ow_shape ho9
      have hb9 := below_grew hbo (Nat.le_refl _) hg9 (fun k e => (World.ownsRow.lt ho k e).1)
      have HF := Lib.hid (hC.op9 hu.1 g12 ho9 hb9)
      clear hcl hu hi hC g12 ho hg hL hbo ho9 hg9 hb9
      simp only [e1, e2]
      clear e1 e2
      refine wpList_append_run rfl (.tmp 37) (.tmp 39) 35 rfl rfl rfl hr9 ?_
      clear hr9
      go_wp2
      exact ⟨rfl, HF.out⟩
    · have e2 := hC.v0 hu.1
      have HF := Lib.hid hC.op10
      clear hcl hu hi hC
      simp only [e2]
      clear e2
      go_wp2
      exact ⟨rfl, HF.out⟩
    · have e2 := hC.v10 hu.1
      have HF := Lib.hid hC.op11
      clear hcl hu hi hC
      simp only [e2]
      clear e2
      go_wp2
      exact ⟨rfl, HF.out⟩
    · have g9 : L 9 = true := by simp_all
      have g6 : L 6 = true := by simp_all
      have e2 : vals 11 = _ := hC.v11 (by simp_all)
      obtain ⟨A9, c9, e1, ho⟩ := hC.v9 g9 hi
      have hbo := hC.old hi
      obtain ⟨_, _, x2, xf⟩ := HK.out wx (HWW.out wx hbo)
      have xf2 := xf 2
      have HF := Lib.hid (fun u => hC.op12 g6 g9 ho hbo u)
      clear hcl hu hi hC g6 g9 ho hbo xf
      simp only [e1, e2]
      clear e1 e2
      go_wp2
      exact ⟨rfl, HF.out _⟩
  · intro wz vals L hC hall
    obtain ⟨W, A9, c9, hbW, hoW, rfl⟩ := hC.fin (hall 12 (by simp))
    have HF := Lib.hid (fun x => HP.out W A9 c9 (HWW.out W hbW) (oww hoW HRW.out.2) x)
    clear hC hall hbW hoW
    simp only [fillA, if_true, Act.put]
    simp
    go_wp2
    go_ret
    exact HF.out _
theorem rqpush_any {C R : Nat} {S : Nat → Prop} {q : Qu} {w : World} (h : RQO C R S q w) (p : Pk) :
    Calls Try.prog 29 #[.pointer (some ⟨R, 0, none⟩), aggP p] w (RQAns C R S (puT q p) (.int .i64 (puE q p)) w) := by
  cases hv : pkOk p
  · rw [(pu_1 hv).1, (pu_1 hv).2]; exact rqpush_bad h hv
  by_cases hm : q.mp < q.L.length + 1
  · rw [(pu_4 hv (.inl hm)).1, (pu_4 hv (.inl hm)).2]; exact rqpush_many h hv hm
  by_cases hm2 : q.mb < sumB q.L + p.l
  · rw [(pu_4 hv (.inr hm2)).1, (pu_4 hv (.inr hm2)).2]; exact rqpush_big h hv hm hm2
  rw [(pu_0 hv hm hm2).1]; exact rqpush_ok h hv hm hm2
end Go.Proofs.Ytijdfkdfojiffaa

