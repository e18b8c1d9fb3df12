/-
  Layer 16: the program's sender in memory; contracts of New, Base, Open, find, isExhausted, accepts. Written by gen_snp1.py.
-/
import Derived.Test.YtglhaclehdkagaaSnRef4
import Derived.Test.YtglhaclehdkagaaSnRef3
import Derived.Test.YtglhaclehdkagaaSnHelp
namespace Go.Proofs.Ytglhaclehdkagaa
open Go.ChangeShapes Go.WideShapes Go.ChangeAt Go.RowKit
set_option linter.unusedVariables false

/-! ### plain: what the program's calls keep -/
def snQ (l : List SnE) : List Int := l.map (·.q)
structure SnIv (s : SnS) : Prop where
  ok : SnOk s
  p : (snQ s.l).Pairwise (fun x y => (s.nx - y) % 65536 ≤ (s.nx - x) % 65536)
  e : ∀ x ∈ snQ s.l, (s.nx - x) % 65536 ≤ s.w
theorem SnIv.new {w t : Int} (h : snB w t = true) : SnIv (SnS.new w t) := ⟨SnOk.new h, List.Pairwise.nil, by intro x hx; cases hx⟩
theorem SnIv.sub {s : SnS} (h : SnIv s) {l : List SnE} (hl : l.Sublist s.l) : SnIv { s with l := l } :=
  ⟨h.ok.sub fun x hx => hl.subset hx, h.p.sublist (hl.map _), fun x hx => h.e x ((hl.map _).subset hx)⟩
theorem SnIv.ack {s : SnS} (h : SnIv s) (b m : Int) : SnIv (s.ack b m) := by
  unfold SnS.ack
  split
  · exact h.sub List.filter_sublist
  · exact h
theorem snCut_subl (l : List SnE) (k : Nat) : (snCut l k).Sublist l := by
  unfold snCut
  rw [← List.eraseIdx_eq_take_drop_succ]
  exact List.eraseIdx_sublist _ _
theorem SnIv.drp {s : SnS} (h : SnIv s) (q : Int) : SnIv (s.drp q) := by
  unfold SnS.drp
  split
  · exact h.sub (snCut_subl _ _)
  · exact h
theorem snUp_q (l : List SnE) (k : Nat) : snQ (snUp l k) = snQ l := by
  unfold snUp snQ
  split
  · rename_i h
    rw [List.map_set]
    have e : ({ l[k] with t := l[k].t + 1 } : SnE).q = (l.map (·.q))[k]'(by simpa using h) := by simp
    rw [e, List.set_getElem_self]
  · rfl
theorem SnIv.snd {s : SnS} (h : SnIv s) (q : Int) : SnIv (s.snd q) := by
  have h0 := h.ok.snd q
  unfold SnS.snd at h0 ⊢
  by_cases hE : snSdE s q = 0
  · rw [if_pos hE] at h0 ⊢
    exact ⟨h0, by show (snQ (snUp s.l (snK s.l q))).Pairwise _; rw [snUp_q]; exact h.p, by show ∀ x ∈ snQ (snUp s.l (snK s.l q)), _; rw [snUp_q]; exact h.e⟩
  · rw [if_neg hE]; exact h
theorem SnIv.dist {s : SnS} (h : SnIv s) : 0 ≤ snD s ∧ snD s ≤ s.w ∧ (∀ x ∈ snQ s.l, (s.nx - x) % 65536 ≤ snD s) ∧ snD s = (s.nx - snBase s) % 65536 := by
  have h1 := h.ok.base
  have h2 := h.ok.nx
  have h3 := h.ok.few
  have hd : snD s = (s.nx - snBase s) % 65536 := by
    unfold snD
    rw [(ds_yes (both_yes (isNum_yes h1.1 h1.2) (isNum_yes h2.1 h2.2))).1]
  rw [hd]
  unfold snBase
  have hp := h.p
  have he := h.e
  cases hl : s.l with
  | nil => refine ⟨by simp, by simp; omega, (fun x hx => by cases hx), rfl⟩
  | cons z l =>
    rw [hl] at hp he
    refine ⟨by simp only; omega, he _ (by simp [snQ]), fun x hx => ?_, rfl⟩
    simp only [snQ, List.map_cons, List.mem_cons] at hx
    rcases hx with rfl | hx
    · exact Int.le_refl _
    · exact (List.pairwise_cons.1 hp).1 x hx
theorem SnIv.asg {s : SnS} (h : SnIv s) (id : Int) : SnIv (s.asg id) := by
  have h0 := h.ok.asg id
  unfold SnS.asg at h0 ⊢
  by_cases hE : snAsE s id = 0
  · rw [if_pos hE] at h0 ⊢
    have ho : snOpen s = true := by
      unfold snAsE at hE
      by_cases h1 : id < 1
      · rw [if_pos h1] at hE; cases hE
      · rw [if_neg h1] at hE
        by_cases h2 : snOpen s = true
        · exact h2
        · rw [if_neg h2] at hE; cases hE
    have hd : snD s < s.w := by unfold snOpen at ho; rw [decide_eq_true_eq] at ho; omega
    have hx := h.dist
    have hw := h.ok.few
    have hn := h.ok.nx
    have key : ∀ x, (s.nx - x) % 65536 ≤ snD s → ((s.nx + 1) % 65536 - x) % 65536 = (s.nx - x) % 65536 + 1 := fun x hx => by omega
    have hq : snQ (s.l ++ [⟨s.nx, id, 0⟩]) = snQ s.l ++ [s.nx] := by simp [snQ]
    refine ⟨h0, ?_, ?_⟩
    · show (snQ (s.l ++ [⟨s.nx, id, 0⟩])).Pairwise _
      rw [hq, List.pairwise_append]
      refine ⟨h.p.imp_of_mem fun {x y} hx1 hy1 hxy => ?_, List.pairwise_singleton _ _, fun x hx1 y hy => ?_⟩
      · have e1 := key x (hx.2.2.1 x hx1)
        have e2 := key y (hx.2.2.1 y hy1)
        show ((s.nx + 1) % 65536 - y) % 65536 ≤ ((s.nx + 1) % 65536 - x) % 65536
        rw [e1, e2]; omega
      · rw [List.mem_singleton] at hy
        subst hy
        have e1 := key x (hx.2.2.1 x hx1)
        show ((s.nx + 1) % 65536 - s.nx) % 65536 ≤ ((s.nx + 1) % 65536 - x) % 65536
        rw [e1]; omega
    · show ∀ x ∈ snQ (s.l ++ [⟨s.nx, id, 0⟩]), ((s.nx + 1) % 65536 - x) % 65536 ≤ s.w
      rw [hq]
      intro x hx1
      rw [List.mem_append, List.mem_singleton] at hx1
      rcases hx1 with hx1 | rfl
      · rw [key x (hx.2.2.1 x hx1)]
        have := hx.2.2.1 x hx1
        omega
      · omega
  · rw [if_neg hE]; exact h
/-- What the program asks of an acknowledgement's base. -/
theorem SnIv.acc {s : SnS} (h : SnIv s) (b : Int) : (((b == snBase s) || befB (snBase s) b) && !befB s.nx b) = snAkB s b := by
  have hb := h.ok.base
  have hn := h.ok.nx
  have hw := h.ok.few
  obtain ⟨d0, d1, _, d3⟩ := h.dist
  have n1 := isNum_yes hb.1 hb.2
  have n2 := isNum_yes hn.1 hn.2
  unfold snAkB
  generalize snD s = D at *
  generalize snBase s = ba at *
  generalize s.nx = nx at *
  by_cases hi : 0 ≤ b ∧ b < 65536
  · have n3 := isNum_yes hi.1 hi.2
    have b1 := both_yes n1 n3
    have b2 := both_yes n2 n3
    rw [(ds_yes b1).1, (ds_yes b1).2]
    unfold befB
    rw [b1, b2]
    by_cases h1 : (b - ba) % 65536 < 32768
    · by_cases h2 : (b - ba) % 65536 ≤ D
      · have q1 : decide (1 ≤ (b - nx) % 65536 ∧ (b - nx) % 65536 ≤ 32767) = false := by rw [decide_eq_false_iff_not]; omega
        have q2 : ((b == ba) || (true && decide (1 ≤ (b - ba) % 65536 ∧ (b - ba) % 65536 ≤ 32767))) = true := by
          by_cases e : b = ba
          · subst e; simp
          · rw [Bool.or_eq_true]; right; rw [Bool.true_and, decide_eq_true_eq]; omega
        rw [q1, q2]; simp [h1, h2]
      · have q1 : decide (1 ≤ (b - nx) % 65536 ∧ (b - nx) % 65536 ≤ 32767) = true := by rw [decide_eq_true_eq]; omega
        rw [q1]; simp [h2]
    · have q2 : ((b == ba) || (true && decide (1 ≤ (b - ba) % 65536 ∧ (b - ba) % 65536 ≤ 32767))) = false := by
        rw [Bool.or_eq_false_iff]
        refine ⟨by simp only [beq_eq_false_iff_ne, ne_eq]; intro e; subst e; simp at h1, ?_⟩
        rw [Bool.true_and, decide_eq_false_iff_not]; omega
      rw [q2]; simp [h1]
  · have n3 : isNum b = false := by unfold isNum; rw [decide_eq_false_iff_not]; exact hi
    have b1 := both_no (a := ba) (b := b) (.inr n3)
    have hne : (b == ba) = false := by
      simp only [beq_eq_false_iff_ne, ne_eq]; intro e; subst e; exact hi hb
    rw [(ds_no b1).1, (ds_no b1).2, bef_no b1, hne]
    simp
theorem SnOk.exh {s : SnS} (h : SnOk s) {x : SnE} (hx : x ∈ s.l) : (x.t == s.t) = decide (s.t ≤ x.t) := by
  have := (h.e x hx).2.2
  by_cases e : x.t = s.t
  · simp [e]
  · have h1 : (x.t == s.t) = false := by simpa using e
    rw [h1, Eq.comm, decide_eq_false_iff_not]; omega
/-! ### the object -/
/-- The program's sender in block R. -/
def SnP (R : Nat) (s : SnS) : RP := fun T w => SnIv s ∧ (∀ k, T k → k < w.heap.size) ∧ T R ∧ ∃ vL, Whole w R 56 (snC s vL) ∧ w.ownsRow 0 38 3 vL s.l.length (srs csN s.l) ∧ ∀ b, vL.ownBlock = some b → T b
theorem SnP.frm {base R : Nat} {s : SnS} : Frm base (SnP R s) := by
  refine ⟨fun ⟨_, h1, _⟩ => h1, fun {T U w w'} ⟨h0, h1, h2, vL, h3, h4, h5⟩ hc hb hs => ?_⟩
  exact ⟨h0, fun k hk => by have := h1 k hk; have := hc.size; omega, h2, vL, h3.carry (hc.block R (h1 R h2) (hs R h2)), owk h4 fun b hb => hc.block b (h1 b (h5 b hb)) (hs b (h5 b hb)), h5⟩
theorem SnP.later {R : Nat} {s : SnS} {T : Nat → Prop} {w w' : World} (h : SnP R s T w) (hb : Below w.heap.size w w') : SnP R s T w' :=
  (SnP.frm (base := 0)).chg (S := fun _ => False) h (Chg.of_below hb) (fun _ h => h.elim) (fun _ _ h => h)
/-- What a call needs that only reads. -/
theorem SnP.open_ {R : Nat} {s : SnS} {T : Nat → Prop} {w : World} (h : SnP R s T w) : SnIv s ∧ R < w.heap.size ∧ ∃ vL, Whole w R 56 (snC s vL) ∧ LsG csN 3 38 w (fun b => T b ∧ b < w.heap.size ∧ b ≠ R) vL s.l := by
  obtain ⟨h0, h1, h2, vL, h3, h4, h5⟩ := h
  refine ⟨h0, h1 R h2, vL, h3, (snElt.row_ls1 h4 rfl).wider fun b hb => ⟨h5 b hb, h1 b (h5 b hb), fun e => ?_⟩⟩
  subst e
  obtain ⟨cur, hcur⟩ := ow_type h4 hb
  have h6 : some (Obj.cells cur 38 (0, 0)) = some (Obj.cells (snC s vL) 56 (0, 0)) := Eq.trans (Eq.symm hcur) h3
  simp at h6
/-! ### New -/
set_option maxHeartbeats 4000000 in
theorem psnew_any {wi tr : Int} (hp : snB wi tr = true) {base : Nat} : Acts 9 #[.int .i64 wi, .int .i64 tr] base Emp (fun R : Nat => .tuple #[.pointer (some ⟨R, 0, none⟩), .int .i64 0]) fun R => SnP R (SnS.new wi tr) := by
  intro T w hT hb hs
  have hb4 := snB_yes hp
  have hok := SnIv.new hp
  have HF := Lib.hid (show ∃ i : Nat, Ending.returned (.tuple #[.pointer (some ⟨w.heap.size, 0, none⟩), .int .i64 0]) = .returned (.tuple #[.pointer (some ⟨i, 0, none⟩), .int .i64 0]) ∧ (∃ T', SnP i (SnS.new wi tr) T' (w.alloc (.cells #[.int .i64 wi, .int .i64 tr, .int .i64 0, .slice none 0 0] 56)) ∧ ∀ j, T' j → T j ∨ w.heap.size ≤ j) ∧ Chg T w (w.alloc (.cells #[.int .i64 wi, .int .i64 tr, .int .i64 0, .slice none 0 0] 56)) from
    ⟨w.heap.size, rfl, ⟨fun j => j = w.heap.size, ⟨hok, fun j hj => by rw [hj]; simp, rfl, _, Whole.fresh w _ _, World.ownsRow_nil _ _ _ _, fun b hb => by cases hb⟩, fun j hj => .inr (by rw [hj]; exact Nat.le_refl _)⟩, (Chg.refl T w).alloc _⟩)
  obtain ⟨a1, a2, a3, a4⟩ := hb4
  clear hok hp
  go_enter Try.func9, Try.ntmps9
  go_wp2
  go_ret2
  exact HF.out
set_option maxHeartbeats 4000000 in
theorem psnew_no {wi tr : Int} (hp : snB wi tr = false) (w : World) : Calls Try.prog 9 #[.int .i64 wi, .int .i64 tr] w (Calm (.tuple #[.pointer none, .int .i64 1]) w) := by
  have hc : wi < 1 ∨ (1 ≤ wi ∧ 64 < wi) ∨ (1 ≤ wi ∧ wi ≤ 64 ∧ tr < 1) ∨ (1 ≤ wi ∧ wi ≤ 64 ∧ 1 ≤ tr ∧ 16 < tr) := by
    by_cases h : 1 ≤ wi ∧ wi ≤ 64 ∧ 1 ≤ tr ∧ tr ≤ 16
    · rw [snB_of h] at hp; cases hp
    · omega
  clear hp
  unfold Calm
  rcases hc with h1 | ⟨h1, h2⟩ | ⟨h1, h2, h3⟩ | ⟨h1, h2, h3, h4⟩
  all_goals
    go_enter Try.func9, Try.ntmps9
    go_wp2
    go_ret2
    exact ⟨rfl, Below.refl _ _⟩
/-! ### Base -/
set_option maxHeartbeats 4000000 in
theorem psbase_any {R : Nat} {s : SnS} {T : Nat → Prop} {w : World} (h : SnP R s T w) : Calls Try.prog 14 #[.pointer (some ⟨R, 0, none⟩)] w (Calm (.int .i64 (snBase s)) w) := by
  obtain ⟨h0, h1, vL, h3, h4⟩ := h.open_
  have d2 := h3.read 2
  have d3 := h3.read 3
  simp [snC] at d2 d3
  unfold Calm
  clear h
  rcases Nat.eq_zero_or_pos s.l.length with hz | hz
  · have hl : s.l = [] := List.eq_nil_of_length_eq_zero hz
    have e : snBase s = s.nx := by unfold snBase; rw [hl]
    rw [e]
    obtain ⟨A, c, rfl, _⟩ := h4.shape
    rw [hz] at d3
    clear h0 h1 h3 h4 hl e hz
    go_enter Try.func14, Try.ntmps14
    go_wp2
    go_ret
    exact ⟨rfl, Below.refl _ _⟩
  · obtain ⟨b, off, c, rfl, hc, _, _, q0, _, _⟩ := h4.sn hz
    have e : snBase s = s.l[0].q := by
      obtain ⟨_, _, _, l⟩ := s
      cases l with
      | nil => simp at hz
      | cons x l => rfl
    rw [e]
    rw [Nat.zero_mul, Nat.add_zero] at q0
    generalize s.l[0].q = g at *
    obtain ⟨n, hn⟩ : ∃ n, s.l.length = n := ⟨_, rfl⟩
    rw [hn] at d3 hz
    have hz' : (0 : Int) < (n : Int) := by omega
    have hz2 : ((n : Int) == 0) = false := by simp; omega
    clear h0 h1 h3 h4 e hn hc
    go_enter Try.func14, Try.ntmps14
    go_wp2
    go_ret
    exact ⟨rfl, Below.refl _ _⟩
/-! ### Open -/
set_option maxRecDepth 100000 in
set_option maxHeartbeats 4000000 in
theorem psopen_any {R : Nat} {s : SnS} {T : Nat → Prop} {w : World} (h : SnP R s T w) : Calls Try.prog 12 #[.pointer (some ⟨R, 0, none⟩)] w (Calm (.bool (snOpen s)) w) := by
  have HB1 := Lib.hid (fun (W : World) (hw : Below w.drew.heap.size w.drew W) => psbase_any (h.later ((Below.refl _ w).drew.trans hw)))
  obtain ⟨h0, hR, vL, h3, h4⟩ := h.open_
  have hO : snOpen s = decide (snD s < s.w) := by
    unfold snOpen
    by_cases h9 : snD s < s.w
    · rw [decide_eq_true h9, decide_eq_true (by omega)]
    · rw [decide_eq_false h9, decide_eq_false (by omega)]
  rw [hO]
  have d0 := h3.read 0
  have d2 := h3.read 2
  simp [snC] at d0 d2
  have HC4 := Lib.hid (fun (W : World) (hw : Below w.drew.heap.size w.drew W) => (((Below.refl _ w).drew.trans hw).cell (p := ⟨R, 2, none⟩) hR).trans d2)
  have HC0 := Lib.hid (fun (W : World) (hw : Below w.drew.heap.size w.drew W) => (((Below.refl _ w).drew.trans hw).cell (p := ⟨R, 0, none⟩) hR).trans d0)
  clear h h0 h3 h4 d0 d2 hO
  unfold snD
  generalize snBase s = b at *
  generalize s.nx = nx at *
  have HD1 := Lib.hid (fun (W : World) (hw : Below w.drew.heap.size w.drew W) => (dist_any b nx W).mono fun e w' k => Calm.same k)
  generalize dsV b nx = d at *
  generalize dsE b nx = de at *
  generalize s.w = wi at *
  clear hR
  unfold Calm at *
  go_enter Try.func12, Try.ntmps12
  go_wp2_with fail
  refine wp_region_looseS 21 (by kernel_rfl) (by kernel_rfl) (StB w.drew (fun vI => [.pointer (some ⟨R, 0, none⟩), .int .i64 b, .pointer (some ⟨R, 0, none⟩), .pointer (some ⟨R, 0, none⟩), .pointer (some ⟨R, 2, none⟩), .int .i64 nx, .tuple #[.int .i64 d, .int .i64 de], .tuple #[.int .i64 d, .int .i64 de], .int .i64 d, .int .i64 de, .int .i64 d, .int .i64 de].getD vI undef)) rfl StB.start ?_ ?_
  · simp only [OblAllS]
    refine ⟨?_, ?_, ?_, ?_, ?_, ?_, ?_, ?_, ?_, ?_, ?_, ?_, trivial⟩
    · intro L wx vals hi hu hcl hC
      have HCx := Lib.hid hC
      clear hC hcl hu hi
      simp only [fillA, if_true, Act.put]
      simp
      go_wp2
      exact ⟨rfl, HCx.out.quiet 0 rfl⟩
    · intro L wx vals hi hu hcl hC
      simp [predL, predE, Region.binds, UpL] at hu
      have e0 : vals 0 = .pointer (some ⟨R, 0, none⟩) := hC.v 0 (by simp [hu])
      have HL := Lib.hid (HB1.out wx hC.b)
      have HCx := Lib.hid hC
      clear hC hcl hu hi
      simp only [fillA, if_true, Act.put]
      simp
      simp only [e0]
      clear e0
      go_wp2_with fail
      (with_reducible refine HL.out.mono ?_); rintro e w9 ⟨rfl, hb⟩
      have HX := Lib.hid (HCx.out.step 1 (x := .int .i64 b) rfl (HCx.out.b.trans (hb.mono HCx.out.b.size)))
      clear hb
      go_wp2
      exact ⟨rfl, HX.out⟩
    · intro L wx vals hi hu hcl hC
      have HCx := Lib.hid hC
      clear hC hcl hu hi
      simp only [fillA, if_true, Act.put]
      simp
      go_wp2
      exact ⟨rfl, HCx.out.quiet 2 rfl⟩
    · intro L wx vals hi hu hcl hC
      simp [predL, predE, Region.binds, UpL] at hu
      have e2 : vals 2 = .pointer (some ⟨R, 0, none⟩) := hC.v 2 (by simp [hu])
      have HCx := Lib.hid hC
      clear hC hcl hu hi
      simp only [fillA, if_true, Act.put]
      simp
      simp only [e2]
      clear e2
      go_wp2
      exact ⟨rfl, HCx.out.quiet 3 rfl⟩
    · intro L wx vals hi hu hcl hC
      simp [predL, predE, Region.binds, UpL] at hu
      have e3 : vals 3 = .pointer (some ⟨R, 0, none⟩) := hC.v 3 (by simp [hu])
      have HCx := Lib.hid hC
      clear hC hcl hu hi
      simp only [fillA, if_true, Act.put]
      simp
      simp only [e3]
      clear e3
      go_wp2
      exact ⟨rfl, HCx.out.quiet 4 rfl⟩
    · intro L wx vals hi hu hcl hC
      simp [predL, predE, Region.binds, UpL] at hu
      have e4 : vals 4 = .pointer (some ⟨R, 2, none⟩) := hC.v 4 (by simp [hu])
      have h0 := (HC4.out wx hC.b)
      have HCx := Lib.hid hC
      clear hC hcl hu hi
      simp only [fillA, if_true, Act.put]
      simp
      simp only [e4]
      clear e4
      go_wp2
      exact ⟨rfl, HCx.out.quiet 5 rfl⟩
    · intro L wx vals hi hu hcl hC
      simp [predL, predE, Region.binds, UpL] at hu
      have e1 : vals 1 = .int .i64 b := hC.v 1 (by simp [hu])
      have e5 : vals 5 = .int .i64 nx := hC.v 5 (by simp [hu])
      have HL := Lib.hid (HD1.out wx hC.b)
      have HCx := Lib.hid hC
      clear hC hcl hu hi
      simp only [fillA, if_true, Act.put]
      simp
      simp only [e1, e5]
      clear e1 e5
      go_wp2_with fail
      (with_reducible refine HL.out.mono ?_); rintro e w9 ⟨rfl, hb⟩
      have HX := Lib.hid (HCx.out.step 6 (x := .tuple #[.int .i64 d, .int .i64 de]) rfl (HCx.out.b.trans (hb.mono HCx.out.b.size)))
      clear hb
      go_wp2
      exact ⟨rfl, HX.out⟩
    · intro L wx vals hi hu hcl hC
      simp [predL, predE, Region.binds, UpL] at hu
      have e6 : vals 6 = .tuple #[.int .i64 d, .int .i64 de] := hC.v 6 (by simp [hu])
      have HCx := Lib.hid hC
      clear hC hcl hu hi
      simp only [fillA, if_true, Act.put]
      simp
      simp only [e6]
      clear e6
      go_wp2
      exact ⟨rfl, HCx.out.quiet 7 rfl⟩
    · intro L wx vals hi hu hcl hC
      simp [predL, predE, Region.binds, UpL] at hu
      have e7 : vals 7 = .tuple #[.int .i64 d, .int .i64 de] := hC.v 7 (by simp [hu])
      have HCx := Lib.hid hC
      clear hC hcl hu hi
      simp only [fillA, if_true, Act.put]
      simp
      simp only [e7]
      clear e7
      go_wp2
      exact ⟨rfl, HCx.out.quiet 8 rfl⟩
    · intro L wx vals hi hu hcl hC
      simp [predL, predE, Region.binds, UpL] at hu
      have e7 : vals 7 = .tuple #[.int .i64 d, .int .i64 de] := hC.v 7 (by simp [hu])
      have HCx := Lib.hid hC
      clear hC hcl hu hi
      simp only [fillA, if_true, Act.put]
      simp
      simp only [e7]
      clear e7
      go_wp2
      exact ⟨rfl, HCx.out.quiet 9 rfl⟩
    · intro L wx vals hi hu hcl hC
      simp [predL, predE, Region.binds, UpL] at hu
      have e8 : vals 8 = .int .i64 d := hC.v 8 (by simp [hu])
      have HCx := Lib.hid hC
      clear hC hcl hu hi
      simp only [fillA, if_true, Act.put]
      simp
      simp only [e8]
      clear e8
      go_wp2
      exact ⟨rfl, HCx.out.quiet 10 rfl⟩
    · intro L wx vals hi hu hcl hC
      simp [predL, predE, Region.binds, UpL] at hu
      have e9 : vals 9 = .int .i64 de := hC.v 9 (by simp [hu])
      have HCx := Lib.hid hC
      clear hC hcl hu hi
      simp only [fillA, if_true, Act.put]
      simp
      simp only [e9]
      clear e9
      go_wp2
      exact ⟨rfl, HCx.out.quiet 11 rfl⟩
  · intro wz vals U hC hall
    have e10 : vals 10 = .int .i64 d := hC.v 10 (hall 10 (by simp))
    have c0 := HC0.out wz hC.b
    have HF := Lib.hid ((Below.refl _ w).drew.trans hC.b)
    simp only [fillA, if_true, Act.put]
    simp
    simp only [e10]
    clear hC hall e10 HC4 HC0 HB1 HD1
    generalize vals 0 = t0 at *
    generalize vals 1 = t1 at *
    generalize vals 2 = t2 at *
    generalize vals 3 = t3 at *
    generalize vals 4 = t4 at *
    generalize vals 5 = t5 at *
    generalize vals 6 = t6 at *
    generalize vals 7 = t7 at *
    generalize vals 8 = t8 at *
    generalize vals 9 = t9 at *
    generalize vals 11 = t11 at *
    go_wp2
    go_ret
    exact ⟨rfl, HF.out⟩
/-! ### find -/
set_option maxHeartbeats 4000000 in
theorem snclos_any (xq xi xt q : Int) (g : Nat) (w : World) (hr : w.cell? ⟨g, 0, none⟩ = some (.int .i64 q)) :
    Calls Try.prog 47 #[.agg #[.int .i64 xq, .int .i64 xi, .int .i64 xt], .pointer (some ⟨g, 0, none⟩)] w (Calm (.bool (xq == q)) w) := by
  have hlt := World.block_lt_of_cell? _ _ hr
  have HB := Lib.hid ((Below.refl w.heap.size w).alloc (Nat.le_refl _) (.cells #[.int .i64 xq, .int .i64 xi, .int .i64 xt] 38))
  unfold Calm
  go_enter Try.func47, Try.ntmps47
  go_wp2
  go_ret
  exact ⟨rfl, HB.out⟩
set_option maxRecDepth 100000 in
set_option maxHeartbeats 4000000 in
theorem snidx_any {l : List SnE} {T : Nat → Prop} {A : Option Addr} {n c g : Nat} {q : Int} {w : World} (hn : l.length ≤ 100000) (hnl : l.length = n) (h4 : LsG csN 3 38 w T (.slice A n c) l) (hg : w.cell? ⟨g, 0, none⟩ = some (.int .i64 q)) :
    Calls Try.prog 46 #[.slice A n c, .func (Fn.func 47) #[] #[.pointer (some ⟨g, 0, none⟩)]] w (Calm (.int .i64 (snAt l q)) w) := by
  have hgl := World.block_lt_of_cell? _ _ hg
  have HL := Lib.hid (fun k (hk : k < l.length) => h4.sn hk)
  have HCL := Lib.hid (fun xq xi xt (W : World) (hw : Below w.heap.size w W) => snclos_any xq xi xt q g W ((hw.cell (p := ⟨g, 0, none⟩) hgl).trans hg))
  have hcl := h4.shape
  have HNO := Lib.hid (fun (h : ∀ j (hj : j < l.length), l[j].q ≠ q) => (by unfold snAt; rw [snK_none h, if_neg (by omega)] : snAt l q = -1))
  have HYES := Lib.hid (fun k (hk : k < l.length) (h : l[k].q = q) (h2 : ∀ j (hj : j < l.length), j < k → l[j].q ≠ q) => (by unfold snAt; rw [snK_is hk h h2, if_pos hk] : snAt l q = k))
  have HNN := Lib.hid hnl
  have hnn : n ≤ 100000 := by omega
  generalize snAt l q = r at *
  clear h4 hg hcl hn hnl hgl
  unfold Calm at *
  go_enter Try.func46, Try.ntmps46
  go_wp2
  go_loopw [8] (fun s8 wr => ∃ k : Nat, k ≤ n ∧ s8 = .int .i64 k ∧ Hid (∀ j (hj : j < l.length), j < k → l[j].q ≠ q) ∧ Hid (Below w.heap.size w wr)) (fun s8 _ => n - (intOf s8).toNat)
  case atStart => exact ⟨0, Nat.zero_le _, rfl, Lib.hid (fun j _ hj => by omega), Lib.hid (Below.refl _ _)⟩
  case round =>
    obtain ⟨k, hk, rfl, HN, HB⟩ := hrel
    by_cases hlt : k < n
    · have hkl : k < l.length := by have := HNN.out; omega
      obtain ⟨b, off, c', e1, hlc, _, hbw, q0, q1, q2⟩ := HL.out k hkl
      obtain ⟨rfl, rfl⟩ : A = some ⟨b, off, none⟩ ∧ c = c' := by
        have := HNN.out
        rw [this] at e1
        simpa using e1
      have HN2 := Lib.hid (fun (h : l[k].q ≠ q) j (hj : j < l.length) (hjk : j < k + 1) => (by
        rcases Nat.lt_or_ge j k with h1 | h1
        · exact HN.out j hj h1
        · obtain rfl : j = k := by omega
          exact h : l[j].q ≠ q))
      have HY2 := Lib.hid (fun (h : l[k].q = q) => HYES.out k hkl h HN.out)
      have c0 := (HB.out.cell (p := ⟨b, off + k * 3, none⟩) hbw).trans q0
      have c1 := (HB.out.cell (p := ⟨b, off + k * 3 + 1, none⟩) hbw).trans q1
      have c2 := (HB.out.cell (p := ⟨b, off + k * 3 + 2, none⟩) hbw).trans q2
      generalize l[k] = x at *
      obtain ⟨xq, xi, xt⟩ := x
      simp only at HN2 HY2 c0 c1 c2
      have HC2 := Lib.hid (HCL.out xq xi xt wr HB.out)
      clear HL HNO HYES e1 q0 q1 q2 HNN hlc
      by_cases hq : xq = q
      · have hr := HY2.out hq
        have hgg : (xq == q) = true := by simpa using hq
        rw [hgg] at HC2
        subst hr
        clear HN2 HY2 hq hgg HCL
        go_wp2_with fail
        (with_reducible refine HC2.out.mono ?_); rintro e w2 ⟨rfl, hb2⟩
        have HB2 := Lib.hid (HB.out.trans (hb2.mono HB.out.size))
        clear hb2 c0 c1 c2 HC2
        go_wp2
        go_ret
        exact ⟨rfl, HB2.out⟩
      · have HN3 := Lib.hid (HN2.out hq)
        have hqq : (xq == q) = false := by simpa using hq
        rw [hqq] at HC2
        clear HN2 HY2 HN hqq
        go_wp2_with fail
        (with_reducible refine HC2.out.mono ?_); rintro e w2 ⟨rfl, hb2⟩
        have HB2 := Lib.hid (HB.out.trans (hb2.mono HB.out.size))
        clear hb2 c0 c1 c2 HC2
        go_wp2
        go_roundw
        case rel => exact ⟨k + 1, by omega, by go_num, HN3, HB2⟩
        case measure => simp [intOf]; omega
    · obtain rfl : k = n := by omega
      have hr := HNO.out (fun j hj => HN.out j hj (by have := HNN.out; omega))
      subst hr
      clear HL HNO HYES HN
      go_wp2
      go_ret
      exact ⟨rfl, HB.out⟩
set_option maxHeartbeats 4000000 in
theorem psfind_any {R : Nat} {s : SnS} {T : Nat → Prop} {w : World} (hn : s.l.length ≤ 100000) (h : SnP R s T w) (q : Int) : Calls Try.prog 37 #[.pointer (some ⟨R, 0, none⟩), .int .i64 q] w (Calm (.int .i64 (snAt s.l q)) w) := by
  have hb := (Below.refl w.heap.size w).alloc (Nat.le_refl _) (.cells #[.int .i64 q] 3)
  obtain ⟨h0, hR, vL, h3, h4⟩ := (h.later hb).open_
  have d3 := h3.read 3
  simp [snC] at d3
  obtain ⟨A, c, rfl, _⟩ := h4.shape
  have hc0 : (w.alloc (.cells #[.int .i64 q] 3)).cell? ⟨w.heap.size, 0, none⟩ = some (.int .i64 q) := ((Whole.fresh w 3 #[.int .i64 q]).read 0).trans rfl
  have HX := Lib.hid (snidx_any hn rfl h4 hc0)
  have HB := Lib.hid hb
  clear h h0 h3 h4 hb hc0 hR
  generalize snAt s.l q = r at *
  unfold Calm at *
  go_enter Try.func37, Try.ntmps37
  go_wp2_with fail
  (with_reducible refine HX.out.mono ?_); rintro e w2 ⟨rfl, hb2⟩
  have HB2 := Lib.hid (HB.out.trans (hb2.mono (by simp)))
  clear hb2 HX HB
  go_wp2
  go_ret
  exact ⟨rfl, HB2.out⟩
/-! ### isExhausted -/
set_option maxRecDepth 100000 in
set_option maxHeartbeats 4000000 in
theorem psexd_any {R : Nat} {s : SnS} {T : Nat → Prop} {w : World} (h : SnP R s T w) (x : SnE) : Calls Try.prog 33 #[.pointer (some ⟨R, 0, none⟩), .agg #[.int .i64 x.q, .int .i64 x.i, .int .i64 x.t]] w (Calm (.bool (x.t == s.t)) w) := by
  obtain ⟨xq, xi, xt⟩ := x
  simp only
  have hb0 := (Below.refl w.heap.size w).alloc (Nat.le_refl _) (.cells #[.int .i64 xq, .int .i64 xi, .int .i64 xt] 38)
  obtain ⟨h0, hR, vL, h3, h4⟩ := (h.later hb0).open_
  have d1 := h3.read 1
  have k2 : (w.alloc (.cells #[.int .i64 xq, .int .i64 xi, .int .i64 xt] 38)).cell? ⟨w.heap.size, 2, none⟩ = some (.int .i64 xt) := ((Whole.fresh w 38 #[.int .i64 xq, .int .i64 xi, .int .i64 xt]).read 2).trans rfl
  simp [snC] at d1
  have HC1 := Lib.hid (fun (W : World) (hw : Below (w.alloc (.cells #[.int .i64 xq, .int .i64 xi, .int .i64 xt] 38)).drew.heap.size (w.alloc (.cells #[.int .i64 xq, .int .i64 xi, .int .i64 xt] 38)).drew W) => (((Below.refl _ (w.alloc (.cells #[.int .i64 xq, .int .i64 xi, .int .i64 xt] 38))).drew.trans hw).cell (p := ⟨R, 1, none⟩) hR).trans d1)
  have HC2 := Lib.hid (fun (W : World) (hw : Below (w.alloc (.cells #[.int .i64 xq, .int .i64 xi, .int .i64 xt] 38)).drew.heap.size (w.alloc (.cells #[.int .i64 xq, .int .i64 xi, .int .i64 xt] 38)).drew W) => (((Below.refl _ (w.alloc (.cells #[.int .i64 xq, .int .i64 xi, .int .i64 xt] 38))).drew.trans hw).cell (p := ⟨w.heap.size, 2, none⟩) (by simp)).trans k2)
  have HB := Lib.hid hb0
  generalize s.t = tr at *
  obtain ⟨r, hr⟩ : ∃ r, (xt == tr) = r := ⟨_, rfl⟩
  rw [hr]
  clear h h0 h3 h4 hb0 d1 k2 hR
  unfold Calm
  go_enter Try.func33, Try.ntmps33
  go_wp2_with fail
  refine wp_region_looseS 12 (by kernel_rfl) (by kernel_rfl) (StB (w.alloc (.cells #[.int .i64 xq, .int .i64 xi, .int .i64 xt] 38)).drew (fun vI => [.pointer (some ⟨w.heap.size, 2, none⟩), .int .i64 xt, .pointer (some ⟨R, 0, none⟩), .pointer (some ⟨R, 0, none⟩), .pointer (some ⟨R, 1, none⟩), .int .i64 tr, .bool r, .bool r].getD vI undef)) rfl StB.start ?_ ?_
  · simp only [OblAllS]
    refine ⟨?_, ?_, ?_, ?_, ?_, ?_, ?_, ?_, trivial⟩
    · intro L wx vals hi hu hcl hC
      have HCx := Lib.hid hC
      clear hC hcl hu hi
      simp only [fillA, if_true, Act.put]
      simp
      go_wp2
      exact ⟨rfl, HCx.out.quiet 0 rfl⟩
    · intro L wx vals hi hu hcl hC
      simp [predL, predE, Region.binds, UpL] at hu
      have e0 : vals 0 = .pointer (some ⟨w.heap.size, 2, none⟩) := hC.v 0 (by simp [hu])
      have h0 := (HC2.out wx hC.b)
      have HCx := Lib.hid hC
      clear hC hcl hu hi
      simp only [fillA, if_true, Act.put]
      simp
      simp only [e0]
      clear e0
      go_wp2
      exact ⟨rfl, HCx.out.quiet 1 rfl⟩
    · intro L wx vals hi hu hcl hC
      have HCx := Lib.hid hC
      clear hC hcl hu hi
      simp only [fillA, if_true, Act.put]
      simp
      go_wp2
      exact ⟨rfl, HCx.out.quiet 2 rfl⟩
    · intro L wx vals hi hu hcl hC
      simp [predL, predE, Region.binds, UpL] at hu
      have e2 : vals 2 = .pointer (some ⟨R, 0, none⟩) := hC.v 2 (by simp [hu])
      have HCx := Lib.hid hC
      clear hC hcl hu hi
      simp only [fillA, if_true, Act.put]
      simp
      simp only [e2]
      clear e2
      go_wp2
      exact ⟨rfl, HCx.out.quiet 3 rfl⟩
    · intro L wx vals hi hu hcl hC
      simp [predL, predE, Region.binds, UpL] at hu
      have e3 : vals 3 = .pointer (some ⟨R, 0, none⟩) := hC.v 3 (by simp [hu])
      have HCx := Lib.hid hC
      clear hC hcl hu hi
      simp only [fillA, if_true, Act.put]
      simp
      simp only [e3]
      clear e3
      go_wp2
      exact ⟨rfl, HCx.out.quiet 4 rfl⟩
    · intro L wx vals hi hu hcl hC
      simp [predL, predE, Region.binds, UpL] at hu
      have e4 : vals 4 = .pointer (some ⟨R, 1, none⟩) := hC.v 4 (by simp [hu])
      have h1 := (HC1.out wx hC.b)
      have HCx := Lib.hid hC
      clear hC hcl hu hi
      simp only [fillA, if_true, Act.put]
      simp
      simp only [e4]
      clear e4
      go_wp2
      exact ⟨rfl, HCx.out.quiet 5 rfl⟩
    · intro L wx vals hi hu hcl hC
      simp [predL, predE, Region.binds, UpL] at hu
      have e1 : vals 1 = .int .i64 xt := hC.v 1 (by simp [hu])
      have e5 : vals 5 = .int .i64 tr := hC.v 5 (by simp [hu])
      have HCx := Lib.hid hC
      clear hC hcl hu hi
      simp only [fillA, if_true, Act.put]
      simp
      simp only [e1, e5]
      clear e1 e5
      go_wp2
      exact ⟨rfl, HCx.out.quiet 6 rfl⟩
    · intro L wx vals hi hu hcl hC
      simp [predL, predE, Region.binds, UpL] at hu
      have e6 : vals 6 = .bool r := hC.v 6 (by simp [hu])
      have HCx := Lib.hid hC
      clear hC hcl hu hi
      simp only [fillA, if_true, Act.put]
      simp
      simp only [e6]
      clear e6
      go_wp2
      exact ⟨rfl, HCx.out.quiet 7 rfl⟩
  · intro wz vals U hC hall
    have e7 : vals 7 = .bool r := hC.v 7 (hall 7 (by simp))
    have HF := Lib.hid (HB.out.trans (((Below.refl _ (w.alloc (.cells #[.int .i64 xq, .int .i64 xi, .int .i64 xt] 38))).drew.trans hC.b).mono (by simp)))
    simp only [fillA, if_true, Act.put]
    simp
    simp only [e7]
    clear hC hall e7 HC1 HC2 HB
    generalize vals 0 = t0 at *
    generalize vals 1 = t1 at *
    generalize vals 2 = t2 at *
    generalize vals 3 = t3 at *
    generalize vals 4 = t4 at *
    generalize vals 5 = t5 at *
    generalize vals 6 = t6 at *
    go_wp2
    go_ret
    exact ⟨rfl, HF.out⟩
/-! ### accepts -/
set_option maxHeartbeats 4000000 in
theorem psacc_any {R : Nat} {s : SnS} {T : Nat → Prop} {w : World} (h : SnP R s T w) (b : Int) : Calls Try.prog 34 #[.pointer (some ⟨R, 0, none⟩), .int .i64 b] w (Calm (.bool (snAkB s b)) w) := by
  have HP := Lib.hid (fun (W : World) (hw : Below w.heap.size w W) => psbase_any (h.later hw))
  obtain ⟨h0, hR, vL, h3, h4⟩ := h.open_
  have d2 := h3.read 2
  simp [snC] at d2
  have HD := Lib.hid (fun (W : World) (hw : Below w.heap.size w W) => (hw.cell (p := ⟨R, 2, none⟩) hR).trans d2)
  have hEq := h0.acc b
  rw [← hEq]
  have HF1 := Lib.hid (fun (W : World) => before_any (snBase s) b W)
  have HF2 := Lib.hid (fun (W : World) => before_any s.nx b W)
  clear h h0 hR h3 h4 d2 hEq
  generalize befB (snBase s) b = p1 at *
  generalize befB s.nx b = p2 at *
  generalize snBase s = ba at *
  generalize s.nx = nx at *
  unfold Calm at *
  obtain ⟨p0, hp0⟩ : ∃ p0, (b == ba) = p0 := ⟨_, rfl⟩
  rw [hp0]
  have K1 := Lib.hid (HP.out w (Below.refl _ _))
  cases p0
  · go_enter Try.func34, Try.ntmps34
    go_wp2_with fail
    (with_reducible refine K1.out.mono ?_); rintro e w1 ⟨rfl, hb1⟩
    have HB1 := Lib.hid hb1
    have K2 := Lib.hid (HP.out w1 hb1)
    clear hb1 K1
    go_wp2_with fail
    (with_reducible refine K2.out.mono ?_); rintro e w2 ⟨rfl, hb2⟩
    have HB2 := Lib.hid (HB1.out.trans (hb2.mono HB1.out.size))
    clear hb2 HB1 K2
    go_wp2_with fail
    (with_reducible refine (HF1.out w2).mono ?_); rintro e w3 ⟨rfl, rfl⟩
    have d2 := HD.out w2 HB2.out
    cases p1
    · clear HF1 HF2 HD HP
      go_wp2
      go_ret
      exact ⟨rfl, HB2.out⟩
    · clear HF1 HD HP
      go_wp2_with fail
      (with_reducible refine (HF2.out w2).mono ?_); rintro e w3 ⟨rfl, rfl⟩
      clear HF2
      go_wp2
      go_ret
      exact ⟨rfl, HB2.out⟩
  · go_enter Try.func34, Try.ntmps34
    go_wp2_with fail
    (with_reducible refine K1.out.mono ?_); rintro e w1 ⟨rfl, hb1⟩
    have HB1 := Lib.hid hb1
    have d2 := HD.out w1 hb1
    clear hb1 K1 HF1 HP HD
    go_wp2_with fail
    (with_reducible refine (HF2.out w1).mono ?_); rintro e w3 ⟨rfl, rfl⟩
    clear HF2
    go_wp2
    go_ret
    exact ⟨rfl, HB1.out⟩
end Go.Proofs.Ytglhaclehdkagaa

