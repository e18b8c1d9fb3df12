/-
  Layer 11: contracts of the reference's ValidPacket, Pop, Expire.
-/
import Derived.Test.YtijdfkdfojiffaaQuRef
namespace Go.Proofs.Ytijdfkdfojiffaa
open Go.ChangeShapes Go.WideShapes Go.ChangeAt Go.RowKit
set_option linter.unusedVariables false

/-- The ways a packet is no valid one, and the two ways it is. -/
theorem pk_bad {i f l a d : Int} (h : ¬ (1 ≤ i ∧ 0 ≤ f ∧ f < 32 ∧ 1 ≤ l ∧ l ≤ 4096 ∧ 0 ≤ a ∧ a ≤ 16384 ∧ (d = -1 ∨ (a ≤ d ∧ d ≤ 81919)))) : pkOk ⟨i, f, l, a, d⟩ = false := by
  unfold pkOk
  apply eq_false_of_ne_true
  simp only [Bool.and_eq_true, Bool.or_eq_true, decide_eq_true_eq]
  intro h2; apply h
  obtain ⟨⟨⟨⟨q1, q2, q3⟩, q4, q5⟩, q6, q7⟩, q8⟩ := h2
  exact ⟨q1, q2, q3, q4, q5, q6, q7, q8⟩
theorem pk_good {i f l a d : Int} (h : 1 ≤ i ∧ 0 ≤ f ∧ f < 32 ∧ 1 ≤ l ∧ l ≤ 4096 ∧ 0 ≤ a ∧ a ≤ 16384 ∧ (d = -1 ∨ (a ≤ d ∧ d ≤ 81919))) : pkOk ⟨i, f, l, a, d⟩ = true := by
  unfold pkOk
  simp only [Bool.and_eq_true, Bool.or_eq_true, decide_eq_true_eq]
  obtain ⟨q1, q2, q3, q4, q5, q6, q7, q8⟩ := h
  exact ⟨⟨⟨⟨q1, q2, q3⟩, q4, q5⟩, q6, q7⟩, q8⟩
set_option maxRecDepth 100000 in
set_option maxHeartbeats 4000000 in
theorem rvalid_any (p : Pk) (w : World) : Calls Try.prog 22 #[aggP p] w fun e w' => e = .returned (.bool (pkOk p)) ∧ Below w.heap.size w w' := by
  obtain ⟨i, f, l, a, d⟩ := p
  unfold aggP
  simp only []
  have HF := Lib.hid ((Below.refl w.heap.size w).alloc (Nat.le_refl _) (.cells #[.int .i64 i, .int .i64 f, .int .i64 l, .int .i64 a, .int .i64 d] 40))
  by_cases h1 : 1 ≤ i
  rotate_left 1
  · rw [pk_bad (by omega)]
    go_enter Try.func22, Try.ntmps22
    go_wp2
    go_ret
    exact ⟨rfl, HF.out⟩
  by_cases h2 : 0 ≤ f
  rotate_left 1
  · rw [pk_bad (by omega)]
    go_enter Try.func22, Try.ntmps22
    go_wp2
    go_ret
    exact ⟨rfl, HF.out⟩
  by_cases h3 : f < 32
  rotate_left 1
  · rw [pk_bad (by omega)]
    go_enter Try.func22, Try.ntmps22
    go_wp2
    go_ret
    exact ⟨rfl, HF.out⟩
  by_cases h4 : 1 ≤ l
  rotate_left 1
  · rw [pk_bad (by omega)]
    go_enter Try.func22, Try.ntmps22
    go_wp2
    go_ret
    exact ⟨rfl, HF.out⟩
  by_cases h5 : l ≤ 4096
  rotate_left 1
  · rw [pk_bad (by omega)]
    go_enter Try.func22, Try.ntmps22
    go_wp2
    go_ret
    exact ⟨rfl, HF.out⟩
  by_cases h6 : 0 ≤ a
  rotate_left 1
  · rw [pk_bad (by omega)]
    go_enter Try.func22, Try.ntmps22
    go_wp2
    go_ret
    exact ⟨rfl, HF.out⟩
  by_cases h7 : a ≤ 16384
  rotate_left 1
  · rw [pk_bad (by omega)]
    go_enter Try.func22, Try.ntmps22
    go_wp2
    go_ret
    exact ⟨rfl, HF.out⟩
  by_cases h8 : d = -1
  · rw [pk_good (by omega)]
    subst h8
    go_enter Try.func22, Try.ntmps22
    go_wp2
    go_ret
    exact ⟨rfl, HF.out⟩
  have hb8 : (d == -1) = false := by simpa using h8
  by_cases h9 : a ≤ d
  rotate_left 1
  · rw [pk_bad (by omega)]
    go_enter Try.func22, Try.ntmps22
    go_wp2
    go_ret
    exact ⟨rfl, HF.out⟩
  by_cases h10 : d ≤ 81919
  · rw [pk_good (by omega)]
    go_enter Try.func22, Try.ntmps22
    go_wp2
    go_ret
    exact ⟨rfl, HF.out⟩
  · rw [pk_bad (by omega)]
    go_enter Try.func22, Try.ntmps22
    go_wp2
    go_ret
    exact ⟨rfl, HF.out⟩
set_option maxRecDepth 100000 in
theorem rqpop_no {C R : Nat} {S : Nat → Prop} {q : Qu} {w : World} (h : RQO C R S q w) (hn : q.L = []) :
    Calls Try.prog 34 #[.pointer (some ⟨R, 0, none⟩)] w (RQAns C R S q (.tuple #[aggP pk0, .int .i64 5]) w) := by
  have hb1 := (Below.refl w.heap.size w).alloc (Nat.le_refl _) (.cells #[.int .i64 0, .int .i64 0, .int .i64 0, .int .i64 0, .int .i64 0] 40)
  have HF := Lib.hid (RQAns.stay (x := .tuple #[aggP pk0, .int .i64 5]) h hb1)
  obtain ⟨h0, ⟨A, c, h1, h2⟩, h3⟩ := h.below hb1
  obtain ⟨c0, c1, c2, cf⟩ := h1.cells
  rw [hn] at c2
  clear h h0 h1 h2 h3 c0 c1 cf hb1 hn
  go_enter Try.func34, Try.ntmps34
  go_wp2
  exact bodyPost_ret (v := .tuple #[.agg #[.int .i64 0, .int .i64 0, .int .i64 0, .int .i64 0, .int .i64 0], .int .i64 5]) (by simp [results, Try.results34, go_sem]) rfl HF.out
theorem RQO.popped {C R : Nat} {S : Nat → Prop} {q : Qu} {w : World} (h : RQO C R S q w) {A' : Option Addr} {c' n : Nat} (hrow : SrAt csP 5 w (R + 1) w.heap.size A' q.L.tail) (hn : n = q.L.tail.length) (hfit : n ≤ c')
    (hold : ∀ k, rqfoot R A' q.L.tail k → S k) (x : Value) (o1 o2 : Obj) : RQAns C R S (qpT q) x w (.returned x) (((w.setCell ⟨R, 2, none⟩ (.slice A' n c')).alloc o1).alloc o2) := by
  subst hn
  obtain ⟨A, c, h1, h2⟩ := h.2.1
  obtain ⟨S', hO, hT⟩ := h.turn h.1.pop (Below.refl _ w) (w2 := w.setCell ⟨R, 2, none⟩ (.slice A' q.L.tail.length c')) (A' := A') (c' := c') (by simp [World.setCell]) (fun k hk => Below.heap_setCell _ ⟨R, 2, none⟩ _ k hk) rfl rfl rfl (by
    rw [heap_setCell_same w R 2 _ _ _ h1.blk]; rfl) hrow hfit (fun k hk => .inl (hold k hk))
  have hb := ((Below.refl (w.setCell ⟨R, 2, none⟩ (.slice A' q.L.tail.length c')).heap.size (w.setCell ⟨R, 2, none⟩ (.slice A' q.L.tail.length c'))).alloc (Nat.le_refl _) o1).alloc (by simp) o2
  exact ⟨rfl, S', hO.below hb, hT.1.trans (Chg.of_below hb), hT.2⟩
set_option maxRecDepth 100000 in
theorem rqpop_yes {C R : Nat} {S : Nat → Prop} {q : Qu} {w : World} (h : RQO C R S q w) {p : Pk} {T : List Pk} (hn : q.L = p :: T) :
    Calls Try.prog 34 #[.pointer (some ⟨R, 0, none⟩)] w (RQAns C R S (qpT q) (.tuple #[aggP p, .int .i64 0]) w) := by
  have hb1 := (Below.refl w.heap.size w).alloc (Nat.le_refl _) (.cells #[.int .i64 0, .int .i64 0, .int .i64 0, .int .i64 0, .int .i64 0] 40)
  have hR := h.lo
  obtain ⟨A0, c0', k1, k2⟩ := h.2.1
  obtain ⟨h0, ⟨A, c, h1, h2⟩, h3⟩ := h.below hb1
  obtain ⟨c0, c1, c2, cf⟩ := h1.cells
  have hsame : A0 = A ∧ c0' = c := by
    have := k1.cells.2.2.1
    rw [← hb1.cell (p := ⟨R, 2, none⟩) hR.2, c2] at this
    simp at this; exact ⟨this.1.symm, this.2.symm⟩
  obtain ⟨rfl, rfl⟩ := hsame
  have f2 := cf 2
  have hfit := h1.fit
  obtain ⟨b, off, rfl, hb0, hb2, e0, e1, e2, e3, e4⟩ := h1.row.pk (k := 0) (by rw [hn]; simp)
  simp only [hn, List.getElem_cons_zero] at e0 e1 e2 e3 e4
  rw [hn, List.length_cons] at c2 hfit
  rw [Nat.zero_mul, Nat.add_zero] at e0 e1 e2 e3 e4
  obtain ⟨i, f, l, a, d⟩ := p
  simp only at e0 e1 e2 e3 e4
  have hT : q.L.tail = T := by rw [hn]; rfl
  by_cases hc : c0' = 1
  · subst hc
    have hT0 : T = [] := List.eq_nil_of_length_eq_zero (by omega)
    have HF := Lib.hid (h.popped (A' := some ⟨b, off, none⟩) (c' := 0) (n := 0) (SrAt.none_left (by rw [hn, hT0]; simp)) (by rw [hT, hT0]; rfl) (Nat.le_refl _) (by
      rintro k (e | ⟨e, _⟩)
      · exact h2 k (.inl e)
      · rw [hT, hT0] at e; exact absurd rfl e) (.tuple #[aggP ⟨i, f, l, a, d⟩, .int .i64 0]) (.cells #[.int .i64 i, .int .i64 f, .int .i64 l, .int .i64 a, .int .i64 d] 40) (.cells #[.int .i64 i, .int .i64 f, .int .i64 l, .int .i64 a, .int .i64 d] 40))
    clear h h0 h1 h2 h3 c0 c1 cf hb1 k1 k2 hT hT0 hn
    go_enter Try.func34, Try.ntmps34
    go_wp2
    exact bodyPost_ret (v := .tuple #[.agg #[.int .i64 i, .int .i64 f, .int .i64 l, .int .i64 a, .int .i64 d], .int .i64 0]) (by simp [results, Try.results34, go_sem]) rfl HF.out
  · have HF := Lib.hid (h.popped (A' := some ⟨b, off + 5, none⟩) (c' := c0' - 1) (n := T.length) k1.row.rest (by rw [hT]) (by omega) (by
      rintro k (e | ⟨e, o, f', e'⟩)
      · exact h2 k (.inl e)
      · obtain ⟨rfl, _⟩ : b = k ∧ _ := by simpa using e'
        exact h2 b (.inr ⟨by rw [hn]; simp, off, none, rfl⟩)) (.tuple #[aggP ⟨i, f, l, a, d⟩, .int .i64 0]) (.cells #[.int .i64 i, .int .i64 f, .int .i64 l, .int .i64 a, .int .i64 d] 40) (.cells #[.int .i64 i, .int .i64 f, .int .i64 l, .int .i64 a, .int .i64 d] 40))
    clear h h0 h1 h2 h3 c0 c1 cf hb1 k1 k2 hT hn
    go_enter Try.func34, Try.ntmps34
    go_wp2
    exact bodyPost_ret (v := .tuple #[.agg #[.int .i64 i, .int .i64 f, .int .i64 l, .int .i64 a, .int .i64 d], .int .i64 0]) (by simp [results, Try.results34, go_sem]) rfl HF.out
end Go.Proofs.Ytijdfkdfojiffaa

