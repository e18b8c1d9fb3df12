/-
  Layer 13: a region of any order that makes a new list out of an empty one by two appends and stores it in the reference's struct: the state by what has come up. No call is walked here.
-/
import Derived.Test.YtkfhjpgapmfiaaaRfRef
import Derived.Test.YtkfhjpgapmfiaaaLoose
namespace Go.Proofs.Ytkfhjpgapmfiaaa
open Go.ChangeShapes Go.WideShapes Go.ChangeAt Go.RowKit
set_option linter.unusedVariables false

/-- Where the empty list lies, the first append's slice, where the literal lies, the second append's slice. -/
structure Gl where
  g : Nat
  A1 : Option Addr
  c1 : Nat
  x : Nat
  A2 : Option Addr
  c2 : Nat
/-- The places of the empty list, the first append, the literal (if any), the second append, the store. -/
structure Ix (e p x q s : Nat) : Prop where
  ep : e ≠ p
  ex : e ≠ x
  eq_ : e ≠ q
  es : e ≠ s
  px : p ≠ x
  pq : p ≠ q
  ps : p ≠ s
  xq : x ≠ q
  xs : x ≠ s
  qs : q ≠ s
structure LvC (wS : World) (R o : Nat) (M N : List Tg) (t : Tg) (e p x q s : Nat) (γ : Gl) (L : Nat → Bool) (w : World) : Prop where
  bel : L s = false → Below wS.heap.size wS w
  ee : L e = true → L p = false → L s = false → γ.g < w.heap.size ∧ w.ownsRow wS.heap.size 52 3 (.slice (some ⟨γ.g, 0, none⟩) 0 0) 0 (srs csT [])
  pp : L p = true → L q = false → L s = false → w.ownsRow wS.heap.size 52 3 (.slice γ.A1 M.length γ.c1) M.length (srs csT M)
  xx : L x = true → L q = false → L s = false → Whole w γ.x 52 (csT t).toArray ∧ (L e = true → L p = false → γ.x ≠ γ.g)
  qq : L q = true → L s = false → w.ownsRow wS.heap.size 52 3 (.slice γ.A2 (M.length + N.length) γ.c2) (M.length + N.length) (srs csT (M ++ N))
  ss : L s = true → ∃ u, Below wS.heap.size wS u ∧ u.ownsRow wS.heap.size 52 3 (.slice γ.A2 (M.length + N.length) γ.c2) (M.length + N.length) (srs csT (M ++ N)) ∧ w = u.setCell ⟨R, o, none⟩ (.slice γ.A2 (M.length + N.length) γ.c2)
section
variable {wS w : World} {R o : Nat} {M N : List Tg} {t : Tg} {e p x q s : Nat} {γ : Gl} {L : Nat → Bool}
theorem LvC.start (hb : Below wS.heap.size wS w) (γ : Gl) : LvC wS R o M N t e p x q s γ (fun _ => false) w :=
  ⟨fun _ => hb, (fun h => by cases h), (fun h => by cases h), (fun h => by cases h), (fun h => by cases h), (fun h => by cases h)⟩
theorem LvC.quiet (h : LvC wS R o M N t e p x q s γ L w) {i : Nat} (h1 : e ≠ i) (h2 : p ≠ i) (h3 : x ≠ i) (h4 : q ≠ i) (h5 : s ≠ i) : LvC wS R o M N t e p x q s γ (setL L i) w :=
  ⟨by rw [setL_ne h5]; exact h.bel, by rw [setL_ne h1, setL_ne h2, setL_ne h5]; exact h.ee, by rw [setL_ne h2, setL_ne h4, setL_ne h5]; exact h.pp, by rw [setL_ne h3, setL_ne h4, setL_ne h5, setL_ne h1, setL_ne h2]; exact h.xx, by rw [setL_ne h4, setL_ne h5]; exact h.qq, by rw [setL_ne h5]; exact h.ss⟩
theorem LvC.mk_e (I : Ix e p x q s) (h : LvC wS R o M N t e p x q s γ L w) (hp : L p = false) (hq : L q = false) (hs : L s = false) : LvC wS R o M N t e p x q s { γ with g := w.heap.size } (setL L e) (w.alloc (.cells #[] 52)) := by
  have hb := h.bel hs
  refine ⟨fun _ => hb.alloc hb.size _, fun _ _ _ => ⟨by simp, oww (own_empty w w.heap.size (Nat.le_refl _)) hb.size⟩, ?_, ?_, ?_, ?_⟩
  · rw [setL_ne I.ep.symm, hp]; intro k; cases k
  · rw [setL_ne I.ex.symm, setL_ne I.eq_.symm, setL_ne I.es.symm]
    intro k1 k2 k3
    have hx := (h.xx k1 k2 k3).1
    exact ⟨hx.alloc _, fun _ _ => by have := hx.size_lt; simp only; omega⟩
  · rw [setL_ne I.eq_.symm, hq]; intro k; cases k
  · rw [setL_ne I.es.symm, hs]; intro k; cases k
theorem LvC.mk_p (I : Ix e p x q s) (h : LvC wS R o M N t e p x q s γ L w) (he : L e = true) (hp : L p = false) (hq : L q = false) (hs : L s = false) {T : Nat → Prop} {v : Value} (hv : LsV wS T v M) (hT : ∀ k, T k → k < wS.heap.size) (hm : M.length ≤ 100000) :
    ∃ A1 c1 w', (Builtin.append_ #[49, 49] 49 #[.slice (some ⟨γ.g, 0, none⟩) 0 0, v]).run Try.prog w = .ok (.slice A1 M.length c1) w' ∧ LvC wS R o M N t e p x q s { γ with A1 := A1, c1 := c1 } (setL L p) w' := by
  have hb := h.bel hs
  obtain ⟨hg, hown⟩ := h.ee he hp hs
  obtain ⟨v2, w2, hrun, hv2, hg2⟩ := run_append_list (P := Try.prog) 49 49 Try.underlying49 info_tg hown (hv.keep fun b hb2 => hb.block b (hT b hb2)) (by omega) hm hb.size
  rw [List.nil_append, Nat.zero_add] at hv2
  obtain ⟨A1, c1, rfl⟩ := ow_shape hv2
  have hb2 : Below wS.heap.size wS w2 := below_grew hb (Nat.le_refl _) hg2 (fun k hk => row_own hown k hk)
  refine ⟨A1, c1, w2, hrun, fun _ => hb2, ?_, fun _ _ _ => hv2, ?_, ?_, ?_⟩
  · rw [setL_at]; intro _ k; cases k
  · rw [setL_ne I.px.symm, setL_ne I.pq.symm, setL_ne I.ps.symm, setL_at]
    intro k1 k2 k3
    obtain ⟨hx, hx2⟩ := h.xx k1 k2 k3
    exact ⟨hx.carry (hg2.block _ hx.size_lt (fun e => by simp [Value.ownBlock] at e; exact hx2 he hp e)), fun _ k => by cases k⟩
  · rw [setL_ne I.pq.symm, hq]; intro k; cases k
  · rw [setL_ne I.ps.symm, hs]; intro k; cases k
theorem LvC.mk_x (I : Ix e p x q s) (h : LvC wS R o M N t e p x q s γ L w) (hq : L q = false) (hs : L s = false) : LvC wS R o M N t e p x q s { γ with x := w.heap.size } (setL L x) (w.alloc (.cells (csT t).toArray 52)) := by
  have hb := h.bel hs
  refine ⟨fun _ => hb.alloc hb.size _, ?_, ?_, ?_, ?_, ?_⟩
  · rw [setL_ne I.ex, setL_ne I.px, setL_ne I.xs.symm]
    intro k1 k2 k3
    obtain ⟨h1, h2⟩ := h.ee k1 k2 k3
    exact ⟨by simp; omega, h2.alloc _⟩
  · rw [setL_ne I.px, setL_ne I.xq.symm, setL_ne I.xs.symm]
    intro k1 k2 k3
    exact (h.pp k1 k2 k3).alloc _
  · rw [setL_ne I.ex, setL_ne I.px]
    intro _ _ _
    refine ⟨Whole.fresh w _ _, fun k1 k2 => ?_⟩
    have := (h.ee k1 k2 hs).1
    simp only; omega
  · rw [setL_ne I.xq.symm, hq]; intro k; cases k
  · rw [setL_ne I.xs.symm, hs]; intro k; cases k
theorem LvC.q_of (I : Ix e p x q s) (h : LvC wS R o M N t e p x q s γ L w) (hq : L q = false) (hs : L s = false) (hp : L p = true) {A2 : Option Addr} {c2 : Nat} {w' : World} (hv : w'.ownsRow wS.heap.size 52 3 (.slice A2 (M.length + N.length) c2) (M.length + N.length) (srs csT (M ++ N)))
    (hg : w.grownBy w' (Value.slice γ.A1 M.length γ.c1).ownBlock) : LvC wS R o M N t e p x q s { γ with A2 := A2, c2 := c2 } (setL L q) w' := by
  have hb := h.bel hs
  have hown := h.pp hp hq hs
  have hb2 : Below wS.heap.size wS w' := below_grew hb (Nat.le_refl _) hg (fun k hk => row_own hown k hk)
  refine ⟨fun _ => hb2, ?_, ?_, ?_, fun _ _ => hv, ?_⟩
  · rw [setL_ne I.eq_, setL_ne I.pq, setL_ne I.qs.symm, hp]; intro _ k; cases k
  · rw [setL_at]; intro _ k; cases k
  · rw [setL_at]; intro _ k; cases k
  · rw [setL_ne I.qs.symm, hs]; intro k; cases k
/-- The second append: of a literal. -/
theorem LvC.mk_q (I : Ix e p x q s) (h : LvC wS R o M [t] t e p x q s γ L w) (hp : L p = true) (hx : L x = true) (hq : L q = false) (hs : L s = false) (hm : M.length ≤ 100000) :
    ∃ A2 c2 w', (Builtin.append_ #[49, 49] 49 #[.slice γ.A1 M.length γ.c1, .slice (some ⟨γ.x, 0, none⟩) 1 1]).run Try.prog w = .ok (.slice A2 (M.length + 1) c2) w' ∧ LvC wS R o M [t] t e p x q s { γ with A2 := A2, c2 := c2 } (setL L q) w' := by
  have hown := h.pp hp hq hs
  obtain ⟨hxx, _⟩ := h.xx hx hq hs
  obtain ⟨v2, w2, hrun, hv2, hg2, _⟩ := run_append_one (P := Try.prog) 49 49 Try.underlying49 info_tg rfl (by decide) hown ⟨γ.x, 0, none⟩ (csT_len t) hxx.cells_ (csT_one _) hm (by decide) (h.bel hs).size
  rw [← srs_snoc] at hv2
  obtain ⟨A2, c2, rfl⟩ := ow_shape hv2
  exact ⟨A2, c2, w2, hrun, h.q_of I hq hs hp hv2 hg2⟩
/-- The second append: of a list. -/
theorem LvC.mk_ql (I : Ix e p x q s) (h : LvC wS R o M N t e p x q s γ L w) (hp : L p = true) (hq : L q = false) (hs : L s = false) {T : Nat → Prop} {v : Value} (hv : LsV wS T v N) (hT : ∀ k, T k → k < wS.heap.size) (hm : M.length ≤ 100000) (hn : N.length ≤ 100000) :
    ∃ A2 c2 w', (Builtin.append_ #[49, 49] 49 #[.slice γ.A1 M.length γ.c1, v]).run Try.prog w = .ok (.slice A2 (M.length + N.length) c2) w' ∧ LvC wS R o M N t e p x q s { γ with A2 := A2, c2 := c2 } (setL L q) w' := by
  have hb := h.bel hs
  have hown := h.pp hp hq hs
  obtain ⟨v2, w2, hrun, hv2, hg2⟩ := run_append_list (P := Try.prog) 49 49 Try.underlying49 info_tg hown (hv.keep fun b hb2 => hb.block b (hT b hb2)) hm hn hb.size
  obtain ⟨A2, c2, rfl⟩ := ow_shape hv2
  exact ⟨A2, c2, w2, hrun, h.q_of I hq hs hp hv2 hg2⟩
theorem LvC.mk_s (I : Ix e p x q s) (h : LvC wS R o M N t e p x q s γ L w) (hq : L q = true) (hs : L s = false) : LvC wS R o M N t e p x q s γ (setL L s) (w.setCell ⟨R, o, none⟩ (.slice γ.A2 (M.length + N.length) γ.c2)) := by
  refine ⟨?_, ?_, ?_, ?_, ?_, fun _ => ⟨w, h.bel hs, h.qq hq hs, rfl⟩⟩
  · rw [setL_at]; intro k; cases k
  · rw [setL_at]; intro _ _ k; cases k
  · rw [setL_at]; intro _ _ k; cases k
  · rw [setL_at]; intro _ _ k; cases k
  · rw [setL_at]; intro _ k; cases k
end
end Go.Proofs.Ytkfhjpgapmfiaaa

