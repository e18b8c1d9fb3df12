/-
  Elements of a slice, all their facts in one (Elt): appends of lists and of one element, copies, copies with one more; and (DvC) a region of any order that makes a new list out of an empty one by two appends of lists and stores it. No call and no type of the project is named.
-/
import Derived.Test.YtcnpmbgeafkmlaaLsG
import Derived.Test.YtcnpmbgeafkmlaaLoose
namespace Go.Proofs.Ytcnpmbgeafkmlaa
open Go.ChangeShapes Go.WideShapes Go.ChangeAt Go.RowKit
set_option linter.unusedVariables false

section
universe u
variable {α : Type u} {cs : α → List Value} {m : Nat} {t TY : TypeId} {w w' wa : World} {T T' : Nat → Prop} {v vL : Value} {l M N : List α}
/-- What is to be known of the elements: m cells each, of type t; TY is the slice's type. -/
structure Elt (cs : α → List Value) (m : Nat) (t TY : TypeId) : Prop where
  len : ∀ a, (cs a).length = m
  one : ∀ a, ∀ u ∈ cs a, u.oneCell' = true
  pos : 0 < m
  und : Try.prog.underlying TY = some (.slice t)
  inf : ∃ (z : Value) (bytes : Nat), z.cells.size = m ∧ bytes ≤ 1000 ∧ (Try.prog.info? t).map (fun i => (i.zero, i.size, i.bytes)) = some (some z, m, bytes)
theorem Elt.app_ls (E : Elt cs m t TY) {C n : Nat} (h : w.ownsRow C t m v n (srs cs l)) (hu : LsG cs m t w T vL M) (hnn : n ≤ 100000) (hm : M.length ≤ 100000) (hC : C ≤ w.heap.size) :
    ∃ A c w', (Builtin.append_ #[TY, TY] TY #[v, vL]).run Try.prog w = .ok (.slice A (n + M.length) c) w' ∧ w'.ownsRow C t m (.slice A (n + M.length) c) (n + M.length) (srs cs (l ++ M)) ∧ w.grownBy w' v.ownBlock := by
  obtain ⟨z, b, hz, hb, hi⟩ := E.inf
  obtain ⟨v', w', hrun, hv, hg⟩ := run_append_ls (P := Try.prog) TY TY E.len E.one E.pos hz hb E.und hi h hu hnn hm hC
  obtain ⟨A, c, rfl⟩ := ow_shape hv
  exact ⟨A, c, w', hrun, hv, hg⟩
/-- append of one element that stands in a block of its own. -/
theorem Elt.app_one (E : Elt cs m t TY) {C n g : Nat} {x : α} (h : w.ownsRow C t m v n (srs cs l)) (hx : Whole w g t (cs x).toArray) (hn : n ≤ 100000) (hC : C ≤ w.heap.size) :
    ∃ A c w', (Builtin.append_ #[TY, TY] TY #[v, .slice (some ⟨g, 0, none⟩) 1 1]).run Try.prog w = .ok (.slice A (n + 1) c) w' ∧ w'.ownsRow C t m (.slice A (n + 1) c) (n + 1) (srs cs (l ++ [x])) ∧ w.grownBy w' v.ownBlock := by
  obtain ⟨z, b, hz, hb, hi⟩ := E.inf
  have hcl : ∀ j u, (cs x)[j]? = some u → w.cell? ((⟨g, 0, none⟩ : Addr).add j) = some u := by
    intro j u hj
    rw [show ((⟨g, 0, none⟩ : Addr).add j) = ⟨g, j, none⟩ by rw [Addr.add_lit, Nat.zero_add], hx.read]
    simpa using hj
  obtain ⟨v', w', hrun, hv, hg, _⟩ := run_append_one (P := Try.prog) TY TY E.und hi hz E.pos h ⟨g, 0, none⟩ (E.len x) hcl (E.one x) hn hb hC
  rw [← srs_snoc] at hv
  obtain ⟨A, c, rfl⟩ := ow_shape hv
  exact ⟨A, c, w', hrun, hv, hg⟩
/-- The same where the element's block has just been made. -/
theorem Elt.app_new (E : Elt cs m t TY) {C n : Nat} (x : α) (h : w.ownsRow C t m v n (srs cs l)) (hn : n ≤ 100000) (hC : C ≤ w.heap.size) :
    ∃ A c w', (Builtin.append_ #[TY, TY] TY #[v, .slice (some ⟨w.heap.size, 0, none⟩) 1 1]).run Try.prog (w.alloc (.cells (cs x).toArray t)) = .ok (.slice A (n + 1) c) w' ∧ w'.ownsRow C t m (.slice A (n + 1) c) (n + 1) (srs cs (l ++ [x])) ∧ Below C w w' := by
  obtain ⟨A, c, w', hrun, hv, hg⟩ := E.app_one (h.alloc (.cells (cs x).toArray t)) (Whole.fresh w t _) hn (by simp; omega)
  refine ⟨A, c, w', hrun, hv, ?_⟩
  exact below_grew ((Below.refl C w).alloc hC (.cells (cs x).toArray t)) hC hg (fun k hk => row_own h k hk)
/-- The same with what has been left alone. -/
theorem Elt.app_new2 (E : Elt cs m t TY) {C n : Nat} (x : α) (h : w.ownsRow C t m v n (srs cs l)) (hn : n ≤ 100000) (hC : C ≤ w.heap.size) :
    ∃ A c w', (Builtin.append_ #[TY, TY] TY #[v, .slice (some ⟨w.heap.size, 0, none⟩) 1 1]).run Try.prog (w.alloc (.cells (cs x).toArray t)) = .ok (.slice A (n + 1) c) w' ∧ w'.ownsRow C t m (.slice A (n + 1) c) (n + 1) (srs cs (l ++ [x])) ∧ Below C w w' ∧
      ∀ k, k < w.heap.size → v.ownBlock ≠ some k → w'.heap[k]? = w.heap[k]? := by
  obtain ⟨A, c, w', hrun, hv, hg⟩ := E.app_one (h.alloc (.cells (cs x).toArray t)) (Whole.fresh w t _) hn (by simp; omega)
  refine ⟨A, c, w', hrun, hv, below_grew ((Below.refl C w).alloc hC (.cells (cs x).toArray t)) hC hg (fun k hk => row_own h k hk), fun k hk hne => ?_⟩
  exact (hg.block k (by simp; omega) (fun e => hne e.symm)).trans (Below.heap_alloc w _ k hk)
/-- Rows of other elements lie elsewhere. -/
theorem own_other {C C' m' n n' : Nat} {t' : TypeId} {v' : Value} {xs xs' : List Value} (h : w.ownsRow C t m v n xs) (h' : w.ownsRow C' t' m' v' n' xs') (hne : t ≠ t') {k : Nat} (e : v.ownBlock = some k) : v'.ownBlock ≠ some k := by
  intro e'
  obtain ⟨c1, h1⟩ := ow_type h e
  obtain ⟨c2, h2⟩ := ow_type h' e'
  rw [h1] at h2
  simp at h2
  exact hne h2.2
theorem own_beside2 {C C' m' n n' : Nat} {t' : TypeId} {v' : Value} {xs xs' : List Value} (h : w.ownsRow C t m v n xs) (h' : w.ownsRow C' t' m' v' n' xs') (hne : t ≠ t') (hk : ∀ k, k < w.heap.size → v.ownBlock ≠ some k → w'.heap[k]? = w.heap[k]?) : w'.ownsRow C' t' m' v' n' xs' :=
  owk h' fun k e => hk k (by obtain ⟨c, h2⟩ := ow_type h' e; exact lt_of_block h2) (fun e2 => own_other h h' hne e2 e)
/-- A row as a list of its own block. -/
theorem Elt.row_ls1 (E : Elt cs m t TY) {base n : Nat} (h : w.ownsRow base t m v n (srs cs l)) (hl : n = l.length) : LsG cs m t w (fun b => v.ownBlock = some b) v l := by
  have hE := E.len
  subst hl
  rcases h.2 with ⟨rfl, h0⟩ | ⟨g, cap, cur, rfl, k2, k3, k4, k5, k6, k7⟩
  · have e : l = [] := List.eq_nil_of_length_eq_zero h0
    subst e; exact LsG.nil w _
  · refine ⟨_, cap, rfl, k4, k5, .inr ⟨g, 0, cur, rfl, rfl, k3, fun i hi k hk => ?_⟩⟩
    rw [Nat.zero_add, h.cellAt (i * m + k) (idx_lt hi hk), srs_at hE l i k hi hk]
theorem own_lt {base n : Nat} {xs : List Value} (h : w.ownsRow base t m v n xs) {k : Nat} (e : v.ownBlock = some k) : base ≤ k ∧ k < w.heap.size := by
  obtain ⟨c, h2⟩ := ow_type h e
  exact ⟨row_own h k e, lt_of_block h2⟩
/-- append([]T{}, l...): a row of the call's own. -/
theorem Elt.copy (E : Elt cs m t TY) (hl : LsG cs m t wa T vL l) (hT : ∀ k, T k → k < wa.heap.size) (hn : l.length ≤ 100000) :
    ∃ A c w2, (Builtin.append_ #[TY, TY] TY #[.slice (some ⟨wa.heap.size, 0, none⟩) 0 0, vL]).run Try.prog (wa.alloc (.cells #[] t)) = .ok (.slice A l.length c) w2 ∧
      w2.ownsRow wa.heap.size t m (.slice A l.length c) l.length (srs cs l) ∧ Below wa.heap.size wa w2 := by
  have hb0 := (Below.refl wa.heap.size wa).alloc (Nat.le_refl _) (.cells #[] t)
  have hown := own_empty_ls (t := t) cs wa wa.heap.size (Nat.le_refl _) E.pos
  obtain ⟨A, c, w2, hrun, hv2, hg2⟩ := E.app_ls hown (hl.keep fun b hb => hb0.block b (hT b hb)) (by omega) hn (by simp)
  rw [List.nil_append, Nat.zero_add] at hv2
  rw [Nat.zero_add] at hrun
  exact ⟨A, c, w2, hrun, hv2, below_grew hb0 (Nat.le_refl _) hg2 (fun k hk => by simp [Value.ownBlock] at hk; omega)⟩
/-- append(append([]T{}, l...), x). -/
theorem Elt.copy_one (E : Elt cs m t TY) (hl : LsG cs m t wa T vL l) (hT : ∀ k, T k → k < wa.heap.size) (hn : l.length ≤ 99999) (x : α) :
    ∃ A2 c2 w2 A3 c3 w3, (Builtin.append_ #[TY, TY] TY #[.slice (some ⟨wa.heap.size, 0, none⟩) 0 0, vL]).run Try.prog (wa.alloc (.cells #[] t)) = .ok (.slice A2 l.length c2) w2 ∧
      (Builtin.append_ #[TY, TY] TY #[.slice A2 l.length c2, .slice (some ⟨w2.heap.size, 0, none⟩) 1 1]).run Try.prog (w2.alloc (.cells (cs x).toArray t)) = .ok (.slice A3 (l.length + 1) c3) w3 ∧
      w3.ownsRow wa.heap.size t m (.slice A3 (l.length + 1) c3) (l.length + 1) (srs cs (l ++ [x])) ∧ Below wa.heap.size wa w2 ∧ Below wa.heap.size wa w3 := by
  obtain ⟨A2, c2, w2, hrun, hv2, hb2⟩ := E.copy hl hT (by omega)
  obtain ⟨A3, c3, w3, hrun2, hv3, hb3⟩ := E.app_new x hv2 (by omega) hb2.size
  exact ⟨A2, c2, w2, A3, c3, w3, hrun, hrun2, hv3, hb2, hb2.trans (hb3.mono (Nat.le_refl _))⟩
/-- A row of the call's own as a list of the set 'from base on'. -/
theorem Elt.row_ls (E : Elt cs m t TY) {base n : Nat} (h : w.ownsRow base t m v n (srs cs l)) (hl : n = l.length) : LsG cs m t w (fun b => base ≤ b ∧ b < w.heap.size) v l := LsG.own E.len h hl fun b h1 h2 => ⟨h1, h2⟩
end
/-! ### (DvC) append(append([]T{}, l1...), l2...) and a store, in any order -/
structure Gd where
  g : Nat
  A1 : Option Addr
  c1 : Nat
  A2 : Option Addr
  c2 : Nat
structure Ix4 (e p q s : Nat) : Prop where
  ep : e ≠ p
  eq_ : e ≠ q
  es : e ≠ s
  pq : p ≠ q
  ps : p ≠ s
  qs : q ≠ s
section
universe u
variable {α : Type u} {cs : α → List Value} {m : Nat} {t TY : TypeId}
structure DvC (cs : α → List Value) (m : Nat) (t : TypeId) (wS : World) (R o : Nat) (M N : List α) (e p q s : Nat) (γ : Gd) (L : Nat → Bool) (w : World) : Prop where
  bel : L s = false → Below wS.heap.size wS w
  ee : L e = true → L p = false → L s = false → w.ownsRow wS.heap.size t m (.slice (some ⟨γ.g, 0, none⟩) 0 0) 0 (srs cs ([] : List α))
  pp : L p = true → L q = false → L s = false → w.ownsRow wS.heap.size t m (.slice γ.A1 M.length γ.c1) M.length (srs cs M)
  qq : L q = true → L s = false → w.ownsRow wS.heap.size t m (.slice γ.A2 (M.length + N.length) γ.c2) (M.length + N.length) (srs cs (M ++ N))
  ss : L s = true → ∃ u, Below wS.heap.size wS u ∧ u.ownsRow wS.heap.size t m (.slice γ.A2 (M.length + N.length) γ.c2) (M.length + N.length) (srs cs (M ++ N)) ∧ w = u.setCell ⟨R, o, none⟩ (.slice γ.A2 (M.length + N.length) γ.c2)
variable {wS w : World} {R o : Nat} {M N : List α} {e p q s : Nat} {γ : Gd} {L : Nat → Bool}
theorem DvC.start (hb : Below wS.heap.size wS w) (γ : Gd) : DvC cs m t wS R o M N e p q s γ (fun _ => false) w :=
  ⟨fun _ => hb, (fun h => by cases h), (fun h => by cases h), (fun h => by cases h), (fun h => by cases h)⟩
theorem DvC.quiet (h : DvC cs m t wS R o M N e p q s γ L w) {i : Nat} (h1 : e ≠ i) (h2 : p ≠ i) (h4 : q ≠ i) (h5 : s ≠ i) : DvC cs m t wS R o M N e p q s γ (setL L i) w :=
  ⟨by rw [setL_ne h5]; exact h.bel, by rw [setL_ne h1, setL_ne h2, setL_ne h5]; exact h.ee, by rw [setL_ne h2, setL_ne h4, setL_ne h5]; exact h.pp, by rw [setL_ne h4, setL_ne h5]; exact h.qq, by rw [setL_ne h5]; exact h.ss⟩
theorem DvC.mk_e (E : Elt cs m t TY) (I : Ix4 e p q s) (h : DvC cs m t wS R o M N e p q s γ L w) (hp : L p = false) (hq : L q = false) (hs : L s = false) : DvC cs m t wS R o M N e p q s { γ with g := w.heap.size } (setL L e) (w.alloc (.cells #[] t)) := by
  have hb := h.bel hs
  refine ⟨fun _ => hb.alloc hb.size _, fun _ _ _ => oww (own_empty_ls cs w w.heap.size (Nat.le_refl _) E.pos) hb.size, ?_, ?_, ?_⟩
  · rw [setL_ne I.ep.symm, hp]; intro k; cases k
  · rw [setL_ne I.eq_.symm, hq]; intro k; cases k
  · rw [setL_ne I.es.symm, hs]; intro k; cases k
theorem DvC.mk_p (E : Elt cs m t TY) (I : Ix4 e p q s) (h : DvC cs m t wS R o M N e p q s γ L w) (he : L e = true) (hp : L p = false) (hq : L q = false) (hs : L s = false) {T : Nat → Prop} {v : Value} (hv : LsG cs m t wS T v M) (hT : ∀ k, T k → k < wS.heap.size) (hm : M.length ≤ 100000) :
    ∃ A1 c1 w', (Builtin.append_ #[TY, TY] TY #[.slice (some ⟨γ.g, 0, none⟩) 0 0, v]).run Try.prog w = .ok (.slice A1 M.length c1) w' ∧ DvC cs m t wS R o M N e p q s { γ with A1 := A1, c1 := c1 } (setL L p) w' := by
  have hb := h.bel hs
  have hown := h.ee he hp hs
  obtain ⟨A1, c1, w2, hrun, hv2, hg2⟩ := E.app_ls hown (hv.keep fun b hb2 => hb.block b (hT b hb2)) (by omega) hm hb.size
  rw [List.nil_append, Nat.zero_add] at hv2
  rw [Nat.zero_add] at hrun
  have hb2 : Below wS.heap.size wS w2 := below_grew hb (Nat.le_refl _) hg2 (fun k hk => row_own hown k hk)
  refine ⟨A1, c1, w2, hrun, fun _ => hb2, ?_, fun _ _ _ => hv2, ?_, ?_⟩
  · rw [setL_at]; intro _ k; cases k
  · rw [setL_ne I.pq.symm, hq]; intro k; cases k
  · rw [setL_ne I.ps.symm, hs]; intro k; cases k
theorem DvC.mk_q (E : Elt cs m t TY) (I : Ix4 e p q s) (h : DvC cs m t wS R o M N e p q s γ L w) (hp : L p = true) (hq : L q = false) (hs : L s = false) {T : Nat → Prop} {v : Value} (hv : LsG cs m t wS T v N) (hT : ∀ k, T k → k < wS.heap.size) (hm : M.length ≤ 100000) (hn : N.length ≤ 100000) :
    ∃ A2 c2 w', (Builtin.append_ #[TY, TY] TY #[.slice γ.A1 M.length γ.c1, v]).run Try.prog w = .ok (.slice A2 (M.length + N.length) c2) w' ∧ DvC cs m t wS R o M N e p q s { γ with A2 := A2, c2 := c2 } (setL L q) w' := by
  have hb := h.bel hs
  have hown := h.pp hp hq hs
  obtain ⟨A2, c2, w2, hrun, hv2, hg2⟩ := E.app_ls hown (hv.keep fun b hb2 => hb.block b (hT b hb2)) hm hn hb.size
  have hb2 : Below wS.heap.size wS w2 := below_grew hb (Nat.le_refl _) hg2 (fun k hk => row_own hown k hk)
  refine ⟨A2, c2, w2, hrun, fun _ => hb2, ?_, ?_, fun _ _ => hv2, ?_⟩
  · rw [setL_ne I.eq_, setL_ne I.pq, setL_ne I.qs.symm, hp]; intro _ k; cases k
  · rw [setL_at]; intro _ k; cases k
  · rw [setL_ne I.qs.symm, hs]; intro k; cases k
theorem DvC.mk_s (h : DvC cs m t wS R o M N e p q s γ L w) (hq : L q = true) (hs : L s = false) : DvC cs m t wS R o M N e p q s γ (setL L s) (w.setCell ⟨R, o, none⟩ (.slice γ.A2 (M.length + N.length) γ.c2)) := by
  refine ⟨?_, ?_, ?_, ?_, fun _ => ⟨w, h.bel hs, h.qq hq hs, rfl⟩⟩
  · rw [setL_at]; intro k; cases k
  · rw [setL_at]; intro _ _ k; cases k
  · rw [setL_at]; intro _ _ k; cases k
  · rw [setL_at]; intro _ k; cases k
end
end Go.Proofs.Ytcnpmbgeafkmlaa

