/-
  A row of numbers of the call's own, beside the objects: one number of it is written (At.set). Any layer. No program is named.
-/
import Derived.Test.YtcnpmbgeafkmlaaIntL
import Derived.Laws.OwnMore
namespace Go.Proofs.Ytcnpmbgeafkmlaa
open Go.ChangeShapes Go.WideShapes Go.ChangeAt Go.RowKit
set_option linter.unusedVariables false

theorem At.set {T : Nat → Prop} {w w1 : World} {b0 base : Nat} {v : Value} {l : List Int} {P : RP} (h : At T w (Star (RowP csI 1 3 b0 v l) P) w1) (hP : Frm base P) (hbb : base ≤ b0) {i : Nat} (hi : i < l.length) (x : Int) :
    ∃ g c, v = .slice (some ⟨g, 0, none⟩) l.length c ∧ w1.cell? ⟨g, i, none⟩ = some (.int .i64 l[i]) ∧ w1.frozen? ⟨g, i, none⟩ = false ∧ g < w1.heap.size ∧ (∀ T1, P T1 w1 → True) ∧ At T w (Star (RowP csI 1 3 b0 v (l.set i x)) P) (w1.setCell ⟨g, i, none⟩ (.int .i64 x)) := by
  obtain ⟨T1, ⟨A1, B1, hT, hd, ⟨g1, g2⟩, hp⟩, h2, h3⟩ := h
  obtain ⟨g, c, rfl, _, hgw⟩ := ow_at g2 (by omega)
  have hA : A1 g := (g1 g).2 rfl
  have hc := World.ownsRow.cellAt g2 i (by omega)
  have hsr : (srs csI l)[i]? = some (.int .i64 l[i]) := by
    have := srs_at (cs := csI) (n := 1) (fun _ => rfl) l i 0 hi (by omega)
    rw [Nat.mul_one, Nat.add_zero] at this
    exact this
  have hst := World.ownsRow.stored g2 i (.int .i64 x)
  have hch : Chg A1 w1 (w1.setCell ⟨g, i, none⟩ (.int .i64 x)) := (Chg.refl A1 w1).setCell hA i _
  have hrow : (w1.setCell ⟨g, i, none⟩ (.int .i64 x)).ownsRow b0 3 1 (.slice (some ⟨g, 0, none⟩) l.length c) (l.set i x).length (srs csI (l.set i x)) := by
    have h9 := row_cell (cs := csI) (n := 1) (fun _ => rfl) g2 hi x (.int .i64 x) (k := 0) (by omega) rfl
    rw [Nat.mul_one, Nat.add_zero] at h9
    rw [List.length_set]; exact h9
  exact ⟨g, c, rfl, hc.trans hsr, World.ownsRow.frozenAt g2 i, hgw, fun _ _ => trivial, T1, ⟨A1, B1, hT, hd, ⟨g1, hrow⟩, hP.chg hp hch (fun k hk => Nat.le_trans hbb (own_lt g2 ((g1 k).1 hk)).1) (fun k hk1 hk2 => hd k hk2 hk1)⟩, h2, h3.join hch (fun k hk1 => h2 k ((hT k).2 (.inl hk1)))⟩
/-- One element more, where the objects' frame has a base (GenP's has). -/
theorem At.appB {α : Type} {cs : α → List Value} {m : Nat} {t TY : TypeId} {T : Nat → Prop} {w w1 : World} {v : Value} {l : List α} {P : RP} {base : Nat} (E : Elt cs m t TY) (h : At T w (Star (RowP cs m t w.heap.size v l) P) w1) (hP : Frm base P) (hbb : base ≤ w.heap.size) (hn : l.length ≤ 99999) (x : α) :
    ∃ A c w2, (Builtin.append_ #[TY, TY] TY #[v, .slice (some ⟨w1.heap.size, 0, none⟩) 1 1]).run Try.prog (w1.alloc (.cells (cs x).toArray t)) = .ok (.slice A (l.length + 1) c) w2 ∧ At T w (Star (RowP cs m t w.heap.size (.slice A (l.length + 1) c) (l ++ [x])) P) w2 := by
  obtain ⟨T1, ⟨A1, B1, hT, hd, ⟨g1, g2⟩, hp⟩, h2, h3⟩ := h
  obtain ⟨A, c, w2, hrun, hv, hb, hk, hwh⟩ := E.app_new3 x g2 (by omega) h3.size
  have hch : Chg A1 w1 w2 := ⟨hb.os, hb.tape, hb.output, hb.size, fun k hk1 hk2 => hk k hk1 (fun e => hk2 ((g1 k).2 e))⟩
  have hv' : w2.ownsRow w.heap.size t m (.slice A (l.length + 1) c) (l ++ [x]).length (srs cs (l ++ [x])) := by rw [List.length_append]; exact hv
  refine ⟨A, c, w2, hrun, fun k => (Value.slice A (l.length + 1) c).ownBlock = some k ∨ B1 k, ⟨fun k => (Value.slice A (l.length + 1) c).ownBlock = some k, B1, fun k => Iff.rfl, fun k e hb1 => ?_, ⟨fun k => Iff.rfl, hv'⟩, hP.chg hp hch (fun k hk => Nat.le_trans hbb (own_lt g2 ((g1 k).1 hk)).1) (fun k hk1 hk2 => hd k hk2 hk1)⟩, fun k hk1 => ?_, h3.join hch (fun k hk1 => h2 k ((hT k).2 (.inl hk1)))⟩
  · rcases hwh with e2 | ⟨g, e2, e3⟩
    · rw [e2] at e
      exact hd k ((g1 k).2 e) hb1
    · rw [e2] at e
      have h9 := hP.lt hp k hb1
      have : g = k := by simpa using e
      omega
  · rcases hk1 with e | hb1
    · exact .inr (own_lt hv e).1
    · exact h2 k ((hT k).2 (.inr hb1))
/-- A block that has just been made, known whole. -/
theorem At.box {T : Nat → Prop} {w w1 : World} {P : RP} {base : Nat} (h : At T w P w1) (hP : Frm base P) (t : TypeId) (cs : Array Value) : At T w (Star (BoxP w1.heap.size t cs) P) (w1.alloc (.cells cs t)) := by
  obtain ⟨T1, hp, h2, h3⟩ := h
  have hal := (Below.refl w1.heap.size w1).alloc (Nat.le_refl _) (.cells cs t)
  refine ⟨fun k => k = w1.heap.size ∨ T1 k, ⟨fun k => k = w1.heap.size, T1, fun k => Iff.rfl, fun k hk ht => by have := hP.lt hp k ht; omega, ⟨fun k => Iff.rfl, Whole.fresh w1 t cs⟩, hP.chg (S := fun _ => False) hp (Chg.of_below hal) (fun _ h => h.elim) (fun _ _ h => h)⟩, fun k hk => ?_, h3.alloc _⟩
  rcases hk with h | h
  · exact .inr (by rw [h]; exact h3.size)
  · exact h2 k h
theorem At.boxed {T : Nat → Prop} {w w1 : World} {P : RP} {g : Nat} {t : TypeId} {cs : Array Value} (h : At T w (Star (BoxP g t cs) P) w1) : Whole w1 g t cs := by
  obtain ⟨T1, hb⟩ := At.getL h; exact hb.2
/-- A literal's number at a drawn place. -/
theorem lit_at {w : World} {g : Nat} {t : TypeId} {L : List Int} (h : Whole w g t (L.map (Value.int .i64)).toArray) {m : Nat} (hm : m < L.length) : w.cell? ⟨g, m, none⟩ = some (.int .i64 L[m]) := by
  rw [h.read, List.getElem?_toArray, List.getElem?_map, List.getElem?_eq_getElem hm]; rfl
end Go.Proofs.Ytcnpmbgeafkmlaa

