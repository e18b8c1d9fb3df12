/-
  Walks of functions that are themselves contracts (Acts): what has become of the blocks since the call began (At); rows of the call's own that grow beside the objects (RowP). No program's object is named.
-/
import Derived.Test.YtcnpmbgeafkmlaaLsP
namespace Go.Proofs.Ytcnpmbgeafkmlaa
open Go.ChangeShapes Go.WideShapes Go.ChangeAt Go.RowKit
set_option linter.unusedVariables false

/-- Since w no blocks have turned but T's; P speaks of T's blocks and of new ones. -/
def At (T : Nat → Prop) (w : World) (P : RP) (w' : World) : Prop := ∃ T', P T' w' ∧ (∀ k, T' k → T k ∨ w.heap.size ≤ k) ∧ Chg T w w'
section
variable {f : FuncId} {args : Array Value} {base : Nat} {P P' Q R : RP} {ι : Type} {val : ι → Value} {G : ι → RP} {w w1 w2 : World} {x : Value} {T : Nat → Prop}
theorem At.start (hp : P T w) : At T w P w := ⟨T, hp, fun k hk => .inl hk, Chg.refl _ _⟩
theorem At.size (h : At T w P w1) : w.heap.size ≤ w1.heap.size := by obtain ⟨_, _, _, hc⟩ := h; exact hc.size
theorem At.call (h : At T w P w1) (hb : ∀ k, T k → base ≤ k) (hs : base ≤ w.heap.size) (hc : Acts f args base P val G) : Calls Try.prog f args w1 fun e w2 => ∃ i, e = .returned (val i) ∧ At T w (G i) w2 := by
  obtain ⟨T1, hp, hT1, hch⟩ := h
  refine (hc T1 w1 hp (fun k hk => (hT1 k hk).elim (hb k) (fun h => by omega)) (Nat.le_trans hs hch.size)).mono ?_
  rintro e w2 ⟨i, e1, ⟨T2, hq, hT2⟩, hch2⟩
  refine ⟨i, e1, T2, hq, fun k hk => ?_, hch.join hch2 hT1⟩
  rcases hT2 k hk with h | h
  · exact hT1 k h
  · exact .inr (Nat.le_trans hch.size h)
theorem At.call1 {G : Unit → RP} (h : At T w P w1) (hb : ∀ k, T k → base ≤ k) (hs : base ≤ w.heap.size) (hc : Acts f args base P (fun _ : Unit => x) G) : Calls Try.prog f args w1 fun e w2 => e = .returned x ∧ At T w (G ()) w2 :=
  (h.call hb hs hc).mono fun e w' ⟨_, e1, h2⟩ => ⟨e1, h2⟩
theorem At.step (h : At T w P w1) (hP : Frm base P) (hb : Below w1.heap.size w1 w2) : At T w P w2 := by
  obtain ⟨T1, hp, hT1, hch⟩ := h
  exact ⟨T1, hP.chg (S := fun _ => False) hp (Chg.of_below hb) (fun _ h => h.elim) (fun _ _ h => h), hT1, hch.trans (Chg.of_below hb)⟩
theorem At.calm (h : At T w P w1) (hP : Frm base P) (hc : Calls Try.prog f args w1 (Calm x w1)) : Calls Try.prog f args w1 fun e w2 => e = .returned x ∧ At T w P w2 :=
  hc.mono fun e w' ⟨e1, hb⟩ => ⟨e1, h.step hP hb⟩
theorem At.imp (h : At T w P w1) (hP : ∀ T, P T w1 → P' T w1) : At T w P' w1 := by
  obtain ⟨T1, hp, r⟩ := h
  exact ⟨T1, hP T1 hp, r⟩
theorem At.get (h : At T w P w1) : ∃ T1, P T1 w1 := by obtain ⟨T1, hp, _⟩ := h; exact ⟨T1, hp⟩
theorem At.getL (h : At T w (Star P Q) w1) : ∃ T1, P T1 w1 := by obtain ⟨_, ⟨A, B, _, _, hp, _⟩, _⟩ := h; exact ⟨A, hp⟩
theorem At.getR (h : At T w (Star P Q) w1) : ∃ T1, Q T1 w1 := by obtain ⟨_, ⟨A, B, _, _, _, hq⟩, _⟩ := h; exact ⟨B, hq⟩
theorem At.drop (h : At T w (Star P Q) w1) : At T w Q w1 := by
  obtain ⟨T1, ⟨A, B, hT, _, _, hq⟩, h2, h3⟩ := h
  exact ⟨B, hq, fun k hk => h2 k ((hT k).2 (.inr hk)), h3⟩
theorem At.emp (h : At T w P w1) : At T w (Star Emp P) w1 :=
  h.imp fun T hp => ⟨fun _ => False, T, fun k => by simp, (fun k hk => hk.elim), (fun k hk => hk), hp⟩
/-- The object at the right is stored into. -/
theorem At.store (h : At T w (Star P Q) w1) (hP : Frm 0 P) (hst : ∀ T1, Q T1 w1 → R T1 w2 ∧ Chg T1 w1 w2) : At T w (Star P R) w2 := by
  obtain ⟨T1, ⟨A, B, hT, hd, hp, hq⟩, h2, h3⟩ := h
  obtain ⟨hr, hc⟩ := hst B hq
  exact ⟨T1, ⟨A, B, hT, hd, hP.chg hp hc (fun _ _ => Nat.zero_le _) (fun k hk hb => hd k hk hb), hr⟩, h2, h3.join hc (fun k hk => h2 k ((hT k).2 (.inr hk)))⟩
/-- A block has been made that nothing speaks of. -/
theorem At.alloc (h : At T w P w1) (hP : Frm base P) (o : Obj) : At T w P (w1.alloc o) := h.step hP ((Below.refl _ _).alloc (Nat.le_refl _) o)
end
/-! ### a row of the call's own that grows beside the objects -/
section
universe u
variable {α : Type u} {cs : α → List Value} {m : Nat} {t TY : TypeId} {w w1 : World} {T : Nat → Prop} {v : Value} {l : List α} {P : RP} {base : Nat}
def RowP (cs : α → List Value) (m : Nat) (t : TypeId) (b0 : Nat) (v : Value) (l : List α) : RP := fun T w => (∀ k, T k ↔ v.ownBlock = some k) ∧ w.ownsRow b0 t m v l.length (srs cs l)
theorem RowP.frm {b0 : Nat} : Frm base (RowP cs m t b0 v l) := by
  refine ⟨fun ⟨h1, h2⟩ k hk => (own_lt h2 ((h1 k).1 hk)).2, fun {T U w w'} ⟨h1, h2⟩ hc hb hs => ⟨h1, owk h2 fun k hk => hc.block k (own_lt h2 hk).2 (hs k ((h1 k).2 hk))⟩⟩
theorem RowP.nil (b0 : Nat) : RowP cs m t b0 (.slice none 0 0) ([] : List α) (fun _ => False) w := ⟨fun k => by simp [Value.ownBlock], World.ownsRow_nil _ _ _ _⟩
theorem At.row0 (h : At T w P w1) (b0 : Nat) : At T w (Star (RowP cs m t b0 (.slice none 0 0) ([] : List α)) P) w1 := by
  obtain ⟨T1, hp, h2, h3⟩ := h
  exact ⟨T1, ⟨fun _ => False, T1, fun k => by simp, (fun k hk => hk.elim), RowP.nil b0, hp⟩, h2, h3⟩
/-- append of one element just made: what is left alone, and where the row lies. -/
theorem Elt.app_new3 (E : Elt cs m t TY) {C n : Nat} (x : α) (h : w.ownsRow C t m v n (srs cs l)) (hn : n ≤ 100000) (hC : C ≤ w.heap.size) :
    ∃ A c w', (Builtin.append_ #[TY, TY] TY #[v, .slice (some ⟨w.heap.size, 0, none⟩) 1 1]).run Try.prog (w.alloc (.cells (cs x).toArray t)) = .ok (.slice A (n + 1) c) w' ∧ w'.ownsRow C t m (.slice A (n + 1) c) (n + 1) (srs cs (l ++ [x])) ∧ Below C w w' ∧
      (∀ k, k < w.heap.size → v.ownBlock ≠ some k → w'.heap[k]? = w.heap[k]?) ∧ ((Value.slice A (n + 1) c).ownBlock = v.ownBlock ∨ ∃ g, (Value.slice A (n + 1) c).ownBlock = some g ∧ w.heap.size ≤ g) := by
  obtain ⟨z, b, hz, hb, hi⟩ := E.inf
  have hx := Whole.fresh w t (cs x).toArray
  have hcl : ∀ j u, (cs x)[j]? = some u → (w.alloc (.cells (cs x).toArray t)).cell? ((⟨w.heap.size, 0, none⟩ : Addr).add j) = some u := newCells w (cs x) t
  obtain ⟨v', w', hrun, hv, hg, hw⟩ := run_append_one (P := Try.prog) TY TY E.und hi hz E.pos (h.alloc (.cells (cs x).toArray t)) ⟨w.heap.size, 0, none⟩ (E.len x) hcl (E.one x) hn hb (by simp; omega)
  rw [← srs_snoc] at hv
  obtain ⟨A, c, rfl⟩ := ow_shape hv
  refine ⟨A, c, w', hrun, hv, below_grew ((Below.refl C w).alloc hC (.cells (cs x).toArray t)) hC hg (fun k hk => row_own h k hk), fun k hk hne => ?_, ?_⟩
  · exact (hg.block k (by simp; omega) (fun e => hne e.symm)).trans (Below.heap_alloc w _ k hk)
  · rcases hw with h1 | ⟨g, h1, h2⟩
    · exact .inl h1
    · exact .inr ⟨g, h1, by simp at h2; omega⟩
/-- One element more. -/
theorem At.app (E : Elt cs m t TY) (h : At T w (Star (RowP cs m t w.heap.size v l) P) w1) (hP : Frm 0 P) (hn : l.length ≤ 99999) (x : α) :
    ∃ A c w2, (Builtin.append_ #[TY, TY] TY #[v, .slice (some ⟨w1.heap.size, 0, none⟩) 1 1]).run Try.prog (w1.alloc (.cells (cs x).toArray t)) = .ok (.slice A (l.length + 1) c) w2 ∧ At T w (Star (RowP cs m t w.heap.size (.slice A (l.length + 1) c) (l ++ [x])) P) w2 := by
  obtain ⟨T1, ⟨A1, B1, hT, hd, ⟨g1, g2⟩, hp⟩, h2, h3⟩ := h
  obtain ⟨A, c, w2, hrun, hv, hb, hk, hwh⟩ := E.app_new3 x g2 (by omega) h3.size
  have hch : Chg A1 w1 w2 := ⟨hb.os, hb.tape, hb.output, hb.size, fun k hk1 hk2 => hk k hk1 (fun e => hk2 ((g1 k).2 e))⟩
  have hv' : w2.ownsRow w.heap.size t m (.slice A (l.length + 1) c) (l ++ [x]).length (srs cs (l ++ [x])) := by rw [List.length_append]; exact hv
  refine ⟨A, c, w2, hrun, fun k => (Value.slice A (l.length + 1) c).ownBlock = some k ∨ B1 k, ⟨fun k => (Value.slice A (l.length + 1) c).ownBlock = some k, B1, fun k => Iff.rfl, fun k e hb1 => ?_, ⟨fun k => Iff.rfl, hv'⟩, hP.chg hp hch (fun _ _ => Nat.zero_le _) (fun k hk1 hk2 => hd k hk2 hk1)⟩, fun k hk1 => ?_, h3.join hch (fun k hk1 => h2 k ((hT k).2 (.inl hk1)))⟩
  · rcases hwh with e2 | ⟨g, e2, e3⟩
    · rw [e2] at e
      exact hd k ((g1 k).2 e) hb1
    · rw [e2] at e
      have h9 := hP.lt hp k hb1
      have : g = k := by simpa using e
      omega
  · rcases hk1 with e | hb1
    · exact .inr (own_lt hv e).1
    · exact h2 k ((hT k).2 (.inr hb1))
end
end Go.Proofs.Ytcnpmbgeafkmlaa

