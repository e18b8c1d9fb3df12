/-
  Objects side by side: a predicate says which blocks it speaks of; two of them that share no block are joined (Star); a call that keeps to its own blocks leaves the others alone. No program's object is named.
-/
import Derived.Test.YtcnpmbgeafkmlaaChg
import Derived.Test.YtcnpmbgeafkmlaaWhl
namespace Go.Proofs.Ytcnpmbgeafkmlaa
open Go.ChangeShapes Go.WideShapes Go.ChangeAt Go.RowKit
set_option linter.unusedVariables false

/-- A predicate with its blocks. -/
abbrev RP := (Nat → Prop) → World → Prop
/-- It speaks of blocks that are there, and stays where its own blocks and those below base stay. -/
structure Frm (base : Nat) (P : RP) : Prop where
  lt : ∀ {T : Nat → Prop} {w : World}, P T w → ∀ k, T k → k < w.heap.size
  chg : ∀ {T S : Nat → Prop} {w w' : World}, P T w → Chg S w w' → (∀ k, S k → base ≤ k) → (∀ k, T k → ¬ S k) → P T w'
def Emp : RP := fun T _ => ∀ k, ¬ T k
def Star (P Q : RP) : RP := fun T w => ∃ A B, (∀ k, T k ↔ A k ∨ B k) ∧ (∀ k, A k → ¬ B k) ∧ P A w ∧ Q B w
section
variable {base : Nat} {P P' Q R : RP} {T : Nat → Prop} {w w' w0 : World}
theorem Frm.emp : Frm base Emp := ⟨fun h k hk => absurd hk (h k), fun h _ _ _ => h⟩
theorem Frm.star (hP : Frm base P) (hQ : Frm base Q) : Frm base (Star P Q) := by
  refine ⟨fun ⟨A, B, hT, hd, hp, hq⟩ k hk => ?_, fun ⟨A, B, hT, hd, hp, hq⟩ hc hb hs => ?_⟩
  · rcases (hT k).1 hk with h | h
    · exact hP.lt hp k h
    · exact hQ.lt hq k h
  · exact ⟨A, B, hT, hd, hP.chg hp hc hb fun k hk => hs k ((hT k).2 (.inl hk)), hQ.chg hq hc hb fun k hk => hs k ((hT k).2 (.inr hk))⟩
theorem Star.comm (h : Star P Q T w) : Star Q P T w := by
  obtain ⟨A, B, hT, hd, hp, hq⟩ := h
  exact ⟨B, A, fun k => (hT k).trans Or.comm, fun k hb ha => hd k ha hb, hq, hp⟩
theorem Star.map (hP : ∀ A, P A w → P' A w) (h : Star P Q T w) : Star P' Q T w := by
  obtain ⟨A, B, hT, hd, hp, hq⟩ := h
  exact ⟨A, B, hT, hd, hP A hp, hq⟩
theorem Star.assoc (h : Star (Star P Q) R T w) : Star P (Star Q R) T w := by
  obtain ⟨A, B, hT, hd, ⟨C, D, hA, hd2, hp, hq⟩, hr⟩ := h
  refine ⟨C, fun k => D k ∨ B k, fun k => ?_, fun k hc hdb => ?_, hp, D, B, fun k => Iff.rfl, fun k hk => hd k ((hA k).2 (.inr hk)), hq, hr⟩
  · rw [hT k, hA k, or_assoc]
  · rcases hdb with h | h
    · exact hd2 k hc h
    · exact hd k ((hA k).2 (.inl hc)) h
theorem Star.unassoc (h : Star P (Star Q R) T w) : Star (Star P Q) R T w := by
  have h1 := Star.comm h
  have h2 := Star.assoc (Star.map (fun A hA => Star.comm hA) h1)
  have h3 := Star.comm (Star.map (P' := R) (fun A hA => hA) h2)
  exact Star.map (fun A hA => Star.comm hA) h3
theorem Star.mapR {Q' : RP} (hQ : ∀ A, Q A w → Q' A w) (h : Star P Q T w) : Star P Q' T w := Star.comm (Star.map hQ (Star.comm h))
theorem Star.pick2 (h : Star P (Star Q R) T w) : Star Q (Star P R) T w := Star.assoc (Star.map (fun _ => Star.comm) (Star.unassoc h))
theorem Star.pick3 {U : RP} (h : Star P (Star Q (Star R U)) T w) : Star R (Star P (Star Q U)) T w := Star.pick2 (Star.mapR (fun _ => Star.pick2) h)
theorem Star.left (h : Star P Q T w) : ∃ A, P A w ∧ ∀ k, A k → T k := by
  obtain ⟨A, B, hT, hd, hp, hq⟩ := h
  exact ⟨A, hp, fun k hk => (hT k).2 (.inl hk)⟩
theorem Star.right (h : Star P Q T w) : ∃ A, Q A w ∧ ∀ k, A k → T k := by
  obtain ⟨A, B, hT, hd, hp, hq⟩ := h
  exact ⟨B, hq, fun k hk => (hT k).2 (.inr hk)⟩
end
/-! ### calls -/
/-- From P the call answers val i for some i, and Q i holds; no blocks have turned but P's own; what Q speaks of is P's or new. -/
def Acts (f : FuncId) (args : Array Value) (base : Nat) (P : RP) {ι : Type} (val : ι → Value) (Q : ι → RP) : Prop :=
  ∀ (T : Nat → Prop) (w : World), P T w → (∀ k, T k → base ≤ k) → base ≤ w.heap.size → Calls Try.prog f args w fun e w' => ∃ i, e = .returned (val i) ∧ (∃ T', Q i T' w' ∧ ∀ k, T' k → T k ∨ w.heap.size ≤ k) ∧ Chg T w w'
/-- The objects stand as P says; nothing below base has turned since w0. -/
def Inv (base : Nat) (w0 : World) (P : RP) (w : World) : Prop := ∃ T, P T w ∧ (∀ k, T k → base ≤ k) ∧ Below base w0 w ∧ base ≤ w.heap.size
section
variable {f : FuncId} {args : Array Value} {base : Nat} {P P' Q R : RP} {ι : Type} {val : ι → Value} {G : ι → RP} {w w' w0 : World} {x : Value}
theorem Acts.star (hR : Frm base R) (h : Acts f args base P val G) : Acts f args base (Star P R) val fun i => Star (G i) R := by
  intro T w ⟨A, B, hT, hd, hp, hr⟩ hb hs
  refine (h A w hp (fun k hk => hb k ((hT k).2 (.inl hk))) hs).mono ?_
  rintro e w' ⟨i, e1, ⟨A', hq, hA⟩, hc⟩
  refine ⟨i, e1, ⟨fun k => A' k ∨ B k, ⟨A', B, fun k => Iff.rfl, fun k ha hbk => ?_, hq, hR.chg hr hc (fun k hk => hb k ((hT k).2 (.inl hk))) fun k hk ha => hd k ha hk⟩, fun k hk => ?_⟩, hc.wider fun k _ hk => (hT k).2 (.inl hk)⟩
  · rcases hA k ha with h1 | h1
    · exact hd k h1 hbk
    · have := hR.lt hr k hbk; omega
  · rcases hk with h1 | h1
    · exact (hA k h1).imp (fun h => (hT k).2 (.inl h)) id
    · exact .inl ((hT k).2 (.inr h1))
theorem Acts.imp (h : Acts f args base P val G) {P' : RP} {G' : ι → RP} (hP : ∀ T w, P' T w → P T w) (hG : ∀ i T w, G i T w → G' i T w) : Acts f args base P' val G' := by
  intro T w hp hb hs
  refine (h T w (hP T w hp) hb hs).mono ?_
  rintro e w' ⟨i, e1, ⟨A', hq, hA⟩, hc⟩
  exact ⟨i, e1, ⟨A', hG i A' w' hq, hA⟩, hc⟩
/-- The object at the right. -/
theorem Acts.right (hR : Frm base R) (h : Acts f args base P val G) : Acts f args base (Star R P) val fun i => Star R (G i) :=
  (h.star hR).imp (fun _ _ => Star.comm) fun _ _ _ => Star.comm
/-- A call that turns nothing old. -/
theorem Acts.calm (hP : Frm base P) (h : ∀ T w, P T w → Calls Try.prog f args w (Calm x w)) : Acts f args base P (fun _ : Unit => x) fun _ => P := by
  intro T w hp hb hs
  refine (h T w hp).mono ?_
  rintro e w' ⟨e1, hbl⟩
  exact ⟨(), e1, ⟨T, hP.chg (S := fun _ => False) hp (Chg.of_below hbl) (fun _ h => h.elim) (fun _ _ h => h), fun k hk => .inl hk⟩, Chg.of_below hbl⟩
theorem Inv.call (h : Inv base w0 P w) (hc : Acts f args base P val G) : Calls Try.prog f args w fun e w' => ∃ i, e = .returned (val i) ∧ Inv base w0 (G i) w' := by
  obtain ⟨T, hp, hb, hbl, hs⟩ := h
  refine (hc T w hp hb hs).mono ?_
  rintro e w' ⟨i, e1, ⟨T', hq, hT⟩, hch⟩
  exact ⟨i, e1, T', hq, fun k hk => (hT k hk).elim (hb k) (fun h => by omega), hbl.trans (hch.below hs hb), Nat.le_trans hs hch.size⟩
theorem Inv.call1 {G : Unit → RP} (h : Inv base w0 P w) (hc : Acts f args base P (fun _ : Unit => x) G) : Calls Try.prog f args w fun e w' => e = .returned x ∧ Inv base w0 (G ()) w' :=
  (h.call hc).mono fun e w' ⟨_, e1, h2⟩ => ⟨e1, h2⟩
theorem Inv.step (h : Inv base w0 P w) (hP : Frm base P) (hb : Below w.heap.size w w') : Inv base w0 P w' := by
  obtain ⟨T, hp, hb1, hbl, hs⟩ := h
  exact ⟨T, hP.chg (S := fun _ => False) hp (Chg.of_below hb) (fun _ h => h.elim) (fun _ _ h => h), hb1, hbl.trans (hb.mono hs), Nat.le_trans hs hb.size⟩
theorem Inv.imp (h : Inv base w0 P w) (hP : ∀ T, P T w → P' T w) : Inv base w0 P' w := by
  obtain ⟨T, hp, r⟩ := h
  exact ⟨T, hP T hp, r⟩
theorem Inv.out (h : Inv base w0 P w) : Below base w0 w := by obtain ⟨T, _, _, hb, _⟩ := h; exact hb
theorem Inv.swap (h : Inv base w0 (Star P Q) w) : Inv base w0 (Star Q P) w := h.imp fun _ => Star.comm
theorem Inv.emp (h : Inv base w0 P w) : Inv base w0 (Star Emp P) w :=
  h.imp fun T hp => ⟨fun _ => False, T, fun k => by simp, (fun k hk => hk.elim), (fun k hk => hk), hp⟩
theorem Inv.start {T : Nat → Prop} (hp : P T w) (hb : ∀ k, T k → w0.heap.size ≤ k) (hbl : Below w0.heap.size w0 w) : Inv w0.heap.size w0 P w := ⟨T, hp, hb, hbl, hbl.size⟩
end
/-! ### a block that is known whole -/
def BoxP (g : Nat) (t : TypeId) (cs : Array Value) : RP := fun T w => (∀ k, T k ↔ k = g) ∧ Whole w g t cs
theorem BoxP.frm {base g : Nat} {t : TypeId} {cs : Array Value} : Frm base (BoxP g t cs) := by
  refine ⟨fun ⟨h1, h2⟩ k hk => by rw [(h1 k).1 hk]; exact h2.size_lt, fun {T S w w'} ⟨h1, h2⟩ hc hb hs => ⟨h1, h2.carry (hc.block g h2.size_lt (hs g ((h1 g).2 rfl)))⟩⟩
section
variable {base : Nat} {P Q : RP} {w w' w0 : World} {g : Nat} {t : TypeId} {cs : Array Value}
theorem Inv.box (h : Inv base w0 P w) (hP : Frm base P) (t : TypeId) (cs : Array Value) : Inv base w0 (Star (BoxP w.heap.size t cs) P) (w.alloc (.cells cs t)) := by
  obtain ⟨T, hp, hb, hbl, hs⟩ := h
  have hal := (Below.refl w.heap.size w).alloc (Nat.le_refl _) (.cells cs t)
  refine ⟨fun k => k = w.heap.size ∨ T k, ⟨fun k => k = w.heap.size, T, fun k => Iff.rfl, fun k hk ht => by have := hP.lt hp k ht; omega, ⟨fun k => Iff.rfl, Whole.fresh w t cs⟩, hP.chg (S := fun _ => False) hp (Chg.of_below hal) (fun _ h => h.elim) (fun _ _ h => h)⟩, fun k hk => ?_, hbl.trans (hal.mono hs), by simp; omega⟩
  rcases hk with h | h
  · rw [h]; exact hs
  · exact hb k h
theorem Inv.boxed (h : Inv base w0 (Star (BoxP g t cs) P) w) : Whole w g t cs := by
  obtain ⟨T, ⟨A, B, _, _, h1, _⟩, _⟩ := h; exact h1.2
theorem Inv.drop (h : Inv base w0 (Star P Q) w) : Inv base w0 Q w := by
  obtain ⟨T, ⟨A, B, hT, _, _, h1⟩, hb, r⟩ := h
  exact ⟨B, h1, fun k hk => hb k ((hT k).2 (.inr hk)), r⟩
theorem Inv.get (h : Inv base w0 P w) : ∃ T, P T w := by obtain ⟨T, h1, _⟩ := h; exact ⟨T, h1⟩
theorem Inv.size (h : Inv base w0 P w) : base ≤ w.heap.size := by obtain ⟨_, _, _, _, h1⟩ := h; exact h1
end
/-! ### the choices -/
theorem elems_up {B C : Nat} {a : Option Addr} {len : Nat} {w : World} (h : Elems B a len w) (hc : B ≤ C) : Elems C a len w := by
  refine ⟨h.1, fun i hi => ?_⟩
  obtain ⟨b, off, z, e1, e2, e3, e4, e5⟩ := h.2 i hi
  exact ⟨b, off, z, e1, by omega, e3, e4, e5⟩
/-- The choices, of which q have been taken. -/
def GenP (base B : Nat) (a : Option Addr) (len cap q : Nat) : RP := fun T w => (∀ k, T k ↔ k = B) ∧ Gen B a len cap q w ∧ Elems base a len w ∧ base ≤ B
theorem GenP.frm {base B : Nat} {a : Option Addr} {len cap q : Nat} : Frm base (GenP base B a len cap q) := by
  refine ⟨fun ⟨h1, h2, _⟩ k hk => by rw [(h1 k).1 hk]; exact h2.lt, fun {T S w w'} ⟨h1, h2, h3, h4⟩ hc hb hs => ?_⟩
  have hB : ¬ S B := hs B ((h1 B).2 rfl)
  have hbl : Below base w w' := hc.below (by have := h2.lt; omega) hb
  have h3' := h3.kept hbl
  exact ⟨h1, ⟨(hc.block B h2.lt hB).trans h2.1, elems_up h3' h4⟩, h3', h4⟩
theorem GenP.next {base B : Nat} {a : Option Addr} {len cap q : Nat} {n : Int} (n0 : 1 ≤ n) (n1 : n ≤ 1000000000) (hq : q ≤ 1000000000) :
    Acts 15 #[.pointer (some ⟨B, 0, none⟩), .int .i64 n] base (GenP base B a len cap q) (fun r : { r : Int // 0 ≤ r ∧ r < n } => .int .i64 r.1) fun _ => GenP base B a len cap (q + 1) := by
  intro T w ⟨h1, h2, h3, h4⟩ hb hs
  refine (next_any B a len cap q n w n0 n1 hq h2).mono ?_
  rintro e w' ⟨r, r0, r1, e1, hg, ho⟩
  have hbl : Below base w w' := ho.below (by have := h2.lt; omega) |>.mono h4
  exact ⟨⟨r, r0, r1⟩, e1, ⟨T, ⟨h1, hg, h3.kept hbl, h4⟩, fun k hk => .inl hk⟩, Chg.of_only ho ((h1 B).2 rfl)⟩
theorem GenP.new {a : Option Addr} {len cap : Nat} {w : World} (he : Elems w.heap.size a len w) {w0 : World} (hb : Below w0.heap.size w0 w) (he0 : Elems w0.heap.size a len w) :
    Inv w0.heap.size w0 (GenP w0.heap.size w.heap.size a len cap 0) (w.alloc (.cells #[.slice a len cap, .int .i64 0] 47)) := by
  refine Inv.start (T := fun k => k = w.heap.size) ⟨fun k => Iff.rfl, gen_new a len cap w he, he0.kept ((Below.refl _ _).alloc hb.size _), hb.size⟩ (fun k hk => by rw [hk]; exact hb.size) (hb.alloc hb.size _)
end Go.Proofs.Ytcnpmbgeafkmlaa

