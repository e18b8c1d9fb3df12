/-
  Words for any environment: calls that change nothing (Inv.calm), a local struct that is written (Inv.boxput). No program's object is named.
-/
import Derived.Test.YtcefpkibglideaaSep
import Derived.Test.YtcefpkibglideaaLsP
namespace Go.Proofs.Ytcefpkibglideaa
open Go.ChangeShapes Go.WideShapes Go.ChangeAt Go.RowKit
set_option linter.unusedVariables false

/-! ### words for any environment -/
section
variable {base : Nat} {w w' w0 : World} {P Q : RP} {f : FuncId} {args : Array Value} {x : Value}
theorem Inv.calm (h : Inv base w0 P w) (hP : Frm base P) (hc : Calls Try.prog f args w (Calm x w)) : Calls Try.prog f args w fun e w' => e = .returned x ∧ Inv base w0 P w' :=
  hc.mono fun e w' ⟨e1, hb⟩ => ⟨e1, h.step hP hb⟩
theorem Inv.boxput {g : Nat} {t : TypeId} {cs : Array Value} (h : Inv base w0 (Star (BoxP g t cs) P) w) (hP : Frm base P) (o : Nat) (u : Value) : Inv base w0 (Star (BoxP g t (cs.setIfInBounds o u)) P) (w.setCell ⟨g, o, none⟩ u) := by
  obtain ⟨T, ⟨A, B, hT, hd, ⟨h1, h2⟩, h3⟩, hb, hbl, hs⟩ := h
  have hg : T g := (hT g).2 (.inl ((h1 g).2 rfl))
  refine ⟨T, ⟨A, B, hT, hd, ⟨h1, h2.put o u⟩, hP.chg (S := fun k => k = g) h3 ((Chg.refl (fun k => k = g) w).setCell rfl o u) (fun k hk => by rw [hk]; exact hb g hg) fun k hk hkg => hd g ((h1 g).2 rfl) (by rw [← hkg]; exact hk)⟩, hb, hbl.setCell (p := ⟨g, o, none⟩) (hb g hg) u, by simpa [World.setCell] using hs⟩
end
theorem LsA.lit {α : Type} {cs : α → List Value} {m : Nat} {t TY : TypeId} (E : Elt cs m t TY) (w : World) (x : α) : LsA cs m t (.slice (some ⟨w.heap.size, 0, none⟩) 1 1) [x] (w.alloc (.cells (cs x).toArray t)) := by
  refine ⟨_, 1, rfl, Nat.le_refl _, by unfold maxLen; omega, .inr ⟨w.heap.size, 0, (cs x).toArray, rfl, by simp, Whole.fresh w t _, fun i hi k hk => ?_⟩⟩
  obtain rfl : i = 0 := by simpa using hi
  rw [Nat.zero_add, Nat.zero_mul, Nat.zero_add, (Whole.fresh w t _).read]
  simp
/-- A literal of integers. -/
theorem LsA.ints {cs : Int → List Value} {t : TypeId} (hcs : ∀ x, cs x = [.int .i64 x]) (w : World) (l : List Int) {n : Nat} (hn : l.length = n) (hmax : n ≤ 1000) {ar : Array Value} (har : ar = (l.map (fun x => Value.int .i64 x)).toArray) : LsA cs 1 t (.slice (some ⟨w.heap.size, 0, none⟩) n n) l (w.alloc (.cells ar t)) := by
  subst hn har
  refine ⟨_, l.length, rfl, Nat.le_refl _, by unfold maxLen; omega, .inr ⟨w.heap.size, 0, _, rfl, by simp, Whole.fresh w t _, fun i hi k hk => ?_⟩⟩
  obtain rfl : k = 0 := by omega
  rw [(Whole.fresh w t _).read, hcs]
  simp [hi]
end Go.Proofs.Ytcefpkibglideaa

