/-
  A change that turns no blocks but those of a set; blocks known whole.
-/
import Derived.Test.YtcnpmbgeafkmlaaMem
namespace Go.Proofs.Ytcnpmbgeafkmlaa
open Go.ChangeShapes Go.WideShapes Go.ChangeAt Go.RowKit
set_option linter.unusedVariables false

/-- No old block has turned but those of S. -/
structure Chg (S : Nat → Prop) (w w' : World) : Prop where
  os : w'.os = w.os
  tape : w'.tape = w.tape
  output : w'.output = w.output
  size : w.heap.size ≤ w'.heap.size
  block : ∀ k, k < w.heap.size → ¬ S k → w'.heap[k]? = w.heap[k]?
section
variable {S T : Nat → Prop} {a b c w w' : World}
theorem Chg.refl (S : Nat → Prop) (w : World) : Chg S w w := ⟨rfl, rfl, rfl, Nat.le_refl _, fun _ _ _ => rfl⟩
theorem Chg.trans (h : Chg S a b) (k : Chg S b c) : Chg S a c :=
  ⟨k.os.trans h.os, k.tape.trans h.tape, k.output.trans h.output, Nat.le_trans h.size k.size, fun i hi hn => (k.block i (by have := h.size; omega) hn).trans (h.block i hi hn)⟩
theorem Chg.of_below (h : Below a.heap.size a b) : Chg S a b := ⟨h.os, h.tape, h.output, h.size, fun k hk _ => h.block k hk⟩
theorem Chg.drew (h : Chg S a w) : Chg S a w.drew := ⟨h.os, h.tape, h.output, h.size, h.block⟩
theorem Chg.drewN (h : Chg S a w) (n : Nat) : Chg S a (w.drewN n) := ⟨h.os, h.tape, h.output, h.size, h.block⟩
theorem Chg.alloc (h : Chg S a w) (o : Obj) : Chg S a (w.alloc o) := h.trans (Chg.of_below ((Below.refl _ _).alloc (Nat.le_refl _) o))
theorem Chg.setCell (h : Chg S a w) {g : Nat} (hg : S g) (o : Nat) (u : Value) : Chg S a (w.setCell ⟨g, o, none⟩ u) :=
  h.trans ⟨rfl, rfl, rfl, by simp [World.setCell], fun k _ hn => Below.heap_setCell _ _ _ _ (fun e => hn (by rw [e]; exact hg))⟩
theorem Chg.setNew (h : Chg S a w) {g : Nat} (hg : a.heap.size ≤ g) (o : Nat) (u : Value) : Chg S a (w.setCell ⟨g, o, none⟩ u) :=
  ⟨h.os, h.tape, h.output, Nat.le_trans h.size (by simp [World.setCell]), fun k hk hn => (Below.heap_setCell w ⟨g, o, none⟩ u k (by show k ≠ g; omega)).trans (h.block k hk hn)⟩
theorem Chg.grown {row : Option Nat} (h : Chg S a w) (hg : w.grownBy w' row) (hr : ∀ k, row = some k → S k ∨ a.heap.size ≤ k) : Chg S a w' :=
  ⟨hg.os.trans h.os, hg.tape.trans h.tape, hg.output.trans h.output, Nat.le_trans h.size hg.size, fun k hk hn => (hg.block k (by have := h.size; omega) (fun e => by
    rcases hr k e.symm with h1 | h1
    · exact hn h1
    · omega)).trans (h.block k hk hn)⟩
theorem Chg.wider (h : Chg S a b) (hs : ∀ k, k < a.heap.size → S k → T k) : Chg T a b := ⟨h.os, h.tape, h.output, h.size, fun k hk hn => h.block k hk (fun e => hn (hs k hk e))⟩
theorem Chg.below (h : Chg S a b) {C : Nat} (hC : C ≤ a.heap.size) (hs : ∀ k, S k → C ≤ k) : Below C a b :=
  ⟨h.os, h.tape, h.output, h.size, fun k hk => h.block k (by omega) (fun e => by have := hs k e; omega)⟩
theorem Chg.of_only {B : Nat} (h : Only B a b) (hs : S B) : Chg S a b := ⟨h.os, h.tape, h.output, h.size, fun k hk hn => h.block k hk (fun e => hn (by rw [e]; exact hs))⟩
end

theorem Chg.join {S T : Nat → Prop} {a b c : World} (h : Chg S a b) (k : Chg T b c) (hT : ∀ k, T k → S k ∨ a.heap.size ≤ k) : Chg S a c :=
  ⟨k.os.trans h.os, k.tape.trans h.tape, k.output.trans h.output, Nat.le_trans h.size k.size, fun i hi hn => (k.block i (by have := h.size; omega) (fun e => by
    rcases hT i e with h1 | h1
    · exact hn h1
    · omega)).trans (h.block i hi hn)⟩
/-- From w to w' no block but those of S has turned; what an object has come to lies in S' : in S or new. -/
def Trod (S S' : Nat → Prop) (w w' : World) : Prop := Chg S w w' ∧ ∀ k, S' k → S k ∨ w.heap.size ≤ k
theorem Chg.cell {S : Nat → Prop} {w w' : World} (h : Chg S w w') {b : Nat} (hb : b < w.heap.size) (hn : ¬ S b) (o : Nat) : w'.cell? ⟨b, o, none⟩ = w.cell? ⟨b, o, none⟩ := World.cell?_of_block (w := w) (h.block b hb hn)
theorem Chg.whole {S : Nat → Prop} {w w' : World} (h : Chg S w w') {b : Nat} {t : TypeId} {cs : Array Value} (hw : Whole w b t cs) (hn : ¬ S b) : Whole w' b t cs := hw.carry (h.block b hw.size_lt hn)
theorem Whole.new (w : World) (t : TypeId) (cs : Array Value) : Whole (w.alloc (.cells cs t)) w.heap.size t cs := (MapKept.heap_alloc w _).1
theorem Whole.below {w w' : World} {b : Nat} {t : TypeId} {cs : Array Value} (h : Whole w b t cs) (hb : Below w.heap.size w w') : Whole w' b t cs := h.carry (hb.block b h.size_lt)
theorem Whole.at_ {w : World} {b : Nat} {t : TypeId} {x y : Value} (h : Whole w b t #[x, y]) : w.cell? ⟨b, 0, none⟩ = some x ∧ w.cell? ⟨b, 1, none⟩ = some y ∧ w.frozen? ⟨b, 0, none⟩ = false ∧ w.frozen? ⟨b, 1, none⟩ = false :=
  ⟨by rw [h.read]; rfl, by rw [h.read]; rfl, h.free 0, h.free 1⟩
theorem Has.trod {B : Nat} {a : Option Addr} {len cap k : Nat} {w0 w w' : World} {S : Nat → Prop} (h : Has B a len cap k w0 w) (hS : ∀ i, S i → B < i) (ht : Chg S w w') : Has B a len cap k w0 w' := by
  have hb : Below (B + 1) w w' := ht.below (by have := h.1.lt; omega) (fun i hi => by have := hS i hi; omega)
  exact ⟨h.1.kept hb, h.2.trans (hb.mono (by omega))⟩
end Go.Proofs.Ytcnpmbgeafkmlaa

