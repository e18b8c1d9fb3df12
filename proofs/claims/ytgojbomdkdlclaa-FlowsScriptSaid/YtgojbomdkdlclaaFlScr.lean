/-
  Layer 10: choices and the two tables side by side (GS); lists that are drawn in a region of any order. No statement is walked here.
-/
import Derived.Test.YtgojbomdkdlclaaFlRef5
import Derived.Test.YtgojbomdkdlclaaFlKeep
import Derived.Test.YtgojbomdkdlclaaLbGen
import Derived.Test.YtgojbomdkdlclaaLoose
namespace Go.Proofs.Ytgojbomdkdlclaa
open Go.ChangeShapes Go.WideShapes Go.ChangeAt Go.RowKit
set_option linter.unusedVariables false

/-- Choices, the program's table t1, the reference's t2. -/
def GS (B : Nat) (a : Option Addr) (len cap k : Nat) (w0 : World) (C H R : Nat) (t1 t2 : Tb) (w : World) : Prop :=
  B < C ∧ Has B a len cap k w0 w ∧ ∃ S1 S2, PO C H S1 t1 w ∧ RO C R S2 t2 w ∧ ∀ k, S1 k → ¬ S2 k
section
variable {w w' w0 : World} {B C H R len cap k : Nat} {a : Option Addr} {t1 t2 t' : Tb} {x : Value} {f : Nat} {args : Array Value}
theorem RO.lower {C' : Nat} {S : Nat → Prop} {t : Tb} (h : RO C' R S t w) (hC : C ≤ C') : RO C R S t w := by
  obtain ⟨h0, ⟨vS, vF, vG, h1, h2⟩, h3⟩ := h
  exact ⟨h0, ⟨vS, vF, vG, ⟨h1.blk, oww h1.rowS hC, oww h1.rowF hC, oww h1.rowG hC, Nat.le_trans hC h1.lo⟩, h2⟩, fun k hk => by have := h3 k hk; omega⟩
theorem GS.start {c r : Int} {e : Ending} (h : GP B a len cap k w0 C H t1 w) (h1 : RNew c r w e w') : ∃ R, e = .returned (.tuple #[.pointer (some ⟨R, 0, none⟩), .int .i64 0]) ∧ GS B a len cap k w0 C H R t1 ⟨c, r, [], [], []⟩ w' := by
  obtain ⟨h0, h2, S1, h3⟩ := h
  obtain ⟨R, S2, e1, h4, h5⟩ := h1
  have hC : C ≤ w.heap.size := by have := h3.lo; omega
  exact ⟨R, e1, h0, h2.below h5, S1, S2, h3.below h5, h4.lower hC, fun k k1 k2 => by have := h3.2.2 k k1; have := h4.2.2 k k2; omega⟩
theorem GS.callP (h : GS B a len cap k w0 C H R t1 t2 w) (hc : ∀ S, PO C H S t1 w → Calls Try.prog f args w (PAns C H S t' x w)) : Calls Try.prog f args w fun e w' => e = .returned x ∧ GS B a len cap k w0 C H R t' t2 w' := by
  obtain ⟨h0, h1, S1, S2, h2, h3, h4⟩ := h
  refine (hc S1 h2).mono ?_
  rintro e w' ⟨e1, S', k1, k2, k3⟩
  refine ⟨e1, h0, h1.trod (fun i hi => by have := h2.2.2 i hi; omega) k2, S', S2, k1, h3.chg k2 (fun i i2 i1 => h4 i i1 i2), fun i i1 i2 => ?_⟩
  rcases k3 i i1 with i3 | i3
  · exact h4 i i3 i2
  · have := h3.2.2 i i2; omega
theorem GS.callR (h : GS B a len cap k w0 C H R t1 t2 w) (hc : ∀ S, RO C R S t2 w → Calls Try.prog f args w (RAns C R S t' x w)) : Calls Try.prog f args w fun e w' => e = .returned x ∧ GS B a len cap k w0 C H R t1 t' w' := by
  obtain ⟨h0, h1, S1, S2, h2, h3, h4⟩ := h
  refine (hc S2 h3).mono ?_
  rintro e w' ⟨e1, S', k1, k2, k3⟩
  refine ⟨e1, h0, h1.trod (fun i hi => by have := h3.2.2 i hi; omega) k2, S1, S', h2.chg k2 (fun i i1 i2 => h4 i i1 i2), k1, fun i i1 i2 => ?_⟩
  rcases k3 i i2 with i3 | i3
  · exact h4 i i1 i3
  · have := h2.2.2 i i1; omega
theorem GS.below (h : GS B a len cap k w0 C H R t1 t2 w) (hb : Below w.heap.size w w') : GS B a len cap k w0 C H R t1 t2 w' := by
  obtain ⟨h0, h1, S1, S2, h2, h3, h4⟩ := h
  exact ⟨h0, h1.below hb, S1, S2, h2.below hb, h3.below hb, h4⟩
theorem GS.quiet (h : GS B a len cap k w0 C H R t1 t2 w) (hc : Calls Try.prog f args w (Quiet x w)) : Calls Try.prog f args w fun e w' => e = .returned x ∧ GS B a len cap k w0 C H R t1 t2 w' := by
  refine hc.mono ?_
  rintro e w' ⟨e1, hb⟩
  exact ⟨e1, h.below hb⟩
theorem GS.next (h : GS B a len cap k w0 C H R t1 t2 w) {n : Int} (n0 : 1 ≤ n) (n1 : n ≤ 1000000000) (hk : k ≤ 1000000000) :
    Calls Try.prog 8 #[.pointer (some ⟨B, 0, none⟩), .int .i64 n] w fun e w' => ∃ r : Int, 0 ≤ r ∧ r < n ∧ e = .returned (.int .i64 r) ∧ GS B a len cap (k + 1) w0 C H R t1 t2 w' ∧ Only B w w' := by
  obtain ⟨h0, h1, S1, S2, h2, h3, h4⟩ := h
  refine (has_next B a len cap k n w0 w h1 n0 n1 hk).mono ?_
  rintro e w' ⟨r, r0, r1, e1, k1, k2⟩
  exact ⟨r, r0, r1, e1, ⟨h0, k1, S1, S2, h2.only h0 k2, h3.only h0 k2, h4⟩, k2⟩
theorem GS.name (h : GS B a len cap k w0 C H R t1 t2 w) (hk : k ≤ 1000000000) :
    Calls Try.prog 20 #[.pointer (some ⟨B, 0, none⟩)] w fun e w' => ∃ n : ByteArray, n.size ≤ 2000000 ∧ e = .returned (.string n) ∧ GS B a len cap (k + 1) w0 C H R t1 t2 w' := by
  obtain ⟨h0, h1, S1, S2, h2, h3, h4⟩ := h
  refine (has_name B a len cap k w0 w h1 hk).mono ?_
  rintro e w' ⟨x, hx, e1, k1, k2⟩
  exact ⟨x, by have := name_size hx; omega, e1, h0, k1, S1, S2, h2.only h0 k2, h3.only h0 k2, h4⟩
theorem GS.bel (h : GS B a len cap k w0 C H R t1 t2 w) : Below B w0 w := h.2.1.2
theorem GS.tabP (h : GS B a len cap k w0 C H R t1 t2 w) : ∃ S, PO C H S t1 w := by obtain ⟨_, _, S1, _, h2, _⟩ := h; exact ⟨S1, h2⟩
theorem GS.tabR (h : GS B a len cap k w0 C H R t1 t2 w) : ∃ S, RO C R S t2 w := by obtain ⟨_, _, _, S2, _, h3, _⟩ := h; exact ⟨S2, h3⟩
theorem GS.ltB (h : GS B a len cap k w0 C H R t1 t2 w) : B < w.heap.size := h.2.1.1.lt
end
/-- Drawn lists: a row, an address in it, a number of it. -/
def RowL (B : Nat) (L : List Int) (v : Value) (w : World) : Prop := ∃ g, g ≠ B ∧ g < w.heap.size ∧ v = .slice (some ⟨g, 0, none⟩) L.length L.length ∧ ∀ i (h : i < L.length), w.cell? ⟨g, i, none⟩ = some (.int .i64 L[i])
def PtrL (B : Nat) (L : List Int) (v : Value) (w : World) : Prop := ∃ g o, g ≠ B ∧ g < w.heap.size ∧ v = .pointer (some ⟨g, o, none⟩) ∧ ∃ x : Int, x ∈ L ∧ w.cell? ⟨g, o, none⟩ = some (.int .i64 x)
def InL (L : List Int) (v : Value) : Prop := ∃ x : Int, x ∈ L ∧ v = .int .i64 x
def IntR (lo hi : Int) (v : Value) : Prop := ∃ x : Int, (lo ≤ x ∧ x ≤ hi) ∧ v = .int .i64 x
def LsR (B : Nat) (w w' : World) : Prop := Only B w w'
theorem LsR.row {B : Nat} {w w' : World} (h : LsR B w w') {L : List Int} {v : Value} (hv : RowL B L v w) : RowL B L v w' := by
  obtain ⟨g, h1, h2, h3, h4⟩ := hv
  exact ⟨g, h1, by have := h.size; omega, h3, fun i hi => by rw [Only.cell h h2 h1]; exact h4 i hi⟩
theorem LsR.ptr {B : Nat} {w w' : World} (h : LsR B w w') {L : List Int} {v : Value} (hv : PtrL B L v w) : PtrL B L v w' := by
  obtain ⟨g, o, h1, h2, h3, x, h4, h5⟩ := hv
  exact ⟨g, o, h1, by have := h.size; omega, h3, x, h4, by rw [Only.cell h h2 h1]; exact h5⟩
theorem RowL.new {B : Nat} {w : World} (hB : B < w.heap.size) (L : List Int) {cs : Array Value} (hcs : cs = (L.map (Value.int .i64)).toArray) (t : TypeId) : RowL B L (.slice (some ⟨w.heap.size, 0, none⟩) L.length L.length) (w.alloc (.cells cs t)) := by
  refine ⟨w.heap.size, by omega, by simp, rfl, fun i hi => ?_⟩
  subst hcs
  rw [(Whole.fresh w t _).read]
  rw [List.getElem?_toArray, List.getElem?_map, List.getElem?_eq_getElem hi]; rfl
/-- The state: K choices at most, while f operations are left. -/
def LsC (B : Nat) (a : Option Addr) (len cap K : Nat) (w0 : World) (C H R : Nat) (t1 t2 : Tb) (f : Nat) (w : World) : Prop := ∃ k, k + f ≤ K ∧ GS B a len cap k w0 C H R t1 t2 w
theorem LsC.step {B : Nat} {a : Option Addr} {len cap K : Nat} {w0 w : World} {C H R : Nat} {t1 t2 : Tb} {f : Nat} (h : LsC B a len cap K w0 C H R t1 t2 (f + 1) w) : LsC B a len cap K w0 C H R t1 t2 f w := by
  obtain ⟨k, h1, h2⟩ := h; exact ⟨k, by omega, h2⟩
theorem LsC.alloc {B : Nat} {a : Option Addr} {len cap K : Nat} {w0 w : World} {C H R : Nat} {t1 t2 : Tb} {f : Nat} (h : LsC B a len cap K w0 C H R t1 t2 (f + 1) w) (o : Obj) : LsC B a len cap K w0 C H R t1 t2 f (w.alloc o) := by
  obtain ⟨k, h1, h2⟩ := h; exact ⟨k, by omega, h2.below ((Below.refl _ _).alloc (Nat.le_refl _) o)⟩
/-- Two numbers out of two lists. -/
def TwV (B : Nat) (L1 L2 : List Int) : Nat → Value → World → Prop
  | 0, v, w => RowL B L1 v w
  | 1, v, _ => v = .pointer (some ⟨B, 0, none⟩)
  | 2, v, _ => IntR 0 3 v
  | 3, v, w => PtrL B L1 v w
  | 4, v, _ => InL L1 v
  | 5, v, w => RowL B L2 v w
  | 6, v, _ => v = .pointer (some ⟨B, 0, none⟩)
  | 7, v, _ => IntR 0 3 v
  | 8, v, w => PtrL B L2 v w
  | 9, v, _ => InL L2 v
  | 10, v, _ => InL L1 v
  | 11, v, _ => InL L2 v
  | _, _, _ => True
theorem TwV.keep {B : Nat} {L1 L2 : List Int} (i : Nat) (v : Value) (w w' : World) (h : LsR B w w') (hv : TwV B L1 L2 i v w) : TwV B L1 L2 i v w' := by
  unfold TwV at *
  split at hv <;> first | exact hv | exact h.row hv | exact h.ptr hv | trivial
/-- One number out of a list, and another one. -/
def OnV (B : Nat) (L1 : List Int) : Nat → Value → World → Prop
  | 0, v, w => RowL B L1 v w
  | 1, v, _ => v = .pointer (some ⟨B, 0, none⟩)
  | 2, v, _ => IntR 0 3 v
  | 3, v, w => PtrL B L1 v w
  | 4, v, _ => InL L1 v
  | 5, v, _ => v = .pointer (some ⟨B, 0, none⟩)
  | 6, v, _ => IntR 0 2 v
  | 7, v, _ => IntR 1 3 v
  | 8, v, _ => InL L1 v
  | 9, v, _ => IntR 1 3 v
  | _, _, _ => True
theorem OnV.keep {B : Nat} {L1 : List Int} (i : Nat) (v : Value) (w w' : World) (h : LsR B w w') (hv : OnV B L1 i v w) : OnV B L1 i v w' := by
  unfold OnV at *
  split at hv <;> first | exact hv | exact h.row hv | exact h.ptr hv | trivial
end Go.Proofs.Ytgojbomdkdlclaa

