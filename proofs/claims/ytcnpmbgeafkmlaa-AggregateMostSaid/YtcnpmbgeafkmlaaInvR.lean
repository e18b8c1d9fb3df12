/-
  The walk's invariant (Inv) with a row of the call's own that grows beside the objects; a call whose blocks are known (callD). Any layer. No program's object is named.
-/
import Derived.Test.YtcnpmbgeafkmlaaAt
import Derived.Test.YtcnpmbgeafkmlaaDrw
namespace Go.Proofs.Ytcnpmbgeafkmlaa
open Go.ChangeShapes Go.WideShapes Go.ChangeAt Go.RowKit
set_option linter.unusedVariables false

section
universe u
variable {α : Type u} {cs : α → List Value} {m : Nat} {t TY : TypeId} {w w0 w1 : World} {v : Value} {l : List α} {P X : RP} {base : Nat} {f : FuncId} {args : Array Value} {ι : Type} {val : ι → Value} {G : ι → RP}
theorem Inv.row0 (h : Inv base w0 P w) : Inv base w0 (Star (RowP cs m t base (.slice none 0 0) ([] : List α)) P) w :=
  h.imp fun T hp => ⟨fun _ => False, T, fun k => by simp, (fun k hk => hk.elim), RowP.nil base, hp⟩
/-- One element more. -/
theorem Inv.app (E : Elt cs m t TY) (h : Inv base w0 (Star (RowP cs m t base v l) P) w1) (hP : Frm base P) (hn : l.length ≤ 99999) (x : α) :
    ∃ A c w2, (Builtin.append_ #[TY, TY] TY #[v, .slice (some ⟨w1.heap.size, 0, none⟩) 1 1]).run Try.prog (w1.alloc (.cells (cs x).toArray t)) = .ok (.slice A (l.length + 1) c) w2 ∧ Inv base w0 (Star (RowP cs m t base (.slice A (l.length + 1) c) (l ++ [x])) P) w2 := by
  obtain ⟨T1, ⟨A1, B1, hT, hd, ⟨g1, g2⟩, hp⟩, hb, hbl, hs⟩ := h
  obtain ⟨A, c, w2, hrun, hv, hbw, hk, hwh⟩ := E.app_new3 x g2 (by omega) hs
  have hch : Chg A1 w1 w2 := ⟨hbw.os, hbw.tape, hbw.output, hbw.size, fun k hk1 hk2 => hk k hk1 (fun e => hk2 ((g1 k).2 e))⟩
  have hv' : w2.ownsRow base t m (.slice A (l.length + 1) c) (l ++ [x]).length (srs cs (l ++ [x])) := by rw [List.length_append]; exact hv
  refine ⟨A, c, w2, hrun, fun k => (Value.slice A (l.length + 1) c).ownBlock = some k ∨ B1 k, ⟨fun k => (Value.slice A (l.length + 1) c).ownBlock = some k, B1, fun k => Iff.rfl, fun k e hb1 => ?_, ⟨fun k => Iff.rfl, hv'⟩, hP.chg hp hch (fun k hk1 => hb k ((hT k).2 (.inl hk1))) (fun k hk1 hk2 => hd k hk2 hk1)⟩, fun k hk1 => ?_, hbl.trans hbw, Nat.le_trans hs hbw.size⟩
  · rcases hwh with e2 | ⟨g, e2, e3⟩
    · rw [e2] at e
      exact hd k ((g1 k).2 e) hb1
    · rw [e2] at e
      have h9 := hP.lt hp k hb1
      have : g = k := by simpa using e
      omega
  · rcases hk1 with e | hb1
    · exact (own_lt hv e).1
    · exact hb k ((hT k).2 (.inr hb1))
/-- The row as a list. -/
theorem Inv.rowA (E : Elt cs m t TY) (h : Inv base w0 (Star (RowP cs m t base v l) P) w1) : LsA cs m t v l w1 := by
  obtain ⟨T1, ⟨A1, B1, _, _, ⟨g1, g2⟩, _⟩, _⟩ := h
  exact (E.row_ls1 g2 rfl).wider fun b hb => (own_lt g2 hb).2
theorem Inv.getL (h : Inv base w0 (Star P X) w) : ∃ T, P T w := by obtain ⟨_, ⟨A, _, _, _, hp, _⟩, _⟩ := h; exact ⟨A, hp⟩
/-- A call, and which blocks it has turned. -/
theorem Inv.callD (h : Inv base w0 (Star X P) w) (hX : Frm base X) (hc : Acts f args base P val G) :
    Calls Try.prog f args w fun e w' => ∃ i, e = .returned (val i) ∧ Inv base w0 (Star X (G i)) w' ∧ ∃ T, P T w ∧ Chg T w w' := by
  obtain ⟨T1, ⟨A, B, hT, hd, hx, hp⟩, hb, hbl, hs⟩ := h
  refine (hc B w hp (fun k hk => hb k ((hT k).2 (.inr hk))) hs).mono ?_
  rintro e w' ⟨i, e1, ⟨T', hq, hT'⟩, hch⟩
  refine ⟨i, e1, ⟨fun k => A k ∨ T' k, ⟨A, T', fun k => Iff.rfl, fun k ha ht => ?_, hX.chg hx hch (fun k hk => hb k ((hT k).2 (.inr hk))) (fun k ha => hd k ha), hq⟩, fun k hk => ?_, hbl.trans (hch.below hs (fun k hk => hb k ((hT k).2 (.inr hk)))), Nat.le_trans hs hch.size⟩, B, hp, hch⟩
  · rcases hT' k ht with h1 | h1
    · exact hd k ha h1
    · have := hX.lt hx k ha; omega
  · rcases hk with h1 | h1
    · exact hb k ((hT k).2 (.inl h1))
    · rcases hT' k h1 with h2 | h2
      · exact hb k ((hT k).2 (.inr h2))
      · omega
end
/-- A number drawn beside other objects: no block but the choices' has turned. -/
theorem Inv.nextD {X : RP} {base B : Nat} {a : Option Addr} {len cap q : Nat} {w w0 : World} (h : Inv base w0 (Star X (GenP base B a len cap q)) w) (hX : Frm base X) {n : Int} (n0 : 1 ≤ n) (n1 : n ≤ 1000000000) (hq : q ≤ 1000000000) :
    Calls Try.prog 15 #[.pointer (some ⟨B, 0, none⟩), .int .i64 n] w fun e w' => ∃ r : Int, 0 ≤ r ∧ r < n ∧ e = .returned (.int .i64 r) ∧ Inv base w0 (Star X (GenP base B a len cap (q + 1))) w' ∧ DrR B w w' :=
  (h.callD hX (GenP.next n0 n1 hq)).mono fun e w' ⟨r, e1, h2, T, hp, hch⟩ => ⟨r.1, r.2.1, r.2.2, e1, h2, hch.size, fun b hb hne => hch.block b hb (fun hT => hne ((hp.1 b).1 hT))⟩
end Go.Proofs.Ytcnpmbgeafkmlaa

