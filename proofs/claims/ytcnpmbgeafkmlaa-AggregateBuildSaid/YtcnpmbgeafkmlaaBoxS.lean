/-
  A block that is known whole beside the objects is written (Inv.boxPut, At.boxPut). Any layer. No program is named.
-/
import Derived.Test.YtcnpmbgeafkmlaaInvR
namespace Go.Proofs.Ytcnpmbgeafkmlaa
open Go.ChangeShapes Go.WideShapes Go.ChangeAt Go.RowKit
set_option linter.unusedVariables false

theorem Inv.boxPut {base : Nat} {w0 w : World} {P : RP} {g : Nat} {t : TypeId} {cs : Array Value} (h : Inv base w0 (Star (BoxP g t cs) P) w) (hP : Frm base P) (o : Nat) (u : Value) : Inv base w0 (Star (BoxP g t (cs.setIfInBounds o u)) P) (w.setCell ⟨g, o, none⟩ u) := by
  obtain ⟨T, ⟨A, B, hT, hd, ⟨h1, h2⟩, hp⟩, hb, hbl, hs⟩ := h
  have hg : A g := (h1 g).2 rfl
  have hbg : base ≤ g := hb g ((hT g).2 (.inl hg))
  have hch : Chg A w (w.setCell ⟨g, o, none⟩ u) := (Chg.refl A w).setCell hg o u
  exact ⟨T, ⟨A, B, hT, hd, ⟨h1, h2.put o u⟩, hP.chg hp hch (fun k hk => by rw [(h1 k).1 hk]; exact hbg) (fun k hk ha => hd k ha hk)⟩, hb, hbl.setCell (p := ⟨g, o, none⟩) hbg u, by simpa [World.setCell] using hs⟩
end Go.Proofs.Ytcnpmbgeafkmlaa

