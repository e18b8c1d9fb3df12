/-
  Layer 10: how the two tables turn: a struct is appended to a row, a cell of a row is written, the map gets a number. No call is walked here.
-/
import Derived.Test.YtgojbomdkdlclaaFlObj
namespace Go.Proofs.Ytgojbomdkdlclaa
open Go.ChangeShapes Go.WideShapes Go.ChangeAt Go.RowKit
set_option linter.unusedVariables false

theorem blk5 {w : World} {H : Nat} {a b c d e : Value} {T : TypeId} (h : w.heap[H]? = some (.cells #[a, b, c, d, e] T (0, 0))) :
    w.cell? ⟨H, 0, none⟩ = some a ∧ w.cell? ⟨H, 1, none⟩ = some b ∧ w.cell? ⟨H, 2, none⟩ = some c ∧ w.cell? ⟨H, 3, none⟩ = some d ∧ w.cell? ⟨H, 4, none⟩ = some e ∧ ∀ o, w.frozen? ⟨H, o, none⟩ = false :=
  ⟨by simp [World.cell?, h], by simp [World.cell?, h], by simp [World.cell?, h], by simp [World.cell?, h], by simp [World.cell?, h], fun o => by simp [World.frozen?, h]⟩
section
universe u
variable {α : Type u} {cs : α → List Value} {n : Nat}
/-- One cell of one struct of a row is written. -/
theorem row_cell {w : World} {C g m c i k : Nat} {t : TypeId} {L : List α} (hn : ∀ a, (cs a).length = n) (h : w.ownsRow C t n (.slice (some ⟨g, 0, none⟩) m c) m (srs cs L)) (hi : i < L.length) (a : α) (u : Value) (hk : k < n) (e : cs a = (cs L[i]).set k u) :
    (w.setCell ⟨g, i * n + k, none⟩ u).ownsRow C t n (.slice (some ⟨g, 0, none⟩) m c) m (srs cs (L.set i a)) := by
  rw [srs_set hn L i k hi a u hk e]; exact (h.stored _ u).1
end
section
variable {w w1 w2 : World} {C H R mb : Nat} {t t' : Tb} {vS vF vG v' : Value}
theorem own_ne {base k : Nat} {ty : TypeId} {s n : Nat} {v : Value} {xs : List Value} {b : Nat} (h : w.ownsRow base ty s v n xs) (hb : b < w.heap.size) (hv : v'.ownBlock = v.ownBlock ∨ ∃ g, v'.ownBlock = some g ∧ w1.heap.size ≤ g) (hs : w.heap.size ≤ w1.heap.size) (hn : v.ownBlock ≠ some b) : v'.ownBlock ≠ some b := by
  rcases hv with e | ⟨g, e, h1⟩
  · rw [e]; exact hn
  · rw [e]; intro e2; have : g = b := by simpa using e2
    omega
/-- Behind a grown row of flows. -/
theorem PW.afterF (h : PW w C H mb t vS vF) (hb : Below w.heap.size w w1) (hg : w1.grownBy w2 vF.ownBlock) : w2.heap[H]? = w.heap[H]? ∧ w2.heap[mb]? = w.heap[mb]? ∧ ∀ k, vS.ownBlock = some k → w2.heap[k]? = w.heap[k]? := by
  obtain ⟨a1, a2, a3, a4, a5, a6⟩ := h.apart
  have key : ∀ k, pfoot H mb vS vF k → vF.ownBlock ≠ some k → w2.heap[k]? = w.heap[k]? := fun k hk hn => by
    have h1 := (h.lt k hk).2
    exact (hg.block k (by have := hb.size; omega) (fun e => hn e.symm)).trans (hb.block k h1)
  exact ⟨key H (.inl rfl) a3, key mb (.inr (.inl rfl)) a5, fun k e => key k (.inr (.inr (.inl e))) (a6 k e)⟩
theorem PW.afterS (h : PW w C H mb t vS vF) (hb : Below w.heap.size w w1) (hg : w1.grownBy w2 vS.ownBlock) : w2.heap[H]? = w.heap[H]? ∧ w2.heap[mb]? = w.heap[mb]? ∧ ∀ k, vF.ownBlock = some k → w2.heap[k]? = w.heap[k]? := by
  obtain ⟨a1, a2, a3, a4, a5, a6⟩ := h.apart
  have key : ∀ k, pfoot H mb vS vF k → vS.ownBlock ≠ some k → w2.heap[k]? = w.heap[k]? := fun k hk hn => by
    have h1 := (h.lt k hk).2
    exact (hg.block k (by have := hb.size; omega) (fun e => hn e.symm)).trans (hb.block k h1)
  exact ⟨key H (.inl rfl) a2, key mb (.inr (.inl rfl)) a4, fun k e => key k (.inr (.inr (.inr e))) (fun e' => a6 k e' e)⟩
theorem PW.pushF (h : PW w C H mb t vS vF) (hb : Below w.heap.size w w1) (hg : w1.grownBy w2 vF.ownBlock) (hv : v'.ownBlock = vF.ownBlock ∨ ∃ g, v'.ownBlock = some g ∧ w1.heap.size ≤ g)
    (he : w2.ownsRow C 72 7 v' t'.F.length (srs csF (pfl t'.F t'.G))) (e1 : t'.cap = t.cap) (e2 : t'.rt = t.rt) (e3 : t'.S = t.S) :
    PW (w2.setCell ⟨H, 3, none⟩ v') C H mb t' vS v' ∧ Chg (pfoot H mb vS vF) w (w2.setCell ⟨H, 3, none⟩ v') ∧ ∀ k, pfoot H mb vS v' k → pfoot H mb vS vF k ∨ w.heap.size ≤ k := by
  obtain ⟨b1, b2, b3⟩ := h.afterF hb hg
  obtain ⟨a1, a2, a3, a4, a5, a6⟩ := h.apart
  have hH := (h.lt H (.inl rfl)).2
  have hvH : v'.ownBlock ≠ some H := own_ne (k := 0) h.rowF hH hv hb.size a3
  have far : ∀ k, k ≠ H → (w2.setCell ⟨H, 3, none⟩ v').heap[k]? = w2.heap[k]? := fun k hk => Below.heap_setCell w2 ⟨H, 3, none⟩ _ k hk
  refine ⟨⟨?_, ?_, owk he fun k e => far k (fun e' => hvH (by rw [e, e'])), ?_, h.lo⟩, ?_, ?_⟩
  · rw [heap_setCell_same w2 H 3 _ _ v' (b1.trans h.blk), e1, e2]; rfl
  · rw [e3]; exact owk h.rowS fun k e => (far k (fun e' => a2 (by rw [e, e']))).trans (b3 k e)
  · rw [e3]; exact h.map.keep ((far mb a1).trans b2)
  · exact (((Chg.of_below (S := pfoot H mb vS vF) hb).grown (w' := w2) hg (fun k e => .inl (.inr (.inr (.inr e)))))).setCell (.inl rfl) _ _
  · rintro k (e | e | e | e)
    · exact .inl (.inl e)
    · exact .inl (.inr (.inl e))
    · exact .inl (.inr (.inr (.inl e)))
    · rcases hv with e' | ⟨g, e', h1⟩
      · exact .inl (.inr (.inr (.inr (by rw [← e']; exact e))))
      · right; rw [e'] at e; have : g = k := by simpa using e
        have := hb.size; omega
theorem PW.pushS (h : PW w C H mb t vS vF) (hb : Below w.heap.size w w1) (hg : w1.grownBy w2 vS.ownBlock) (hv : v'.ownBlock = vS.ownBlock ∨ ∃ g, v'.ownBlock = some g ∧ w1.heap.size ≤ g)
    (he : w2.ownsRow C 68 4 v' t'.S.length (srs csS t'.S)) {w3 w4 : World} (h3 : w3 = w2.setCell ⟨H, 2, none⟩ v') (hm : NumMap w4 mb t'.S) (hg4 : w3.grownBy w4 (some mb)) (e1 : t'.cap = t.cap) (e2 : t'.rt = t.rt) (e3 : t'.F = t.F) (e4 : t'.G = t.G) :
    PW w4 C H mb t' v' vF ∧ Chg (pfoot H mb vS vF) w w4 ∧ ∀ k, pfoot H mb v' vF k → pfoot H mb vS vF k ∨ w.heap.size ≤ k := by
  subst h3
  obtain ⟨b1, b2, b3⟩ := h.afterS hb hg
  obtain ⟨a1, a2, a3, a4, a5, a6⟩ := h.apart
  have hH := (h.lt H (.inl rfl)).2
  have hM := (h.lt mb (.inr (.inl rfl))).2
  have hvH : v'.ownBlock ≠ some H := own_ne (k := 0) h.rowS hH hv hb.size a2
  have hvM : v'.ownBlock ≠ some mb := own_ne (k := 0) h.rowS hM hv hb.size a4
  have hsz : w.heap.size ≤ w2.heap.size := Nat.le_trans hb.size hg.size
  have far : ∀ k, k ≠ H → (w2.setCell ⟨H, 2, none⟩ v').heap[k]? = w2.heap[k]? := fun k hk => Below.heap_setCell w2 ⟨H, 2, none⟩ _ k hk
  have far4 : ∀ k, k < w2.heap.size → k ≠ mb → w4.heap[k]? = (w2.setCell ⟨H, 2, none⟩ v').heap[k]? := fun k hk hn => hg4.block k (by simpa [World.setCell] using hk) (fun e => hn (by simpa using e))
  have ltv : ∀ k, v'.ownBlock = some k → k < w2.heap.size := fun k e => (World.ownsRow.lt he k e).2
  refine ⟨⟨?_, owk he fun k e => (far4 k (ltv k e) (fun e' => hvM (by rw [e, e']))).trans (far k (fun e' => hvH (by rw [e, e']))), ?_, hm, h.lo⟩, ?_, ?_⟩
  · rw [far4 H (by omega) (fun e => a1 e.symm), heap_setCell_same w2 H 2 _ _ v' (b1.trans h.blk), e1, e2]; rfl
  · rw [e3, e4]
    exact owk h.rowF fun k e => by
      have hk := (World.ownsRow.lt h.rowF k e).2
      exact ((far4 k (by omega) (fun e' => a5 (by rw [e, e']))).trans (far k (fun e' => a3 (by rw [e, e'])))).trans (b3 k e)
  · have c1 := (((Chg.of_below (S := pfoot H mb vS vF) hb).grown (w' := w2) hg (fun k e => .inl (.inr (.inr (.inl e)))))).setCell (.inl rfl) 2 v'
    exact c1.grown hg4 (fun k e => .inl (.inr (.inl (by simpa using e.symm))))
  · rintro k (e | e | e | e)
    · exact .inl (.inl e)
    · exact .inl (.inr (.inl e))
    · rcases hv with e' | ⟨g, e', h1⟩
      · exact .inl (.inr (.inr (.inl (by rw [← e']; exact e))))
      · right; rw [e'] at e; have : g = k := by simpa using e
        have := hb.size; omega
    · exact .inl (.inr (.inr (.inr e)))
/-- A cell of a flow is written. -/
theorem PW.setF {g o : Nat} {u : Value} (h : PW w C H mb t vS vF) (hv : vF.ownBlock = some g) (he : (w.setCell ⟨g, o, none⟩ u).ownsRow C 72 7 vF t'.F.length (srs csF (pfl t'.F t'.G)))
    (e1 : t'.cap = t.cap) (e2 : t'.rt = t.rt) (e3 : t'.S = t.S) : PW (w.setCell ⟨g, o, none⟩ u) C H mb t' vS vF ∧ Chg (pfoot H mb vS vF) w (w.setCell ⟨g, o, none⟩ u) := by
  obtain ⟨a1, a2, a3, a4, a5, a6⟩ := h.apart
  have far : ∀ k, vF.ownBlock ≠ some k → (w.setCell ⟨g, o, none⟩ u).heap[k]? = w.heap[k]? := fun k hk => Below.heap_setCell w ⟨g, o, none⟩ _ k (fun e => hk (by have e : k = g := e; rw [e]; exact hv))
  refine ⟨⟨?_, ?_, he, ?_, h.lo⟩, (Chg.refl _ _).setCell (.inr (.inr (.inr hv))) _ _⟩
  · rw [far H a3, h.blk, e1, e2]
  · rw [e3]; exact owk h.rowS fun k e => far k (a6 k e)
  · rw [e3]; exact h.map.keep (far mb a5)
theorem RW.pushS (h : RW w C R t vS vF vG) (hb : Below w.heap.size w w1) (hg : w1.grownBy w2 vS.ownBlock) (hv : v'.ownBlock = vS.ownBlock ∨ ∃ g, v'.ownBlock = some g ∧ w1.heap.size ≤ g)
    (he : w2.ownsRow C 68 4 v' t'.S.length (srs csS t'.S)) (e1 : t'.cap = t.cap) (e2 : t'.rt = t.rt) (e3 : t'.F = t.F) (e4 : t'.G = t.G) :
    RW (w2.setCell ⟨R, 2, none⟩ v') C R t' v' vF vG ∧ Chg (rfoot R vS vF vG) w (w2.setCell ⟨R, 2, none⟩ v') ∧ ∀ k, rfoot R v' vF vG k → rfoot R vS vF vG k ∨ w.heap.size ≤ k := by
  obtain ⟨a1, a2, a3, a4, a5, a6⟩ := h.apart
  have hR := (h.lt R (.inl rfl)).2
  have hvR : v'.ownBlock ≠ some R := own_ne (k := 0) h.rowS hR hv hb.size a1
  have old : ∀ k, rfoot R vS vF vG k → vS.ownBlock ≠ some k → w2.heap[k]? = w.heap[k]? := fun k hk hn =>
    (hg.block k (by have := hb.size; have := (h.lt k hk).2; omega) (fun e => hn e.symm)).trans (hb.block k (h.lt k hk).2)
  have far : ∀ k, k ≠ R → (w2.setCell ⟨R, 2, none⟩ v').heap[k]? = w2.heap[k]? := fun k hk => Below.heap_setCell w2 ⟨R, 2, none⟩ _ k hk
  refine ⟨⟨?_, ?_, ?_, ?_, h.lo⟩, ?_, ?_⟩
  · rw [heap_setCell_same w2 R 2 _ _ v' ((old R (.inl rfl) a1).trans h.blk), e1, e2]; rfl
  · exact owk he fun k e => far k (fun e' => hvR (by rw [e, e']))
  · rw [e3]; exact owk h.rowF fun k e => (far k (fun e' => a2 (by rw [e, e']))).trans (old k (.inr (.inr (.inl e))) (fun e' => a4 k e' e))
  · rw [e4]; exact owk h.rowG fun k e => (far k (fun e' => a3 (by rw [e, e']))).trans (old k (.inr (.inr (.inr e))) (fun e' => a5 k e' e))
  · exact (((Chg.of_below (S := rfoot R vS vF vG) hb).grown (w' := w2) hg (fun k e => .inl (.inr (.inl e))))).setCell (.inl rfl) _ _
  · rintro k (e | e | e | e)
    · exact .inl (.inl e)
    · rcases hv with e' | ⟨g, e', h1⟩
      · exact .inl (.inr (.inl (by rw [← e']; exact e)))
      · right; rw [e'] at e; have : g = k := by simpa using e
        have := hb.size; omega
    · exact .inl (.inr (.inr (.inl e)))
    · exact .inl (.inr (.inr (.inr e)))
theorem RW.pushF (h : RW w C R t vS vF vG) (hb : Below w.heap.size w w1) (hg : w1.grownBy w2 vF.ownBlock) (hv : v'.ownBlock = vF.ownBlock ∨ ∃ g, v'.ownBlock = some g ∧ w1.heap.size ≤ g)
    (he : w2.ownsRow C 72 7 v' t'.F.length (srs csF t'.F)) (e1 : t'.cap = t.cap) (e2 : t'.rt = t.rt) (e3 : t'.S = t.S) (e4 : t'.G = t.G) :
    RW (w2.setCell ⟨R, 3, none⟩ v') C R t' vS v' vG ∧ Chg (rfoot R vS vF vG) w (w2.setCell ⟨R, 3, none⟩ v') ∧ ∀ k, rfoot R vS v' vG k → rfoot R vS vF vG k ∨ w.heap.size ≤ k := by
  obtain ⟨a1, a2, a3, a4, a5, a6⟩ := h.apart
  have hR := (h.lt R (.inl rfl)).2
  have hvR : v'.ownBlock ≠ some R := own_ne (k := 0) h.rowF hR hv hb.size a2
  have old : ∀ k, rfoot R vS vF vG k → vF.ownBlock ≠ some k → w2.heap[k]? = w.heap[k]? := fun k hk hn =>
    (hg.block k (by have := hb.size; have := (h.lt k hk).2; omega) (fun e => hn e.symm)).trans (hb.block k (h.lt k hk).2)
  have far : ∀ k, k ≠ R → (w2.setCell ⟨R, 3, none⟩ v').heap[k]? = w2.heap[k]? := fun k hk => Below.heap_setCell w2 ⟨R, 3, none⟩ _ k hk
  refine ⟨⟨?_, ?_, ?_, ?_, h.lo⟩, ?_, ?_⟩
  · rw [heap_setCell_same w2 R 3 _ _ v' ((old R (.inl rfl) a2).trans h.blk), e1, e2]; rfl
  · rw [e3]; exact owk h.rowS fun k e => (far k (fun e' => a1 (by rw [e, e']))).trans (old k (.inr (.inl e)) (a4 k e))
  · exact owk he fun k e => far k (fun e' => hvR (by rw [e, e']))
  · rw [e4]; exact owk h.rowG fun k e => (far k (fun e' => a3 (by rw [e, e']))).trans (old k (.inr (.inr (.inr e))) (fun e' => a6 k e' e))
  · exact (((Chg.of_below (S := rfoot R vS vF vG) hb).grown (w' := w2) hg (fun k e => .inl (.inr (.inr (.inl e)))))).setCell (.inl rfl) _ _
  · rintro k (e | e | e | e)
    · exact .inl (.inl e)
    · exact .inl (.inr (.inl e))
    · rcases hv with e' | ⟨g, e', h1⟩
      · exact .inl (.inr (.inr (.inl (by rw [← e']; exact e))))
      · right; rw [e'] at e; have : g = k := by simpa using e
        have := hb.size; omega
    · exact .inl (.inr (.inr (.inr e)))
theorem RW.setF {g o : Nat} {u : Value} (h : RW w C R t vS vF vG) (hv : vF.ownBlock = some g) (he : (w.setCell ⟨g, o, none⟩ u).ownsRow C 72 7 vF t'.F.length (srs csF t'.F))
    (e1 : t'.cap = t.cap) (e2 : t'.rt = t.rt) (e3 : t'.S = t.S) (e4 : t'.G = t.G) : RW (w.setCell ⟨g, o, none⟩ u) C R t' vS vF vG ∧ Chg (rfoot R vS vF vG) w (w.setCell ⟨g, o, none⟩ u) := by
  obtain ⟨a1, a2, a3, a4, a5, a6⟩ := h.apart
  have far : ∀ k, vF.ownBlock ≠ some k → (w.setCell ⟨g, o, none⟩ u).heap[k]? = w.heap[k]? := fun k hk => Below.heap_setCell w ⟨g, o, none⟩ _ k (fun e => hk (by have e : k = g := e; rw [e]; exact hv))
  refine ⟨⟨?_, ?_, ?_, ?_, h.lo⟩, (Chg.refl _ _).setCell (.inr (.inr (.inl hv))) _ _⟩
  · rw [far R a2, h.blk, e1, e2]
  · rw [e3]; exact owk h.rowS fun k e => far k (a4 k e)
  · exact he
  · rw [e4]; exact owk h.rowG fun k e => far k (fun e' => a6 k e' e)
theorem RW.pushG (h : RW w C R t vS vF vG) (hb : Below w.heap.size w w1) (hg : w1.grownBy w2 vG.ownBlock) (hv : v'.ownBlock = vG.ownBlock ∨ ∃ g, v'.ownBlock = some g ∧ w1.heap.size ≤ g)
    (he : w2.ownsRow C 4 1 v' t'.G.length (srs csB t'.G)) (e1 : t'.cap = t.cap) (e2 : t'.rt = t.rt) (e3 : t'.S = t.S) (e4 : t'.F = t.F) :
    RW (w2.setCell ⟨R, 4, none⟩ v') C R t' vS vF v' ∧ Chg (rfoot R vS vF vG) w (w2.setCell ⟨R, 4, none⟩ v') ∧ ∀ k, rfoot R vS vF v' k → rfoot R vS vF vG k ∨ w.heap.size ≤ k := by
  obtain ⟨a1, a2, a3, a4, a5, a6⟩ := h.apart
  have hR := (h.lt R (.inl rfl)).2
  have hvR : v'.ownBlock ≠ some R := own_ne (k := 0) h.rowG hR hv hb.size a3
  have old : ∀ k, rfoot R vS vF vG k → vG.ownBlock ≠ some k → w2.heap[k]? = w.heap[k]? := fun k hk hn =>
    (hg.block k (by have := hb.size; have := (h.lt k hk).2; omega) (fun e => hn e.symm)).trans (hb.block k (h.lt k hk).2)
  have far : ∀ k, k ≠ R → (w2.setCell ⟨R, 4, none⟩ v').heap[k]? = w2.heap[k]? := fun k hk => Below.heap_setCell w2 ⟨R, 4, none⟩ _ k hk
  refine ⟨⟨?_, ?_, ?_, ?_, h.lo⟩, ?_, ?_⟩
  · rw [heap_setCell_same w2 R 4 _ _ v' ((old R (.inl rfl) a3).trans h.blk), e1, e2]; rfl
  · rw [e3]; exact owk h.rowS fun k e => (far k (fun e' => a1 (by rw [e, e']))).trans (old k (.inr (.inl e)) (a5 k e))
  · rw [e4]; exact owk h.rowF fun k e => (far k (fun e' => a2 (by rw [e, e']))).trans (old k (.inr (.inr (.inl e))) (a6 k e))
  · exact owk he fun k e => far k (fun e' => hvR (by rw [e, e']))
  · exact (((Chg.of_below (S := rfoot R vS vF vG) hb).grown (w' := w2) hg (fun k e => .inl (.inr (.inr (.inr e)))))).setCell (.inl rfl) _ _
  · rintro k (e | e | e | e)
    · exact .inl (.inl e)
    · exact .inl (.inr (.inl e))
    · exact .inl (.inr (.inr (.inl e)))
    · rcases hv with e' | ⟨g, e', h1⟩
      · exact .inl (.inr (.inr (.inr (by rw [← e']; exact e))))
      · right; rw [e'] at e; have : g = k := by simpa using e
        have := hb.size; omega
theorem RW.setG {g o : Nat} {u : Value} (h : RW w C R t vS vF vG) (hv : vG.ownBlock = some g) (he : (w.setCell ⟨g, o, none⟩ u).ownsRow C 4 1 vG t'.G.length (srs csB t'.G))
    (e1 : t'.cap = t.cap) (e2 : t'.rt = t.rt) (e3 : t'.S = t.S) (e4 : t'.F = t.F) : RW (w.setCell ⟨g, o, none⟩ u) C R t' vS vF vG ∧ Chg (rfoot R vS vF vG) w (w.setCell ⟨g, o, none⟩ u) := by
  obtain ⟨a1, a2, a3, a4, a5, a6⟩ := h.apart
  have far : ∀ k, vG.ownBlock ≠ some k → (w.setCell ⟨g, o, none⟩ u).heap[k]? = w.heap[k]? := fun k hk => Below.heap_setCell w ⟨g, o, none⟩ _ k (fun e => hk (by have e : k = g := e; rw [e]; exact hv))
  refine ⟨⟨?_, ?_, ?_, ?_, h.lo⟩, (Chg.refl _ _).setCell (.inr (.inr (.inr hv))) _ _⟩
  · rw [far R a3, h.blk, e1, e2]
  · rw [e3]; exact owk h.rowS fun k e => far k (a5 k e)
  · rw [e4]; exact owk h.rowF fun k e => far k (a6 k e)
  · exact he
end
/-- A call on the table that has turned it as PW says. -/
theorem PAns.done {w w' : World} {C H mb : Nat} {S : Nat → Prop} {t' : Tb} {x : Value} {vS vF vS' vF' : Value} (hO : ∀ k, S k → C ≤ k ∧ k < w.heap.size) (hS : ∀ k, pfoot H mb vS vF k → S k) (h0 : TbOk t') (h1 : PW w' C H mb t' vS' vF')
    (hc : Chg (pfoot H mb vS vF) w w') (hn : ∀ k, pfoot H mb vS' vF' k → pfoot H mb vS vF k ∨ w.heap.size ≤ k) : PAns C H S t' x w (.returned x) w' := by
  refine ⟨rfl, fun k => S k ∨ pfoot H mb vS' vF' k, ⟨h0, ⟨vS', vF', mb, h1, fun k hk => .inr hk⟩, fun k hk => ?_⟩, hc.wider fun k _ hk => hS k hk, fun k hk => ?_⟩
  · rcases hk with hk | hk
    · have := hO k hk; have := hc.size; omega
    · exact h1.lt k hk
  · rcases hk with hk | hk
    · exact .inl hk
    · rcases hn k hk with h2 | h2
      · exact .inl (hS k h2)
      · exact .inr h2
theorem RAns.done {w w' : World} {C R : Nat} {S : Nat → Prop} {t' : Tb} {x : Value} {vS vF vG vS' vF' vG' : Value} (hO : ∀ k, S k → C ≤ k ∧ k < w.heap.size) (hS : ∀ k, rfoot R vS vF vG k → S k) (h0 : TbOk t') (h1 : RW w' C R t' vS' vF' vG')
    (hc : Chg (rfoot R vS vF vG) w w') (hn : ∀ k, rfoot R vS' vF' vG' k → rfoot R vS vF vG k ∨ w.heap.size ≤ k) : RAns C R S t' x w (.returned x) w' := by
  refine ⟨rfl, fun k => S k ∨ rfoot R vS' vF' vG' k, ⟨h0, ⟨vS', vF', vG', h1, fun k hk => .inr hk⟩, fun k hk => ?_⟩, hc.wider fun k _ hk => hS k hk, fun k hk => ?_⟩
  · rcases hk with hk | hk
    · have := hO k hk; have := hc.size; omega
    · exact h1.lt k hk
  · rcases hk with hk | hk
    · exact .inl hk
    · rcases hn k hk with h2 | h2
      · exact .inl (hS k h2)
      · exact .inr h2
theorem info_sta : (Try.prog.info? 68).map (fun i => (i.zero, i.size, i.bytes)) = some (some (.agg #[.int .i64 0, .string ⟨#[]⟩, .int .i64 0, .int .i64 0]), 4, 40) := by kernel_rfl
theorem info_flo : (Try.prog.info? 72).map (fun i => (i.zero, i.size, i.bytes)) = some (some (.agg #[.int .i64 0, .int .i64 0, .int .i64 0, .int .i64 0, .int .i64 0, .int .i64 0, .int .i64 0]), 7, 56) := by kernel_rfl
theorem info_boo : (Try.prog.info? 4).map (fun i => (i.zero, i.size, i.bytes)) = some (some (.bool false), 1, 1) := by kernel_rfl
theorem csS_one (s : Sta) : ∀ u ∈ csS s, u.oneCell' = true := by
  intro u hu; simp [csS] at hu; rcases hu with rfl | rfl | rfl | rfl <;> rfl
theorem csF_one (f : Flo) : ∀ u ∈ csF f, u.oneCell' = true := by
  intro u hu; simp [csF] at hu; rcases hu with rfl | rfl | rfl | rfl | rfl | rfl | rfl <;> rfl
theorem csB_one (b : Bool) : ∀ u ∈ csB b, u.oneCell' = true := by
  intro u hu; simp [csB] at hu; subst hu; rfl
end Go.Proofs.Ytgojbomdkdlclaa

