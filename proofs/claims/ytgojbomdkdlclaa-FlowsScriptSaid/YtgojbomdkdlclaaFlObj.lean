/-
  Layer 10: the program's table and the reference's behind their pointers, as objects; what a call leaves. No call is walked here.
-/
import Derived.Test.YtgojbomdkdlclaaFlMem
namespace Go.Proofs.Ytgojbomdkdlclaa
open Go.ChangeShapes Go.WideShapes Go.ChangeAt Go.RowKit
set_option linter.unusedVariables false

/-- The program's table behind pointer H. -/
structure PW (w : World) (C H mb : Nat) (t : Tb) (vS vF : Value) : Prop where
  blk : w.heap[H]? = some (.cells #[.int .i64 t.cap, .int .i64 t.rt, vS, vF, .map (some mb)] 58 (0, 0))
  rowS : w.ownsRow C 68 4 vS t.S.length (srs csS t.S)
  rowF : w.ownsRow C 72 7 vF t.F.length (srs csF (pfl t.F t.G))
  map : NumMap w mb t.S
  lo : C ≤ H ∧ C ≤ mb
/-- The reference's table behind pointer R. -/
structure RW (w : World) (C R : Nat) (t : Tb) (vS vF vG : Value) : Prop where
  blk : w.heap[R]? = some (.cells #[.int .i64 t.cap, .int .i64 t.rt, vS, vF, vG] 61 (0, 0))
  rowS : w.ownsRow C 68 4 vS t.S.length (srs csS t.S)
  rowF : w.ownsRow C 72 7 vF t.F.length (srs csF t.F)
  rowG : w.ownsRow C 4 1 vG t.G.length (srs csB t.G)
  lo : C ≤ R
def pfoot (H mb : Nat) (vS vF : Value) : Nat → Prop := fun k => k = H ∨ k = mb ∨ vS.ownBlock = some k ∨ vF.ownBlock = some k
def rfoot (R : Nat) (vS vF vG : Value) : Nat → Prop := fun k => k = R ∨ vS.ownBlock = some k ∨ vF.ownBlock = some k ∨ vG.ownBlock = some k
section
variable {w w' : World} {C H R mb : Nat} {t : Tb} {vS vF vG : Value}
theorem PW.keep (h : PW w C H mb t vS vF) (hk : ∀ k, pfoot H mb vS vF k → w'.heap[k]? = w.heap[k]?) : PW w' C H mb t vS vF :=
  ⟨(hk H (.inl rfl)).trans h.blk, owk h.rowS fun k e => hk k (.inr (.inr (.inl e))), owk h.rowF fun k e => hk k (.inr (.inr (.inr e))), h.map.keep (hk mb (.inr (.inl rfl))), h.lo⟩
theorem RW.keep (h : RW w C R t vS vF vG) (hk : ∀ k, rfoot R vS vF vG k → w'.heap[k]? = w.heap[k]?) : RW w' C R t vS vF vG :=
  ⟨(hk R (.inl rfl)).trans h.blk, owk h.rowS fun k e => hk k (.inr (.inl e)), owk h.rowF fun k e => hk k (.inr (.inr (.inl e))), owk h.rowG fun k e => hk k (.inr (.inr (.inr e))), h.lo⟩
theorem PW.lt (h : PW w C H mb t vS vF) : ∀ k, pfoot H mb vS vF k → C ≤ k ∧ k < w.heap.size := by
  rintro k (rfl | rfl | e | e)
  · exact ⟨h.lo.1, lt_of_block h.blk⟩
  · exact ⟨h.lo.2, h.map.lt⟩
  · exact World.ownsRow.lt h.rowS k e
  · exact World.ownsRow.lt h.rowF k e
theorem RW.lt (h : RW w C R t vS vF vG) : ∀ k, rfoot R vS vF vG k → C ≤ k ∧ k < w.heap.size := by
  rintro k (rfl | e | e | e)
  · exact ⟨h.lo, lt_of_block h.blk⟩
  · exact World.ownsRow.lt h.rowS k e
  · exact World.ownsRow.lt h.rowF k e
  · exact World.ownsRow.lt h.rowG k e
/-- All its blocks are apart. -/
theorem PW.apart (h : PW w C H mb t vS vF) : mb ≠ H ∧ vS.ownBlock ≠ some H ∧ vF.ownBlock ≠ some H ∧ vS.ownBlock ≠ some mb ∧ vF.ownBlock ≠ some mb ∧ ∀ k, vS.ownBlock = some k → vF.ownBlock ≠ some k := by
  obtain ⟨es, cl, hm⟩ := h.map.type
  refine ⟨fun e => ?_, fun e => ?_, fun e => ?_, fun e => ?_, fun e => ?_, fun k e e' => ?_⟩
  · subst e; rw [h.blk] at hm; cases hm
  · obtain ⟨cur, k1⟩ := ow_type h.rowS e; rw [h.blk] at k1; simp at k1
  · obtain ⟨cur, k1⟩ := ow_type h.rowF e; rw [h.blk] at k1; simp at k1
  · obtain ⟨cur, k1⟩ := ow_type h.rowS e; rw [hm] at k1; cases k1
  · obtain ⟨cur, k1⟩ := ow_type h.rowF e; rw [hm] at k1; cases k1
  · obtain ⟨cur, k1⟩ := ow_type h.rowS e
    obtain ⟨cur', k2⟩ := ow_type h.rowF e'
    rw [k1] at k2; simp at k2
theorem RW.apart (h : RW w C R t vS vF vG) : vS.ownBlock ≠ some R ∧ vF.ownBlock ≠ some R ∧ vG.ownBlock ≠ some R ∧ (∀ k, vS.ownBlock = some k → vF.ownBlock ≠ some k) ∧ (∀ k, vS.ownBlock = some k → vG.ownBlock ≠ some k) ∧ ∀ k, vF.ownBlock = some k → vG.ownBlock ≠ some k := by
  refine ⟨fun e => ?_, fun e => ?_, fun e => ?_, fun k e e' => ?_, fun k e e' => ?_, fun k e e' => ?_⟩
  · obtain ⟨cur, k1⟩ := ow_type h.rowS e; rw [h.blk] at k1; simp at k1
  · obtain ⟨cur, k1⟩ := ow_type h.rowF e; rw [h.blk] at k1; simp at k1
  · obtain ⟨cur, k1⟩ := ow_type h.rowG e; rw [h.blk] at k1; simp at k1
  · obtain ⟨cur, k1⟩ := ow_type h.rowS e
    obtain ⟨cur', k2⟩ := ow_type h.rowF e'
    rw [k1] at k2; simp at k2
  · obtain ⟨cur, k1⟩ := ow_type h.rowS e
    obtain ⟨cur', k2⟩ := ow_type h.rowG e'
    rw [k1] at k2; simp at k2
  · obtain ⟨cur, k1⟩ := ow_type h.rowF e
    obtain ⟨cur', k2⟩ := ow_type h.rowG e'
    rw [k1] at k2; simp at k2
theorem PW.below (h : PW w C H mb t vS vF) (hb : Below w.heap.size w w') : PW w' C H mb t vS vF := h.keep fun k hk => hb.block k (h.lt k hk).2
theorem RW.below (h : RW w C R t vS vF vG) (hb : Below w.heap.size w w') : RW w' C R t vS vF vG := h.keep fun k hk => hb.block k (h.lt k hk).2
theorem PW.cells (h : PW w C H mb t vS vF) : w.cell? ⟨H, 0, none⟩ = some (.int .i64 t.cap) ∧ w.cell? ⟨H, 1, none⟩ = some (.int .i64 t.rt) ∧ w.cell? ⟨H, 2, none⟩ = some vS ∧ w.cell? ⟨H, 3, none⟩ = some vF ∧ w.cell? ⟨H, 4, none⟩ = some (.map (some mb)) ∧ w.frozen? ⟨H, 2, none⟩ = false ∧ w.frozen? ⟨H, 3, none⟩ = false := by
  have := h.blk
  exact ⟨by simp [World.cell?, this], by simp [World.cell?, this], by simp [World.cell?, this], by simp [World.cell?, this], by simp [World.cell?, this], by simp [World.frozen?, this], by simp [World.frozen?, this]⟩
theorem RW.cells (h : RW w C R t vS vF vG) : w.cell? ⟨R, 0, none⟩ = some (.int .i64 t.cap) ∧ w.cell? ⟨R, 1, none⟩ = some (.int .i64 t.rt) ∧ w.cell? ⟨R, 2, none⟩ = some vS ∧ w.cell? ⟨R, 3, none⟩ = some vF ∧ w.cell? ⟨R, 4, none⟩ = some vG ∧ w.frozen? ⟨R, 2, none⟩ = false ∧ w.frozen? ⟨R, 3, none⟩ = false ∧ w.frozen? ⟨R, 4, none⟩ = false := by
  have := h.blk
  exact ⟨by simp [World.cell?, this], by simp [World.cell?, this], by simp [World.cell?, this], by simp [World.cell?, this], by simp [World.cell?, this], by simp [World.frozen?, this], by simp [World.frozen?, this], by simp [World.frozen?, this]⟩
end
/-- The program's table t behind H: its blocks are in S, from C on. -/
def PO (C H : Nat) (S : Nat → Prop) (t : Tb) (w : World) : Prop :=
  TbOk t ∧ (∃ vS vF mb, PW w C H mb t vS vF ∧ ∀ k, pfoot H mb vS vF k → S k) ∧ ∀ k, S k → C ≤ k ∧ k < w.heap.size
def RO (C R : Nat) (S : Nat → Prop) (t : Tb) (w : World) : Prop :=
  TbOk t ∧ (∃ vS vF vG, RW w C R t vS vF vG ∧ ∀ k, rfoot R vS vF vG k → S k) ∧ ∀ k, S k → C ≤ k ∧ k < w.heap.size
/-- What a call that answers x leaves: the table t'. -/
def PAns (C H : Nat) (S : Nat → Prop) (t' : Tb) (x : Value) (w : World) (e : Ending) (w' : World) : Prop :=
  e = .returned x ∧ ∃ S', PO C H S' t' w' ∧ Trod S S' w w'
def RAns (C R : Nat) (S : Nat → Prop) (t' : Tb) (x : Value) (w : World) (e : Ending) (w' : World) : Prop :=
  e = .returned x ∧ ∃ S', RO C R S' t' w' ∧ Trod S S' w w'
/-- What a call that only reads leaves. -/
def Quiet (x : Value) (w : World) (e : Ending) (w' : World) : Prop := e = .returned x ∧ Below w.heap.size w w'
section
variable {w w' : World} {C H R : Nat} {S : Nat → Prop} {t : Tb} {x : Value}
theorem PO.below (h : PO C H S t w) (hb : Below w.heap.size w w') : PO C H S t w' := by
  obtain ⟨h0, ⟨vS, vF, mb, h1, h2⟩, h3⟩ := h
  exact ⟨h0, ⟨vS, vF, mb, h1.below hb, h2⟩, fun k hk => by have := h3 k hk; have := hb.size; omega⟩
theorem RO.below (h : RO C R S t w) (hb : Below w.heap.size w w') : RO C R S t w' := by
  obtain ⟨h0, ⟨vS, vF, vG, h1, h2⟩, h3⟩ := h
  exact ⟨h0, ⟨vS, vF, vG, h1.below hb, h2⟩, fun k hk => by have := h3 k hk; have := hb.size; omega⟩
theorem PO.chg {T : Nat → Prop} (h : PO C H S t w) (hk : Chg T w w') (hd : ∀ k, S k → ¬ T k) : PO C H S t w' := by
  obtain ⟨h0, ⟨vS, vF, mb, h1, h2⟩, h3⟩ := h
  exact ⟨h0, ⟨vS, vF, mb, h1.keep (fun k hk' => hk.block k (h1.lt k hk').2 (hd k (h2 k hk'))), h2⟩, fun k hk' => by have := h3 k hk'; have := hk.size; omega⟩
theorem RO.chg {T : Nat → Prop} (h : RO C R S t w) (hk : Chg T w w') (hd : ∀ k, S k → ¬ T k) : RO C R S t w' := by
  obtain ⟨h0, ⟨vS, vF, vG, h1, h2⟩, h3⟩ := h
  exact ⟨h0, ⟨vS, vF, vG, h1.keep (fun k hk' => hk.block k (h1.lt k hk').2 (hd k (h2 k hk'))), h2⟩, fun k hk' => by have := h3 k hk'; have := hk.size; omega⟩
theorem PO.only {B : Nat} (h : PO C H S t w) (hB : B < C) (ho : Only B w w') : PO C H S t w' :=
  h.chg (Chg.of_only (S := fun k => k = B) ho rfl) fun k hk e => by have := h.2.2 k hk; have e : k = B := e; omega
theorem RO.only {B : Nat} (h : RO C R S t w) (hB : B < C) (ho : Only B w w') : RO C R S t w' :=
  h.chg (Chg.of_only (S := fun k => k = B) ho rfl) fun k hk e => by have := h.2.2 k hk; have e : k = B := e; omega
theorem PAns.stay (h : PO C H S t w) (hb : Below w.heap.size w w') : PAns C H S t x w (.returned x) w' := ⟨rfl, S, h.below hb, Chg.of_below hb, fun _ hk => .inl hk⟩
theorem RAns.stay (h : RO C R S t w) (hb : Below w.heap.size w w') : RAns C R S t x w (.returned x) w' := ⟨rfl, S, h.below hb, Chg.of_below hb, fun _ hk => .inl hk⟩
theorem PO.lo (h : PO C H S t w) : C ≤ H ∧ H < w.heap.size := by
  obtain ⟨h0, ⟨vS, vF, mb, h1, h2⟩, h3⟩ := h
  exact h1.lt H (.inl rfl)
theorem RO.lo (h : RO C R S t w) : C ≤ R ∧ R < w.heap.size := by
  obtain ⟨h0, ⟨vS, vF, vG, h1, h2⟩, h3⟩ := h
  exact h1.lt R (.inl rfl)
end
end Go.Proofs.Ytgojbomdkdlclaa

