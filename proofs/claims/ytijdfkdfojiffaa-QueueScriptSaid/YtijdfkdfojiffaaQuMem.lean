/-
  Layer 11: a packet's cells; the reference's queue behind its pointer; what a call of it leaves. No call is walked here.
-/
import Derived.Test.YtijdfkdfojiffaaSrApp
import Derived.Test.YtijdfkdfojiffaaQuPlain
namespace Go.Proofs.Ytijdfkdfojiffaa
open Go.ChangeShapes Go.WideShapes Go.ChangeAt Go.RowKit
set_option linter.unusedVariables false

def csP (p : Pk) : List Value := [.int .i64 p.i, .int .i64 p.f, .int .i64 p.l, .int .i64 p.a, .int .i64 p.d]
theorem csP_len (p : Pk) : (csP p).length = 5 := rfl
theorem csP_one (p : Pk) : ∀ u ∈ csP p, u.oneCell' = true := by
  intro u hu; simp [csP] at hu; rcases hu with rfl | rfl | rfl | rfl | rfl <;> rfl
theorem info_pk : (Try.prog.info? 40).map (fun i => (i.zero, i.size, i.bytes)) = some (some (.agg #[.int .i64 0, .int .i64 0, .int .i64 0, .int .i64 0, .int .i64 0]), 5, 40) := by kernel_rfl
def aggP (p : Pk) : Value := .agg #[.int .i64 p.i, .int .i64 p.f, .int .i64 p.l, .int .i64 p.a, .int .i64 p.d]
/-- A packet that a slice holds. -/
theorem SrAt.pk {w : World} {L B : Nat} {A : Option Addr} {l : List Pk} (h : SrAt csP 5 w L B A l) {k : Nat} (hk : k < l.length) :
    ∃ b off, A = some ⟨b, off, none⟩ ∧ L ≤ b ∧ b < B ∧ w.cell? ⟨b, off + k * 5, none⟩ = some (.int .i64 l[k].i) ∧ w.cell? ⟨b, off + k * 5 + 1, none⟩ = some (.int .i64 l[k].f) ∧ w.cell? ⟨b, off + k * 5 + 2, none⟩ = some (.int .i64 l[k].l) ∧ w.cell? ⟨b, off + k * 5 + 3, none⟩ = some (.int .i64 l[k].a) ∧ w.cell? ⟨b, off + k * 5 + 4, none⟩ = some (.int .i64 l[k].d) := by
  obtain ⟨b, off, e, h1, h2, h3⟩ := h k hk
  exact ⟨b, off, e, h1, h2, h3 0 (by omega), h3 1 (by omega), h3 2 (by omega), h3 3 (by omega), h3 4 (by omega)⟩
/-- The rest of a slice. -/
theorem SrAt.rest {w : World} {L B : Nat} {b off : Nat} {l : List Pk} (h : SrAt csP 5 w L B (some ⟨b, off, none⟩) l) : SrAt csP 5 w L B (some ⟨b, off + 5, none⟩) l.tail := fun i hi => by
  have hi' : i + 1 < l.length := by rw [List.length_tail] at hi; omega
  obtain ⟨b', off', e, h1, h2, h3⟩ := h (i + 1) hi'
  obtain ⟨rfl, rfl⟩ : b = b' ∧ off = off' := by simpa using e
  refine ⟨b, off + 5, rfl, h1, h2, fun k hk => ?_⟩
  rw [List.getElem_tail, ← h3 k hk]
  congr 2; omega
theorem SrAt.none_left {w : World} {L B : Nat} {A : Option Addr} {l : List Pk} (h : l.length ≤ 1) : SrAt csP 5 w L B A l.tail := fun i hi => by rw [List.length_tail] at hi; omega

/-- The reference's queue behind pointer R: its packets lie in a block made later than R, which is never written. -/
structure RQ (w : World) (C R : Nat) (q : Qu) (A : Option Addr) (c : Nat) : Prop where
  blk : w.heap[R]? = some (.cells #[.int .i64 q.mp, .int .i64 q.mb, .slice A q.L.length c] 37 (0, 0))
  row : SrAt csP 5 w (R + 1) w.heap.size A q.L
  lo : C ≤ R
  fit : q.L.length ≤ c
def rqfoot (R : Nat) (A : Option Addr) (L : List Pk) : Nat → Prop := fun k => k = R ∨ (L ≠ [] ∧ ∃ o f, A = some ⟨k, o, f⟩)
section
variable {w w' : World} {C R : Nat} {q : Qu} {A : Option Addr} {c : Nat} {S : Nat → Prop} {x : Value}
theorem RQ.lt (h : RQ w C R q A c) : ∀ k, rqfoot R A q.L k → C ≤ k ∧ k < w.heap.size := by
  have h0 := h.lo
  rintro k (rfl | ⟨hne, o, f, e⟩)
  · exact ⟨h0, lt_of_block h.blk⟩
  · obtain ⟨b, off, e', h1, h2, _⟩ := h.row 0 (List.length_pos_iff.mpr hne)
    rw [e'] at e
    obtain ⟨rfl, _⟩ : b = k ∧ _ := by simpa using e
    omega
theorem RQ.keep (h : RQ w C R q A c) (hs : w.heap.size ≤ w'.heap.size) (hk : ∀ k, rqfoot R A q.L k → w'.heap[k]? = w.heap[k]?) : RQ w' C R q A c := by
  refine ⟨(hk R (.inl rfl)).trans h.blk, fun i hi => ?_, h.lo, h.fit⟩
  obtain ⟨b, off, e, h1, h2, h3⟩ := h.row i hi
  exact ⟨b, off, e, h1, by omega, fun j hj => (World.cell?_of_block (w := w) (hk b (.inr ⟨fun e0 => by rw [e0] at hi; simp at hi, off, none, e⟩))).trans (h3 j hj)⟩
theorem RQ.below (h : RQ w C R q A c) (hb : Below w.heap.size w w') : RQ w' C R q A c := h.keep hb.size fun k hk => hb.block k (h.lt k hk).2
theorem RQ.cells (h : RQ w C R q A c) : w.cell? ⟨R, 0, none⟩ = some (.int .i64 q.mp) ∧ w.cell? ⟨R, 1, none⟩ = some (.int .i64 q.mb) ∧ w.cell? ⟨R, 2, none⟩ = some (.slice A q.L.length c) ∧ ∀ o, w.frozen? ⟨R, o, none⟩ = false := by
  have := h.blk
  exact ⟨by simp [World.cell?, this], by simp [World.cell?, this], by simp [World.cell?, this], fun o => by simp [World.frozen?, this]⟩
/-- The reference's queue q behind R: its blocks are in S, from C on. -/
def RQO (C R : Nat) (S : Nat → Prop) (q : Qu) (w : World) : Prop :=
  QuOk q ∧ (∃ A c, RQ w C R q A c ∧ ∀ k, rqfoot R A q.L k → S k) ∧ ∀ k, S k → C ≤ k ∧ k < w.heap.size
/-- What a call that answers x leaves: the queue q'. -/
def RQAns (C R : Nat) (S : Nat → Prop) (q' : Qu) (x : Value) (w : World) (e : Ending) (w' : World) : Prop :=
  e = .returned x ∧ ∃ S', RQO C R S' q' w' ∧ Trod S S' w w'
/-- What a call that answers with packets leaves: the slice lies in a block of the queue's or a new one. -/
def RQGot (C R : Nat) (S : Nat → Prop) (q' : Qu) (l : List Pk) (w : World) (e : Ending) (w' : World) : Prop :=
  ∃ A c, e = .returned (.slice A l.length c) ∧ (∃ S', RQO C R S' q' w' ∧ Trod S S' w w') ∧ SrAt csP 5 w' C w'.heap.size A l
theorem RQO.below (h : RQO C R S q w) (hb : Below w.heap.size w w') : RQO C R S q w' := by
  obtain ⟨h0, ⟨A, c, h1, h2⟩, h3⟩ := h
  exact ⟨h0, ⟨A, c, h1.below hb, h2⟩, fun k hk => by have := h3 k hk; have := hb.size; omega⟩
theorem RQO.chg {T : Nat → Prop} (h : RQO C R S q w) (hk : Chg T w w') (hd : ∀ k, S k → ¬ T k) : RQO C R S q w' := by
  obtain ⟨h0, ⟨A, c, h1, h2⟩, h3⟩ := h
  exact ⟨h0, ⟨A, c, h1.keep hk.size (fun k hk' => hk.block k (h1.lt k hk').2 (hd k (h2 k hk'))), h2⟩, fun k hk' => by have := h3 k hk'; have := hk.size; omega⟩
theorem RQO.only {B : Nat} (h : RQO C R S q w) (hB : B < C) (ho : Only B w w') : RQO C R S q w' :=
  h.chg (Chg.of_only (S := fun k => k = B) ho rfl) fun k hk e => by have := h.2.2 k hk; have e : k = B := e; omega
theorem RQAns.stay (h : RQO C R S q w) (hb : Below w.heap.size w w') : RQAns C R S q x w (.returned x) w' := ⟨rfl, S, h.below hb, Chg.of_below hb, fun _ hk => .inl hk⟩
theorem RQO.lo (h : RQO C R S q w) : C ≤ R ∧ R < w.heap.size := by
  obtain ⟨h0, ⟨A, c, h1, h2⟩, h3⟩ := h
  exact h1.lt R (.inl rfl)
/-- The queue's block is written whole: other caps, another slice. -/
theorem RQO.turn {q' : Qu} {A' : Option Addr} {c' : Nat} (h : RQO C R S q w) (hq : QuOk q') (hb : Below w.heap.size w w')
    {w2 : World} (hs : w'.heap.size = w2.heap.size) (he : ∀ k, k ≠ R → w2.heap[k]? = w'.heap[k]?) (ho : w2.os = w'.os) (ht : w2.tape = w'.tape) (hp : w2.output = w'.output)
    (hblk : w2.heap[R]? = some (.cells #[.int .i64 q'.mp, .int .i64 q'.mb, .slice A' q'.L.length c'] 37 (0, 0)))
    (hrow : SrAt csP 5 w' (R + 1) w'.heap.size A' q'.L) (hfit : q'.L.length ≤ c') (hold : ∀ k, rqfoot R A' q'.L k → S k ∨ w.heap.size ≤ k) :
    ∃ S', RQO C R S' q' w2 ∧ Trod S S' w w2 := by
  have hlo := h.lo
  have hsz := hb.size
  have hR : S R := by
    obtain ⟨h0, ⟨A, c, h1, h2⟩, h3⟩ := h
    exact h2 R (.inl rfl)
  have hrow2 : SrAt csP 5 w2 (R + 1) w2.heap.size A' q'.L := by
    rw [← hs]
    exact hrow.keep fun b o h1 h2 => World.cell?_of_block (w := w') (he b (by omega))
  have hX : RQ w2 C R q' A' c' := ⟨hblk, hrow2, hlo.1, hfit⟩
  refine ⟨rqfoot R A' q'.L, ⟨hq, ⟨A', c', hX, fun k hk => hk⟩, hX.lt⟩, ⟨ho.trans hb.os, ht.trans hb.tape, hp.trans hb.output, by omega, fun k hk hn => (he k (fun e => hn (by rw [e]; exact hR))).trans (hb.block k hk)⟩, hold⟩
end
end Go.Proofs.Ytijdfkdfojiffaa

