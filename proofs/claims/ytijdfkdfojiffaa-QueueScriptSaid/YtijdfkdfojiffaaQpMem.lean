/-
  Layer 11: the program's queue behind its pointer: its struct, its cells, its ring; what a call of it leaves. No call is walked here.
-/
import Derived.Test.YtijdfkdfojiffaaQuMem
import Derived.Test.YtijdfkdfojiffaaQpPlain
import Derived.Test.YtijdfkdfojiffaaRgNew
namespace Go.Proofs.Ytijdfkdfojiffaa
open Go.ChangeShapes Go.WideShapes Go.ChangeAt Go.RowKit
set_option linter.unusedVariables false

/-- The queue's four blocks: its struct, its cells, the ring's struct, the ring's numbers. -/
structure Qb where
  H : Nat
  G : Nat
  R : Nat
  N : Nat
def qfoot (b : Qb) : Nat → Prop := fun k => k = b.H ∨ k = b.G ∨ k = b.R ∨ k = b.N
/-- The places as the ring's numbers. -/
def plN (P : List Nat) : Nat → Int := fun i => ((P.getD i 0 : Nat) : Int)
theorem plN_snoc (P : List Nat) (k : Nat) : ∀ i, i < (P ++ [k]).length → upd (plN P) P.length (k : Int) i = plN (P ++ [k]) i := by
  intro i hi
  simp only [List.length_append, List.length_singleton] at hi
  unfold plN
  rcases (by omega : i < P.length ∨ i = P.length) with h | h
  · rw [upd_ne (by omega), List.getD_eq_getElem?_getD, List.getD_eq_getElem?_getD, List.getElem?_append_left h]
  · subst h
    rw [upd_at, List.getD_eq_getElem?_getD, List.getElem?_append_right (Nat.le_refl _), Nat.sub_self]; rfl
theorem plN_tail (P : List Nat) (k : Nat) : ∀ i, i < P.length → rmvN (plN (k :: P)) 0 i = plN P i := by
  intro i hi
  unfold rmvN plN
  rw [if_neg (by omega), List.getD_cons_succ]
theorem plN_head (P : List Nat) (k : Nat) : plN (k :: P) 0 = (k : Int) := rfl
structure QW (w : World) (C : Nat) (b : Qb) (mp mb : Int) (M : List Pk) (P : List Nat) : Prop where
  blk : Whole w b.H 57 #[.int .i64 mp, .int .i64 mb, .slice (some ⟨b.G, 0, none⟩) 64 64, .pointer (some ⟨b.R, 0, none⟩)]
  row : Whole w b.G 40 (srs csP M).toArray
  len : M.length = 64
  ring : RingO C b.R b.N 64 P.length (plN P) w
  lo : C ≤ b.H ∧ C ≤ b.G
section
variable {w w' : World} {C : Nat} {b : Qb} {mp mb : Int} {M : List Pk} {P : List Nat}
theorem QW.apart (h : QW w C b mp mb M P) : b.H ≠ b.G ∧ b.H ≠ b.R ∧ b.H ≠ b.N ∧ b.G ≠ b.R ∧ b.G ≠ b.N ∧ b.R ≠ b.N := by
  obtain ⟨f, X, h1, _⟩ := h.ring
  obtain ⟨cs, h2, _⟩ := h1.row
  have a1 : w.heap[b.H]? = _ := h.blk
  have a2 : w.heap[b.G]? = _ := h.row
  have a3 : w.heap[b.R]? = _ := h1.blk
  have a4 : w.heap[b.N]? = _ := h2
  refine ⟨fun e => ?_, fun e => ?_, fun e => ?_, fun e => ?_, fun e => ?_, h1.ne⟩
  · rw [e, a2] at a1; simp at a1
  · rw [e, a3] at a1; simp at a1
  · rw [e, a4] at a1; simp at a1
  · rw [e, a3] at a2; simp at a2
  · rw [e, a4] at a2; simp at a2
theorem QW.lt (h : QW w C b mp mb M P) : ∀ k, qfoot b k → C ≤ k ∧ k < w.heap.size := by
  rintro k (rfl | rfl | rfl | rfl)
  · exact ⟨h.lo.1, h.blk.size_lt⟩
  · exact ⟨h.lo.2, h.row.size_lt⟩
  · exact h.ring.lo _ (.inl rfl)
  · exact h.ring.lo _ (.inr rfl)
theorem QW.keep (h : QW w C b mp mb M P) (hk : ∀ k, qfoot b k → w'.heap[k]? = w.heap[k]?) : QW w' C b mp mb M P := by
  refine ⟨h.blk.carry (hk _ (.inl rfl)), h.row.carry (hk _ (.inr (.inl rfl))), h.len, ?_, h.lo⟩
  obtain ⟨f, X, h3, r⟩ := h.ring
  exact ⟨f, X, h3.keep (fun k hk2 => hk k (by rcases hk2 with e | e; exact .inr (.inr (.inl e)); exact .inr (.inr (.inr e)))), r⟩
theorem QW.below (h : QW w C b mp mb M P) (hb : Below w.heap.size w w') : QW w' C b mp mb M P := h.keep fun k hk => hb.block k (h.lt k hk).2
theorem QW.chg {S : Nat → Prop} (h : QW w C b mp mb M P) (hk : Chg S w w') (hd : ∀ k, qfoot b k → ¬ S k) : QW w' C b mp mb M P := h.keep fun k hk2 => hk.block k (h.lt k hk2).2 (hd k hk2)
theorem QW.drewN (h : QW w C b mp mb M P) (q : Nat) : QW (w.drewN q) C b mp mb M P := h.below (Below_drewN (Below.refl _ _) q)
/-- The struct's cells. -/
theorem QW.cells (h : QW w C b mp mb M P) : w.cell? ⟨b.H, 0, none⟩ = some (.int .i64 mp) ∧ w.cell? ⟨b.H, 1, none⟩ = some (.int .i64 mb) ∧ w.cell? ⟨b.H, 2, none⟩ = some (.slice (some ⟨b.G, 0, none⟩) 64 64) ∧ w.cell? ⟨b.H, 3, none⟩ = some (.pointer (some ⟨b.R, 0, none⟩)) ∧ ∀ o, w.frozen? ⟨b.H, o, none⟩ = false := by
  have := h.blk
  exact ⟨by rw [this.read]; rfl, by rw [this.read]; rfl, by rw [this.read]; rfl, by rw [this.read]; rfl, this.free⟩
theorem row_pk {g : Nat} {t : TypeId} (h : Whole w g t (srs csP M).toArray) {k : Nat} (hk : k < M.length) :
    w.cell? ⟨g, k * 5, none⟩ = some (.int .i64 (M.getD k pk0).i) ∧ w.cell? ⟨g, k * 5 + 1, none⟩ = some (.int .i64 (M.getD k pk0).f) ∧ w.cell? ⟨g, k * 5 + 2, none⟩ = some (.int .i64 (M.getD k pk0).l) ∧ w.cell? ⟨g, k * 5 + 3, none⟩ = some (.int .i64 (M.getD k pk0).a) ∧ w.cell? ⟨g, k * 5 + 4, none⟩ = some (.int .i64 (M.getD k pk0).d) := by
  rw [getD_at hk]
  have hc : ∀ j, j < 5 → w.cell? ⟨g, k * 5 + j, none⟩ = (csP M[k])[j]? := fun j hj => by
    rw [h.read, List.getElem?_toArray, srs_at csP_len M k j hk hj]
  exact ⟨hc 0 (by omega), hc 1 (by omega), hc 2 (by omega), hc 3 (by omega), hc 4 (by omega)⟩
/-- The cells of place k. -/
theorem QW.pk (h : QW w C b mp mb M P) {k : Nat} (hk : k < 64) :
    w.cell? ⟨b.G, k * 5, none⟩ = some (.int .i64 (M.getD k pk0).i) ∧ w.cell? ⟨b.G, k * 5 + 1, none⟩ = some (.int .i64 (M.getD k pk0).f) ∧ w.cell? ⟨b.G, k * 5 + 2, none⟩ = some (.int .i64 (M.getD k pk0).l) ∧ w.cell? ⟨b.G, k * 5 + 3, none⟩ = some (.int .i64 (M.getD k pk0).a) ∧ w.cell? ⟨b.G, k * 5 + 4, none⟩ = some (.int .i64 (M.getD k pk0).d) :=
  row_pk h.row (by rw [h.len]; exact hk)
/-- A struct of five numbers stored. -/
def putP (w : World) (g o : Nat) (p : Pk) : World := ((((w.setCell ⟨g, o, none⟩ (.int .i64 p.i)).setCell ⟨g, o + 1, none⟩ (.int .i64 p.f)).setCell ⟨g, o + 2, none⟩ (.int .i64 p.l)).setCell ⟨g, o + 3, none⟩ (.int .i64 p.a)).setCell ⟨g, o + 4, none⟩ (.int .i64 p.d)
theorem srs_put (M : List Pk) {k : Nat} (hk : k < M.length) (p : Pk) :
    (((((srs csP M).set (k * 5) (.int .i64 p.i)).set (k * 5 + 1) (.int .i64 p.f)).set (k * 5 + 2) (.int .i64 p.l)).set (k * 5 + 3) (.int .i64 p.a)).set (k * 5 + 4) (.int .i64 p.d) = srs csP (M.set k p) := by
  have e0 := srs_set csP_len M k 0 hk ⟨p.i, M[k].f, M[k].l, M[k].a, M[k].d⟩ (.int .i64 p.i) (by omega) rfl
  have e1 := srs_set csP_len (M.set k ⟨p.i, M[k].f, M[k].l, M[k].a, M[k].d⟩) k 1 (by simpa using hk) ⟨p.i, p.f, M[k].l, M[k].a, M[k].d⟩ (.int .i64 p.f) (by omega) (by rw [List.getElem_set_self]; rfl)
  rw [List.set_set] at e1
  have e2 := srs_set csP_len (M.set k ⟨p.i, p.f, M[k].l, M[k].a, M[k].d⟩) k 2 (by simpa using hk) ⟨p.i, p.f, p.l, M[k].a, M[k].d⟩ (.int .i64 p.l) (by omega) (by rw [List.getElem_set_self]; rfl)
  rw [List.set_set] at e2
  have e3 := srs_set csP_len (M.set k ⟨p.i, p.f, p.l, M[k].a, M[k].d⟩) k 3 (by simpa using hk) ⟨p.i, p.f, p.l, p.a, M[k].d⟩ (.int .i64 p.a) (by omega) (by rw [List.getElem_set_self]; rfl)
  rw [List.set_set] at e3
  have e4 := srs_set csP_len (M.set k ⟨p.i, p.f, p.l, p.a, M[k].d⟩) k 4 (by simpa using hk) p (.int .i64 p.d) (by omega) (by rw [List.getElem_set_self]; rfl)
  rw [List.set_set] at e4
  rw [Nat.add_zero] at e0
  rw [e4, e3, e2, e1, e0]
theorem Whole.putP {g k : Nat} {t : TypeId} (h : Whole w g t (srs csP M).toArray) (hk : k < M.length) (p : Pk) : Whole (putP w g (k * 5) p) g t (srs csP (M.set k p)).toArray := by
  rw [← srs_put M hk p]
  have := ((((h.put (k * 5) (.int .i64 p.i)).put (k * 5 + 1) (.int .i64 p.f)).put (k * 5 + 2) (.int .i64 p.l)).put (k * 5 + 3) (.int .i64 p.a)).put (k * 5 + 4) (.int .i64 p.d)
  simp only [List.setIfInBounds_toArray] at this
  exact this
theorem putP_far {g o k : Nat} {p : Pk} (hn : k ≠ g) : (putP w g o p).heap[k]? = w.heap[k]? := by
  unfold putP
  rw [Below.heap_setCell _ _ _ _ hn, Below.heap_setCell _ _ _ _ hn, Below.heap_setCell _ _ _ _ hn, Below.heap_setCell _ _ _ _ hn, Below.heap_setCell _ _ _ _ hn]
theorem putP_size {g o : Nat} {p : Pk} : (putP w g o p).heap.size = w.heap.size := by simp [putP, World.setCell]
theorem putP_chg {S : Nat → Prop} {a : World} {g o : Nat} {p : Pk} (h : Chg S a w) (hg : S g) : Chg S a (putP w g o p) :=
  ((((h.setCell hg _ _).setCell hg _ _).setCell hg _ _).setCell hg _ _).setCell hg _ _
theorem QW.put (h : QW w C b mp mb M P) {k : Nat} (hk : k < 64) (p : Pk) : QW (putP w b.G (k * 5) p) C b mp mb (M.set k p) P := by
  obtain ⟨n1, n2, n3, n4, n5, n6⟩ := h.apart
  refine ⟨h.blk.carry (putP_far n1), h.row.putP (by rw [h.len]; exact hk) p, by rw [List.length_set]; exact h.len, ?_, h.lo⟩
  obtain ⟨f, X, h3, r⟩ := h.ring
  exact ⟨f, X, h3.keep (fun k hk2 => putP_far (by rcases hk2 with e | e <;> rw [e]; exact n4.symm; exact n5.symm)), r⟩
/-- The ring has turned. -/
theorem QW.rung {x : Value} {P' : List Nat} {L' : Nat → Int} {n : Nat} {e : Ending} (h : QW w C b mp mb M P) (ha : RgAns C b.R b.N 64 n L' x w e w') (hn : n = P'.length) (hL : ∀ i, i < n → L' i = plN P' i) : QW w' C b mp mb M P' ∧ Chg (qfoot b) w w' := by
  obtain ⟨n1, n2, n3, n4, n5, n6⟩ := h.apart
  obtain ⟨_, h1, h2⟩ := ha
  subst hn
  refine ⟨⟨h.blk.carry (h2.block _ h.blk.size_lt ?_), h.row.carry (h2.block _ h.row.size_lt ?_), h.len, h1.same hL, h.lo⟩, h2.wider fun k _ hk => ?_⟩
  · rintro (e | e); exact n2 e; exact n3 e
  · rintro (e | e); exact n4 e; exact n5 e
  · rcases hk with e | e; exact .inr (.inr (.inl e)); exact .inr (.inr (.inr e))
theorem QW.caps (h : QW w C b mp mb M P) (p c : Int) : QW ((w.setCell ⟨b.H, 0, none⟩ (.int .i64 p)).setCell ⟨b.H, 1, none⟩ (.int .i64 c)) C b p c M P := by
  obtain ⟨n1, n2, n3, n4, n5, n6⟩ := h.apart
  have hb := (h.blk.put 0 (.int .i64 p)).put 1 (.int .i64 c)
  have hfar : ∀ k, k ≠ b.H → ((w.setCell ⟨b.H, 0, none⟩ (.int .i64 p)).setCell ⟨b.H, 1, none⟩ (.int .i64 c)).heap[k]? = w.heap[k]? := fun k hk => (Below.heap_setCell _ ⟨b.H, 1, none⟩ _ k hk).trans (Below.heap_setCell _ ⟨b.H, 0, none⟩ _ k hk)
  refine ⟨hb, h.row.carry (hfar _ n1.symm), h.len, ?_, h.lo⟩
  obtain ⟨f, X, h3, r⟩ := h.ring
  exact ⟨f, X, h3.keep (fun k hk2 => hfar k (by rcases hk2 with e | e <;> rw [e]; exact n2.symm; exact n3.symm)), r⟩
end
/-- The program's queue q, its blocks from C on. -/
def QO (C : Nat) (b : Qb) (q : Qu) (w : World) : Prop := QuOk q ∧ ∃ M P, QW w C b q.mp q.mb M P ∧ Pl M P q.L
/-- What a call that answers x leaves: the queue q'. -/
def QAns (C : Nat) (b : Qb) (q' : Qu) (x : Value) (w : World) (e : Ending) (w' : World) : Prop := e = .returned x ∧ QO C b q' w' ∧ Chg (qfoot b) w w'
/-- What a call that answers with packets leaves. -/
def QGot (C : Nat) (b : Qb) (q' : Qu) (l : List Pk) (w : World) (e : Ending) (w' : World) : Prop :=
  ∃ A c, e = .returned (.slice A l.length c) ∧ (QO C b q' w' ∧ Chg (qfoot b) w w') ∧ SrAt csP 5 w' w.heap.size w'.heap.size A l
section
variable {w w' : World} {C : Nat} {b : Qb} {q : Qu}
theorem QO.below (h : QO C b q w) (hb : Below w.heap.size w w') : QO C b q w' := by
  obtain ⟨h0, M, P, h1, h2⟩ := h; exact ⟨h0, M, P, h1.below hb, h2⟩
theorem QO.chg {S : Nat → Prop} (h : QO C b q w) (hk : Chg S w w') (hd : ∀ k, qfoot b k → ¬ S k) : QO C b q w' := by
  obtain ⟨h0, M, P, h1, h2⟩ := h; exact ⟨h0, M, P, h1.chg hk hd, h2⟩
theorem QO.lt (h : QO C b q w) : ∀ k, qfoot b k → C ≤ k ∧ k < w.heap.size := by
  obtain ⟨h0, M, P, h1, h2⟩ := h; exact h1.lt
theorem QO.only {B : Nat} (h : QO C b q w) (hB : B < C) (ho : Only B w w') : QO C b q w' :=
  h.chg (Chg.of_only (S := fun k => k = B) ho rfl) fun k hk e => by have := (h.lt k hk).1; have e : k = B := e; omega
theorem QAns.stay {x : Value} (h : QO C b q w) (hb : Below w.heap.size w w') : QAns C b q x w (.returned x) w' := ⟨rfl, h.below hb, Chg.of_below hb⟩
end
end Go.Proofs.Ytijdfkdfojiffaa

