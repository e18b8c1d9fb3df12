/-
  Layer 18: the program's table in memory: packets, and for each flow five counts, the refused, the numbers delivered, the bytes.
-/
import Derived.Test.YtkhngfadhfomoaaLfRef
import Derived.Test.YtkhngfadhfomoaaLfRef3
import Derived.Test.YtkhngfadhfomoaaLfOrd
import Derived.Test.YtkhngfadhfomoaaLsP
namespace Go.Proofs.Ytkhngfadhfomoaa
open Go.ChangeShapes Go.WideShapes Go.ChangeAt Go.RowKit
set_option linter.unusedVariables false

theorem lkElt : Elt csF 4 62 53 :=
  ⟨fun _ => rfl, fun a u hu => by simp [csF] at hu; rcases hu with rfl | rfl | rfl | rfl <;> rfl, by decide, Try.underlying53, .agg #[.int .i64 0, .int .i64 0, .int .i64 0, .int .i64 0], 32, by decide, by decide, by kernel_rfl⟩
/-- What the program holds. -/
structure LpS where
  l : List LfE
  c : Nat → Nat → Int
  r : Nat → Int
  o : Nat → List Int
  b : Nat → Int
def lpK (m : LpS) (vO : Nat → Value) (f j : Nat) : Value := if j < 5 then .int .i64 (m.c f j) else if j = 5 then .int .i64 (m.r f) else if j = 6 then vO f else .int .i64 (m.b f)
def lpC (m : LpS) (vL : Value) (vO : Nat → Value) (i : Nat) : Value := if i = 0 then vL else lpK m vO ((i - 1) / 8) ((i - 1) % 8)
theorem lpC_at (m : LpS) (vL : Value) (vO : Nat → Value) {f j : Nat} (hj : j < 8) : lpC m vL vO (1 + f * 8 + j) = lpK m vO f j := by
  unfold lpC
  rw [if_neg (by omega), show (1 + f * 8 + j - 1) / 8 = f by omega, show (1 + f * 8 + j - 1) % 8 = j by omega]
/-- The program's table in block R. -/
def LpP (R : Nat) (m : LpS) : RP := fun T w => (∀ k, T k → k < w.heap.size) ∧ T R ∧ ∃ vL vO, Blk w R 59 257 (lpC m vL vO) ∧ w.ownsRow 0 62 4 vL m.l.length (srs csF m.l) ∧ (∀ f, f < 32 → w.ownsRow 0 3 1 (vO f) (m.o f).length (srs csI (m.o f))) ∧ (∀ b, vL.ownBlock = some b → T b) ∧ (∀ f, f < 32 → ∀ b, (vO f).ownBlock = some b → T b) ∧ ∀ f g, f < 32 → g < 32 → f ≠ g → ∀ b, (vO f).ownBlock = some b → (vO g).ownBlock ≠ some b
section
variable {base R : Nat} {m m' : LpS} {T : Nat → Prop} {w w' : World}
theorem LpP.frm : Frm base (LpP R m) := by
  refine ⟨fun ⟨h1, _⟩ => h1, fun {T U w w'} ⟨h1, h2, vL, vO, h3, h4, h5, h6, h7, h8⟩ hc hb hs => ?_⟩
  exact ⟨fun k hk => by have := h1 k hk; have := hc.size; omega, h2, vL, vO, h3.carry (hc.block R (h1 R h2) (hs R h2)), owk h4 fun b hb => hc.block b (h1 b (h6 b hb)) (hs b (h6 b hb)), fun f hf => owk (h5 f hf) fun b hb => hc.block b (h1 b (h7 f hf b hb)) (hs b (h7 f hf b hb)), h6, h7, h8⟩
theorem LpP.later (h : LpP R m T w) (hb : Below w.heap.size w w') : LpP R m T w' :=
  (LpP.frm (base := 0)).chg (S := fun _ => False) h (Chg.of_below hb) (fun _ h => h.elim) (fun _ _ h => h)
theorem lpC_same {vL : Value} {vO : Nat → Value} (hc : ∀ f j, f < 32 → j < 5 → m'.c f j = m.c f j) (hr : ∀ f, f < 32 → m'.r f = m.r f) (hb : ∀ f, f < 32 → m'.b f = m.b f) : ∀ i, i < 257 → lpC m vL vO i = lpC m' vL vO i := by
  intro i hi
  unfold lpC
  by_cases h0 : i = 0
  · rw [if_pos h0, if_pos h0]
  · rw [if_neg h0, if_neg h0]
    have h1 : (i - 1) / 8 < 32 := by omega
    unfold lpK
    by_cases h2 : (i - 1) % 8 < 5
    · rw [if_pos h2, if_pos h2, hc _ _ h1 h2]
    · rw [if_neg h2, if_neg h2, hr _ h1, hb _ h1]
/-- The same to what a program can read. -/
theorem LpP.same (h : LpP R m T w) (hl : m'.l = m.l) (hc : ∀ f j, f < 32 → j < 5 → m'.c f j = m.c f j) (hr : ∀ f, f < 32 → m'.r f = m.r f) (ho : ∀ f, f < 32 → m'.o f = m.o f) (hb : ∀ f, f < 32 → m'.b f = m.b f) : LpP R m' T w := by
  obtain ⟨h1, h2, vL, vO, h3, h4, h5, h6, h7, h8⟩ := h
  refine ⟨h1, h2, vL, vO, h3.same (lpC_same hc hr hb), by rw [hl]; exact h4, fun f hf => by rw [ho f hf]; exact h5 f hf, h6, h7, h8⟩
/-- What a call needs that reads. -/
theorem LpP.pk (h : LpP R m T w) : ∃ A c, w.cell? ⟨R, 0, none⟩ = some (.slice A m.l.length c) ∧ w.frozen? ⟨R, 0, none⟩ = false ∧ ∀ k (hk : k < m.l.length), ∃ g, A = some ⟨g, 0, none⟩ ∧ m.l.length ≤ c ∧ w.cell? ⟨g, k * 4, none⟩ = some (.int .i64 m.l[k].f) ∧ w.cell? ⟨g, k * 4 + 1, none⟩ = some (.int .i64 m.l[k].n) ∧ w.cell? ⟨g, k * 4 + 2, none⟩ = some (.int .i64 m.l[k].s) ∧ w.cell? ⟨g, k * 4 + 3, none⟩ = some (.int .i64 m.l[k].y) := by
  obtain ⟨h1, h2, vL, vO, h3, h4, h5, h6, h7, h8⟩ := h
  obtain ⟨A, c, rfl⟩ := ow_shape h4
  refine ⟨A, c, (h3.cell (i := 0) (by omega)).trans rfl, h3.free 0, fun k hk => ?_⟩
  obtain ⟨g, c', e, _, hg⟩ := ow_at h4 (by omega)
  obtain ⟨rfl, rfl⟩ : A = some ⟨g, 0, none⟩ ∧ c = c' := by simpa using e
  have hcc : m.l.length ≤ c := by
    rcases h4.2 with ⟨h9, _⟩ | ⟨g', c', cur, h9, _, _, hnc, _⟩
    · cases h9
    · obtain ⟨_, rfl⟩ : g = g' ∧ c = c' := by simpa using h9
      exact hnc
  have cc : ∀ j, j < 4 → w.cell? ⟨g, k * 4 + j, none⟩ = (csF m.l[k])[j]? := fun j hj => by rw [h4.cellAt (k * 4 + j) (by omega), srs_at lkElt.len m.l k j hk hj]
  exact ⟨g, rfl, hcc, (cc 0 (by omega)).trans rfl, (cc 1 (by omega)).trans rfl, (cc 2 (by omega)).trans rfl, (cc 3 (by omega)).trans rfl⟩
theorem LpP.g_ne (h : LpP R m T w) {g n c : Nat} (d : w.cell? ⟨R, 0, none⟩ = some (.slice (some ⟨g, 0, none⟩) n c)) : g ≠ R := by
  obtain ⟨_, _, vL, vO, h3, h4, _⟩ := h
  intro e2
  have h9 := (h3.cell (i := 0) (by omega)).symm.trans d
  have h10 : vL = .slice (some ⟨g, 0, none⟩) n c := by simpa [lpC] using h9
  exact lt_apart h3 h4 (by decide) (by rw [h10]; rfl) e2
theorem LpP.at_ (h : LpP R m T w) {f j : Nat} (hf : f < 32) (hj : j < 8) : ∃ vO, w.cell? ⟨R, 1 + f * 8 + j, none⟩ = some (lpK m vO f j) ∧ w.frozen? ⟨R, 1 + f * 8 + j, none⟩ = false := by
  obtain ⟨h1, h2, vL, vO, h3, _⟩ := h
  exact ⟨vO, by rw [h3.cell (by omega), lpC_at m vL vO hj], h3.free _⟩
theorem LpP.cnt (h : LpP R m T w) {f j : Nat} (hf : f < 32) (hj : j < 5) : w.cell? ⟨R, 1 + f * 8 + j, none⟩ = some (.int .i64 (m.c f j)) ∧ w.frozen? ⟨R, 1 + f * 8 + j, none⟩ = false := by
  obtain ⟨vO, e, z⟩ := h.at_ hf (j := j) (by omega)
  exact ⟨by rw [e]; unfold lpK; rw [if_pos hj], z⟩
theorem LpP.ref (h : LpP R m T w) {f : Nat} (hf : f < 32) : w.cell? ⟨R, 1 + f * 8 + 5, none⟩ = some (.int .i64 (m.r f)) ∧ w.frozen? ⟨R, 1 + f * 8 + 5, none⟩ = false := by
  obtain ⟨vO, e, z⟩ := h.at_ hf (j := 5) (by omega)
  exact ⟨by rw [e]; rfl, z⟩
theorem LpP.byt (h : LpP R m T w) {f : Nat} (hf : f < 32) : w.cell? ⟨R, 1 + f * 8 + 7, none⟩ = some (.int .i64 (m.b f)) ∧ w.frozen? ⟨R, 1 + f * 8 + 7, none⟩ = false := by
  obtain ⟨vO, e, z⟩ := h.at_ hf (j := 7) (by omega)
  exact ⟨by rw [e]; rfl, z⟩
theorem LpP.ord (h : LpP R m T w) {f : Nat} (hf : f < 32) : ∃ A c, w.cell? ⟨R, 1 + f * 8 + 6, none⟩ = some (.slice A (m.o f).length c) ∧ w.frozen? ⟨R, 1 + f * 8 + 6, none⟩ = false ∧ (∀ k (hk : k < (m.o f).length), ∃ g, A = some ⟨g, 0, none⟩ ∧ (m.o f).length ≤ c ∧ w.cell? ⟨g, k, none⟩ = some (.int .i64 (m.o f)[k])) ∧ LsG csI 1 3 w (fun b => b < w.heap.size) (.slice A (m.o f).length c) (m.o f) := by
  obtain ⟨h1, h2, vL, vO, h3, h4, h5, h6, h7, h8⟩ := h
  have h9 := h5 f hf
  obtain ⟨A, c, e0⟩ := ow_shape h9
  refine ⟨A, c, by rw [h3.cell (by omega), lpC_at m vL vO (by omega)]; unfold lpK; rw [if_neg (by omega), if_neg (by omega), if_pos rfl, e0], h3.free _, fun k hk => ?_, by rw [← e0]; exact (intElt.row_ls1 h9 rfl).wider fun b e => (own_lt h9 e).2⟩
  obtain ⟨g, c', e, _, hg⟩ := ow_at h9 (by omega)
  rw [e0] at e h9
  obtain ⟨rfl, rfl⟩ : A = some ⟨g, 0, none⟩ ∧ c = c' := by simpa using e
  have hcc : (m.o f).length ≤ c := by
    rcases h9.2 with ⟨h9, _⟩ | ⟨g', c', cur, h9, _, _, hnc, _⟩
    · cases h9
    · obtain ⟨_, rfl⟩ : g = g' ∧ c = c' := by simpa using h9
      exact hnc
  have hx := h9.cellAt (k * 1 + 0) (by omega)
  rw [srs_at intElt.len (m.o f) k 0 hk (by omega), Nat.mul_one, Nat.add_zero] at hx
  exact ⟨g, rfl, hcc, hx.trans rfl⟩
/-- A number of a flow is written. -/
theorem LpP.num (h : LpP R m T w) {f j : Nat} (hf : f < 32) (hj : j < 8) (h6 : j ≠ 6) (v : Int) (hl : m'.l = m.l) (ho : m'.o = m.o) (hv : ∀ vO g k, g < 32 → k < 8 → lpK m' vO g k = if g = f ∧ k = j then .int .i64 v else lpK m vO g k) :
    LpP R m' T (w.setCell ⟨R, 1 + f * 8 + j, none⟩ (.int .i64 v)) ∧ Chg T w (w.setCell ⟨R, 1 + f * 8 + j, none⟩ (.int .i64 v)) := by
  obtain ⟨h1, h2, vL, vO, h3, h4, h5, h6', h7, h8⟩ := h
  have hne : ∀ (u : Value) (o j : Nat), j ≠ R → (w.setCell ⟨R, o, none⟩ u).heap[j]? = w.heap[j]? := fun u o j hj => Below.heap_setCell _ _ _ _ (by simpa using hj)
  refine ⟨⟨fun k hk => by simpa [World.setCell] using h1 k hk, h2, vL, vO, (h3.set_ (i := 1 + f * 8 + j) (by omega) _).same fun i hi => ?_, by rw [hl]; exact owk h4 fun b e => hne _ _ b (lt_apart h3 h4 (by decide) e), fun g hg => by rw [ho]; exact owk (h5 g hg) fun b e => hne _ _ b (lt_apart h3 (h5 g hg) (by decide) e), h6', h7, h8⟩, (Chg.refl T w).setCell h2 _ _⟩
  by_cases e : i = 1 + f * 8 + j
  · subst e
    rw [updV_at, lpC_at m' vL vO hj, hv vO f j hf hj, if_pos ⟨rfl, rfl⟩]
  · rw [updV_ne e]
    unfold lpC
    by_cases e0 : i = 0
    · rw [if_pos e0, if_pos e0]
    · rw [if_neg e0, if_neg e0, hv vO _ _ (by omega) (by omega), if_neg (fun h9 => e (by omega))]
def LpS.cn (m : LpS) (f j : Nat) (v : Int) : LpS := { m with c := fun g k => if g = f ∧ k = j then v else m.c g k }
def LpS.rf (m : LpS) (f : Nat) (v : Int) : LpS := { m with r := fun g => if g = f then v else m.r g }
def LpS.by_ (m : LpS) (f : Nat) (v : Int) : LpS := { m with b := fun g => if g = f then v else m.b g }
def LpS.od (m : LpS) (f : Nat) (l : List Int) : LpS := { m with o := fun g => if g = f then l else m.o g }
def LpS.el (m : LpS) (l : List LfE) : LpS := { m with l := l }
theorem LpP.setC (h : LpP R m T w) {f j : Nat} (hf : f < 32) (hj : j < 5) (v : Int) : LpP R (m.cn f j v) T (w.setCell ⟨R, 1 + f * 8 + j, none⟩ (.int .i64 v)) ∧ Chg T w (w.setCell ⟨R, 1 + f * 8 + j, none⟩ (.int .i64 v)) := by
  refine h.num hf (by omega) (by omega) v rfl rfl fun vO g k hg hk => ?_
  unfold lpK LpS.cn
  by_cases e : g = f ∧ k = j
  · obtain ⟨rfl, rfl⟩ := e
    simp [hj]
  · simp only [if_neg e]
theorem LpP.setR (h : LpP R m T w) {f : Nat} (hf : f < 32) (v : Int) : LpP R (m.rf f v) T (w.setCell ⟨R, 1 + f * 8 + 5, none⟩ (.int .i64 v)) ∧ Chg T w (w.setCell ⟨R, 1 + f * 8 + 5, none⟩ (.int .i64 v)) := by
  refine h.num hf (by omega) (by omega) v rfl rfl fun vO g k hg hk => ?_
  unfold lpK LpS.rf
  by_cases e : g = f ∧ k = 5
  · obtain ⟨rfl, rfl⟩ := e
    simp
  · by_cases e5 : k = 5
    · have : g ≠ f := fun e2 => e ⟨e2, e5⟩
      simp [e5, this]
    · simp [e5]
theorem LpP.setB (h : LpP R m T w) {f : Nat} (hf : f < 32) (v : Int) : LpP R (m.by_ f v) T (w.setCell ⟨R, 1 + f * 8 + 7, none⟩ (.int .i64 v)) ∧ Chg T w (w.setCell ⟨R, 1 + f * 8 + 7, none⟩ (.int .i64 v)) := by
  refine h.num hf (by omega) (by omega) v rfl rfl fun vO g k hg hk => ?_
  unfold lpK LpS.by_
  by_cases e : g = f ∧ k = 7
  · obtain ⟨rfl, rfl⟩ := e
    simp
  · by_cases e5 : k = 7
    · have : g ≠ f := fun e2 => e ⟨e2, e5⟩
      simp [e5, this]
    · have h9 : ¬ (g = f ∧ k = 7) := e
      simp only [if_neg h9]
      by_cases g1 : k < 5
      · simp [g1]
      · have : k = 5 ∨ k = 6 := by omega
        rcases this with rfl | rfl <;> simp
/-- A field of a packet is written. -/
theorem LpP.setP (h : LpP R m T w) {k j : Nat} (hk : k < m.l.length) (hj : j < 4) {g c : Nat} (hc : w.cell? ⟨R, 0, none⟩ = some (.slice (some ⟨g, 0, none⟩) m.l.length c)) (a : LfE) (u : Value) (e : csF a = (csF m.l[k]).set j u) :
    w.frozen? ⟨g, k * 4 + j, none⟩ = false ∧ LpP R (m.el (m.l.set k a)) T (w.setCell ⟨g, k * 4 + j, none⟩ u) ∧ Chg T w (w.setCell ⟨g, k * 4 + j, none⟩ u) := by
  obtain ⟨h1, h2, vL, vO, h3, h4, h5, h6, h7, h8⟩ := h
  obtain rfl : vL = .slice (some ⟨g, 0, none⟩) m.l.length c := by
    have h9 := (h3.cell (i := 0) (by omega)).symm.trans hc
    simpa [lpC] using h9
  have hgT := h6 g rfl
  have hgR : R ≠ g := (lt_apart h3 h4 (by decide) rfl).symm
  have hne : ∀ (o : Nat) (u : Value) (k : Nat), k ≠ g → (w.setCell ⟨g, o, none⟩ u).heap[k]? = w.heap[k]? := fun o u k hk => Below.heap_setCell _ _ _ _ (by simpa using hk)
  refine ⟨h4.frozenAt _, ⟨fun k hk => by simpa [World.setCell] using h1 k hk, h2, _, vO, (h3.carry (hne _ _ R hgR)).same (fun _ _ => rfl), ?_, fun f hf => owk (h5 f hf) fun b e => hne _ _ b (fun e2 => ?_), h6, h7, h8⟩, (Chg.refl T w).setCell hgT _ _⟩
  · have h9 := row_cell (a := a) (u := u) (k := j) lkElt.len h4 hk hj e
    unfold LpS.el
    simpa using h9
  · subst e2
    exact own_other (h5 f hf) h4 (by decide) e rfl
/-- One packet more. -/
theorem LpP.addP (h : LpP R m T w) (hn : m.l.length ≤ 99999) (x : LfE) :
    ∃ A0 c0 A c w3, w.cell? ⟨R, 0, none⟩ = some (.slice A0 m.l.length c0) ∧
      (Builtin.append_ #[53, 53] 53 #[.slice A0 m.l.length c0, .slice (some ⟨w.heap.size, 0, none⟩) 1 1]).run Try.prog (w.alloc (.cells (csF x).toArray 62)) = .ok (.slice A (m.l.length + 1) c) w3 ∧
      w3.cell? ⟨R, 0, none⟩ = some (.slice A0 m.l.length c0) ∧ w3.frozen? ⟨R, 0, none⟩ = false ∧ (∃ T', LpP R (m.el (m.l ++ [x])) T' (w3.setCell ⟨R, 0, none⟩ (.slice A (m.l.length + 1) c)) ∧ ∀ j, T' j → T j ∨ w.heap.size ≤ j) ∧ Chg T w (w3.setCell ⟨R, 0, none⟩ (.slice A (m.l.length + 1) c)) := by
  obtain ⟨h1, h2, vL, vO, h3, h4, h5, h6, h7, h8⟩ := h
  obtain ⟨A, c, w3, hrun, hv, hb3, hk3, hwh⟩ := lkElt.app_new3 x h4 (by omega) (Nat.zero_le _)
  have hS3 : w3.heap[R]? = w.heap[R]? := hk3 R (h1 R h2) fun e => lt_apart h3 h4 (by decide) e rfl
  have hB3 := h3.carry hS3
  obtain ⟨A0, c0, rfl⟩ := ow_shape h4
  have d0 : w.cell? ⟨R, 0, none⟩ = some (.slice A0 m.l.length c0) := (h3.cell (i := 0) (by omega)).trans rfl
  have k0 : w3.cell? ⟨R, 0, none⟩ = some (.slice A0 m.l.length c0) := (hB3.cell (i := 0) (by omega)).trans rfl
  have hch : Chg T w w3 := ⟨hb3.os, hb3.tape, hb3.output, hb3.size, fun k hk hnT => hk3 k hk fun e => hnT (h6 k e)⟩
  have hv' : w3.ownsRow 0 62 4 (.slice A (m.l.length + 1) c) (m.l ++ [x]).length (srs csF (m.l ++ [x])) := by rw [List.length_append]; exact hv
  have h5' : ∀ f, f < 32 → w3.ownsRow 0 3 1 (vO f) (m.o f).length (srs csI (m.o f)) := fun f hf => owk (h5 f hf) fun b e => hk3 b (h1 b (h7 f hf b e)) fun e2 => own_other (h5 f hf) h4 (by decide) e e2
  have hne : ∀ (u : Value) (j : Nat), j ≠ R → (w3.setCell ⟨R, 0, none⟩ u).heap[j]? = w3.heap[j]? := fun u j hj => Below.heap_setCell _ _ _ _ (by simpa using hj)
  refine ⟨A0, c0, A, c, w3, d0, hrun, k0, hB3.free 0, ⟨fun k => (T k ∨ w.heap.size ≤ k) ∧ k < w3.heap.size, ⟨fun k hk => by simpa [World.setCell] using hk.2, ⟨.inl h2, hB3.lt⟩, .slice A (m.l.length + 1) c, vO, ?_, ?_, fun f hf => ?_, fun b e => ⟨?_, (own_lt hv e).2⟩, fun f hf b e => ⟨.inl (h7 f hf b e), (own_lt (h5' f hf) e).2⟩, h8⟩, fun j hj => hj.1⟩, hch.setCell h2 _ _⟩
  · refine (hB3.set_ (i := 0) (by omega) _).same fun i hi => ?_
    by_cases e : i = 0
    · subst e; rw [updV_at]; rfl
    · rw [updV_ne e]; unfold lpC; rw [if_neg e, if_neg e]; rfl
  · exact owk hv' fun b e => hne _ b (lt_apart hB3 hv' (by decide) e)
  · exact owk (h5' f hf) fun b e => hne _ b (lt_apart hB3 (h5' f hf) (by decide) e)
  · rcases hwh with h | ⟨g, h, hg⟩
    · rw [h] at e; exact .inl (h6 b e)
    · rw [h] at e
      have : g = b := by simpa using e
      exact .inr (by omega)
/-- One number more in a flow's order. -/
theorem LpP.addO (h : LpP R m T w) {f : Nat} (hf : f < 32) (hn : (m.o f).length ≤ 99999) (x : Int) :
    ∃ A0 c0 A c w3, w.cell? ⟨R, 1 + f * 8 + 6, none⟩ = some (.slice A0 (m.o f).length c0) ∧
      (Builtin.append_ #[22, 22] 22 #[.slice A0 (m.o f).length c0, .slice (some ⟨w.heap.size, 0, none⟩) 1 1]).run Try.prog (w.alloc (.cells #[.int .i64 x] 3)) = .ok (.slice A ((m.o f).length + 1) c) w3 ∧
      w3.cell? ⟨R, 1 + f * 8 + 6, none⟩ = some (.slice A0 (m.o f).length c0) ∧ w3.frozen? ⟨R, 1 + f * 8 + 6, none⟩ = false ∧ (∃ T', LpP R (m.od f (m.o f ++ [x])) T' (w3.setCell ⟨R, 1 + f * 8 + 6, none⟩ (.slice A ((m.o f).length + 1) c)) ∧ ∀ j, T' j → T j ∨ w.heap.size ≤ j) ∧ Chg T w (w3.setCell ⟨R, 1 + f * 8 + 6, none⟩ (.slice A ((m.o f).length + 1) c)) := by
  obtain ⟨h1, h2, vL, vO, h3, h4, h5, h6, h7, h8⟩ := h
  have h9 := h5 f hf
  obtain ⟨A, c, w3, hrun, hv, hb3, hk3, hwh⟩ := intElt.app_new3 x h9 (by omega) (Nat.zero_le _)
  have hS3 : w3.heap[R]? = w.heap[R]? := hk3 R (h1 R h2) fun e => lt_apart h3 h9 (by decide) e rfl
  have hB3 := h3.carry hS3
  obtain ⟨A0, c0, e0⟩ := ow_shape h9
  have hK : lpK m vO f 6 = .slice A0 (m.o f).length c0 := by unfold lpK; rw [if_neg (by omega), if_neg (by omega), if_pos rfl, e0]
  have d0 : w.cell? ⟨R, 1 + f * 8 + 6, none⟩ = some (.slice A0 (m.o f).length c0) := by rw [h3.cell (by omega), lpC_at m vL vO (by omega), hK]
  have k0 : w3.cell? ⟨R, 1 + f * 8 + 6, none⟩ = some (.slice A0 (m.o f).length c0) := by rw [hB3.cell (by omega), lpC_at m vL vO (by omega), hK]
  have hch : Chg T w w3 := ⟨hb3.os, hb3.tape, hb3.output, hb3.size, fun k hk hnT => hk3 k hk fun e => hnT (h7 f hf k e)⟩
  have hv' : w3.ownsRow 0 3 1 (.slice A ((m.o f).length + 1) c) (m.o f ++ [x]).length (srs csI (m.o f ++ [x])) := by rw [List.length_append]; exact hv
  have h4' : w3.ownsRow 0 62 4 vL m.l.length (srs csF m.l) := owk h4 fun b e => hk3 b (h1 b (h6 b e)) fun e2 => own_other h4 h9 (by decide) e e2
  have h5' : ∀ g, g < 32 → g ≠ f → w3.ownsRow 0 3 1 (vO g) (m.o g).length (srs csI (m.o g)) := fun g hg hgf => owk (h5 g hg) fun b e => hk3 b (h1 b (h7 g hg b e)) fun e2 => h8 g f hg hf hgf b e e2
  have hne : ∀ (u : Value) (o j : Nat), j ≠ R → (w3.setCell ⟨R, o, none⟩ u).heap[j]? = w3.heap[j]? := fun u o j hj => Below.heap_setCell _ _ _ _ (by simpa using hj)
  rw [e0] at hrun
  have hnew : ∀ b, (Value.slice A ((m.o f).length + 1) c).ownBlock = some b → (vO f).ownBlock = some b ∨ w.heap.size ≤ b := fun b e => by
    rcases hwh with h | ⟨g, h, hg⟩
    · exact .inl (h ▸ e)
    · rw [h] at e
      have : g = b := by simpa using e
      exact .inr (by omega)
  refine ⟨A0, c0, A, c, w3, d0, hrun, k0, hB3.free _, ⟨fun k => (T k ∨ w.heap.size ≤ k) ∧ k < w3.heap.size, ⟨fun k hk => by simpa [World.setCell] using hk.2, ⟨.inl h2, hB3.lt⟩, vL, (fun g => if g = f then .slice A ((m.o f).length + 1) c else vO g), ?_, ?_, fun g hg => ?_, fun b e => ⟨.inl (h6 b e), (own_lt h4' e).2⟩, fun g hg b e => ?_, fun f1 g1 hf1 hg1 hfg b e e2 => ?_⟩, fun j hj => hj.1⟩, hch.setCell h2 _ _⟩
  · refine (hB3.set_ (i := 1 + f * 8 + 6) (by omega) _).same fun i hi => ?_
    by_cases e : i = 1 + f * 8 + 6
    · subst e
      rw [updV_at, lpC_at _ vL _ (by omega)]
      unfold lpK
      rw [if_neg (by omega), if_neg (by omega), if_pos rfl]
      exact (if_pos rfl).symm
    · rw [updV_ne e]
      unfold lpC
      by_cases e0 : i = 0
      · rw [if_pos e0, if_pos e0]
      · rw [if_neg e0, if_neg e0]
        unfold lpK LpS.od
        by_cases g6 : (i - 1) % 8 = 6
        · have : (i - 1) / 8 ≠ f := by omega
          simp [g6, this]
        · simp [g6]
  · exact owk h4' fun b e => hne _ _ b (lt_apart hB3 h4' (by decide) e)
  · unfold LpS.od
    by_cases e : g = f
    · simp only [if_pos e]
      exact owk hv' fun b e => hne _ _ b (lt_apart hB3 hv' (by decide) e)
    · simp only [if_neg e]
      exact owk (h5' g hg e) fun b e2 => hne _ _ b (lt_apart hB3 (h5' g hg e) (by decide) e2)
  · by_cases eg : g = f
    · simp only [if_pos eg] at e
      refine ⟨?_, (own_lt hv' e).2⟩
      rcases hnew b e with h | h
      · exact .inl (h7 f hf b h)
      · exact .inr h
    · simp only [if_neg eg] at e
      exact ⟨.inl (h7 g hg b e), (own_lt (h5' g hg eg) e).2⟩
  · by_cases e1 : f1 = f
    · have e3 : g1 ≠ f := fun e4 => hfg (e1.trans e4.symm)
      simp only [if_pos e1] at e
      simp only [if_neg e3] at e2
      rcases hnew b e with h | h
      · exact h8 f g1 hf hg1 (fun e4 => e3 e4.symm) b h e2
      · have := h1 b (h7 g1 hg1 b e2); omega
    · simp only [if_neg e1] at e
      by_cases e3 : g1 = f
      · simp only [if_pos e3] at e2
        rcases hnew b e2 with h | h
        · exact h8 f1 f hf1 hf e1 b e h
        · have := h1 b (h7 f1 hf1 b e); omega
      · simp only [if_neg e3] at e2
        exact h8 f1 g1 hf1 hg1 hfg b e e2
end
end Go.Proofs.Ytkhngfadhfomoaa

