/-
  The generator's Length and Header (package airsharegen).
-/
import Derived.Test.YtfkbohfelacaoaaDoorLbGen
import Derived.Test.YtfkbohfelacaoaaDoorLoose
import Derived.Test.YtfkbohfelacaoaaDoorWhl
namespace Go.Proofs.YtfkbohfelacaoaaDoor
open Go.ChangeShapes Go.WideShapes Go.ChangeAt Go.RowKit
set_option linter.unusedVariables false

/-- What Length answers. -/
def GaveLen (B : Nat) (a : Option Addr) (len cap k : Nat) (w : World) (e : Ending) (w' : World) : Prop :=
  ∃ x : Int, 1 ≤ x ∧ x ≤ 4096 ∧ e = .returned (.int .i64 x) ∧ Gen B a len cap (k + 1) w' ∧ Only B w w'
theorem pickN {B : Nat} {w w' : World} {L : List Int} {cs : Array Value} {t : TypeId} (hcs : cs = (L.map (Value.int .i64)).toArray) (ho : Only B (w.alloc (.cells cs t)) w') (hB : B < w.heap.size) {n : Nat} (hn : n < L.length) :
    ∃ x, x ∈ L ∧ w'.cell? ⟨w.heap.size, n, none⟩ = some (.int .i64 x) := by
  refine ⟨L[n], List.getElem_mem _, ?_⟩
  rw [ho.cell (by simp) (by omega)]
  have e := (MapKept.heap_alloc w (.cells cs t)).1
  have e2 : cs[n]? = some (.int .i64 L[n]) := by rw [hcs, List.getElem?_toArray, List.getElem?_map, List.getElem?_eq_getElem hn]; rfl
  simp only [World.cell?, e]
  simpa using e2
def lenL : List Int := [100, 1, 60, 1500, 4096, 100, 700]
theorem lenL_bd {x : Int} (h : x ∈ lenL) : 1 ≤ x ∧ x ≤ 4096 := by
  simp only [lenL, List.mem_cons, List.not_mem_nil, or_false] at h; omega
theorem length_any (B : Nat) (a : Option Addr) (len cap k : Nat) (w : World) (hg : Gen B a len cap k w) (hk : k ≤ 1000000000) :
    Calls Tryd.prog 45 #[.pointer (some ⟨B, 0, none⟩)] w (GaveLen B a len cap k w) := by
  go_enter Tryd.func45, Tryd.ntmps45
  go_wp2_with fail
  refine (next_any B a len cap k 7 _ (by decide) (by decide) hk (hg.alloc _)).mono ?_
  rintro e w' ⟨r, r0, r1, rfl, hg', ho⟩
  obtain ⟨n, rfl⟩ := Int.eq_ofNat_of_zero_le r0
  obtain ⟨x, hx, hc⟩ := pickN (L := lenL) rfl ho hg.lt (n := n) (by show n < 7; omega)
  have hO := Lib.hid ((Only.alloc B w _).trans ho)
  have hg' := Lib.hid hg'
  have HX := Lib.hid (lenL_bd hx)
  clear ho hg hx
  have hn : n ≤ 6 := by omega
  go_wp2
  go_ret
  exact ⟨_, HX.out.1, HX.out.2, rfl, hg'.out, hO.out⟩
/-- A header's numbers are permitted and its station is one of the list. -/
def HdOk (st : ByteArray) (c p l f : Int) : Prop := st ∈ goodL ∧ (0 ≤ c ∧ c ≤ 7) ∧ (0 ≤ p ∧ p ≤ 65535) ∧ (1 ≤ l ∧ l ≤ 4096) ∧ (0 ≤ f ∧ f ≤ 65535)
/-- Block H holds a header of this kind. -/
def HdAt (H : Nat) (w : World) : Prop := ∃ (st : ByteArray) (c p l f : Int), HdOk st c p l f ∧ Whole w H 43 #[.string st, .int .i64 c, .int .i64 p, .int .i64 l, .int .i64 f]
/-- What an operation may do: blocks but B and H stay; H is as it was or holds a header. -/
def HdR (B H : Nat) (w w' : World) : Prop := w.heap.size ≤ w'.heap.size ∧ (∀ b, b < w.heap.size → b ≠ B → b ≠ H → w'.heap[b]? = w.heap[b]?) ∧ (w'.heap[H]? = w.heap[H]? ∨ HdAt H w')
def HdC (B : Nat) (a : Option Addr) (len cap K : Nat) (w0 : World) (f : Nat) (w : World) : Prop :=
  (∃ k, k + f ≤ K ∧ Gen B a len cap k w) ∧ Only B w0 w ∧ w0.heap.size < w.heap.size ∧ ∃ c0 c1 c2 c3 c4, Whole w w0.heap.size 43 #[c0, c1, c2, c3, c4]
/-- A row of numbers out of L, in a block of its own. -/
def RowV (B H : Nat) (L : List Int) (v : Value) (w : World) : Prop := ∃ g, g ≠ B ∧ g ≠ H ∧ g < w.heap.size ∧ v = .slice (some ⟨g, 0, none⟩) L.length L.length ∧ ∀ i (h : i < L.length), w.cell? ⟨g, i, none⟩ = some (.int .i64 L[i])
/-- The address of a number between 0 and m. -/
def PtrV (B H : Nat) (m : Int) (v : Value) (w : World) : Prop := ∃ g o, g ≠ B ∧ g ≠ H ∧ g < w.heap.size ∧ v = .pointer (some ⟨g, o, none⟩) ∧ ∃ x : Int, (0 ≤ x ∧ x ≤ m) ∧ w.cell? ⟨g, o, none⟩ = some (.int .i64 x)
def IntV (lo hi : Int) (v : Value) : Prop := ∃ x : Int, (lo ≤ x ∧ x ≤ hi) ∧ v = .int .i64 x
def portL : List Int := [0, 1, 80, 90, 65535, 443]
def lifeL : List Int := [0, 0, 1, 3, 65535]
def HdV (B H : Nat) : Nat → Value → World → Prop
  | 0, v, _ => v = .pointer (some ⟨B, 0, none⟩)
  | 1, v, _ => ∃ st, st ∈ goodL ∧ v = .string st
  | 2, v, _ => v = .pointer (some ⟨B, 0, none⟩)
  | 3, v, _ => IntV 0 7 v
  | 4, v, w => RowV B H portL v w
  | 5, v, _ => v = .pointer (some ⟨B, 0, none⟩)
  | 6, v, _ => IntV 0 5 v
  | 7, v, w => PtrV B H 65535 v w
  | 8, v, _ => IntV 0 65535 v
  | 9, v, _ => v = .pointer (some ⟨B, 0, none⟩)
  | 10, v, _ => IntV 1 4096 v
  | 11, v, w => RowV B H lifeL v w
  | 12, v, _ => v = .pointer (some ⟨B, 0, none⟩)
  | 13, v, _ => IntV 0 4 v
  | 14, v, w => PtrV B H 65535 v w
  | 15, v, _ => IntV 0 65535 v
  | 16, v, _ => ∃ (st : ByteArray) (c p l f : Int), HdOk st c p l f ∧ v = .agg #[.string st, .int .i64 c, .int .i64 p, .int .i64 l, .int .i64 f]
  | 17, _, w => HdAt H w
  | _, _, _ => True
theorem HdR.cell {B H : Nat} {w w' : World} (h : HdR B H w w') {g o : Nat} (h1 : g ≠ B) (h2 : g ≠ H) (h3 : g < w.heap.size) : w'.cell? ⟨g, o, none⟩ = w.cell? ⟨g, o, none⟩ := World.cell?_of_block (w := w) (h.2.1 g h3 h1 h2)
theorem HdR.row {B H : Nat} {w w' : World} (h : HdR B H w w') {L : List Int} {v : Value} (hv : RowV B H L v w) : RowV B H L v w' := by
  obtain ⟨g, h1, h2, h3, h4, h5⟩ := hv
  exact ⟨g, h1, h2, by have := h.1; omega, h4, fun i hi => by rw [h.cell h1 h2 h3]; exact h5 i hi⟩
theorem HdR.ptr {B H : Nat} {w w' : World} (h : HdR B H w w') {m : Int} {v : Value} (hv : PtrV B H m v w) : PtrV B H m v w' := by
  obtain ⟨g, o, h1, h2, h3, h4, x, h5, h6⟩ := hv
  exact ⟨g, o, h1, h2, by have := h.1; omega, h4, x, h5, by rw [h.cell h1 h2 h3]; exact h6⟩
theorem HdR.at_ {B H : Nat} {w w' : World} (h : HdR B H w w') (hv : HdAt H w) : HdAt H w' := by
  rcases h.2.2 with e | e
  · obtain ⟨st, c, p, l, f, h1, h2⟩ := hv
    exact ⟨st, c, p, l, f, h1, h2.carry e⟩
  · exact e
theorem HdV.keep {B H : Nat} (i : Nat) (v : Value) (w w' : World) (h : HdR B H w w') (hv : HdV B H i v w) : HdV B H i v w' := by
  unfold HdV at *
  split at hv <;> first | exact hv | exact h.row hv | exact h.ptr hv | exact h.at_ hv | trivial
theorem HdR.refl (B H : Nat) (w : World) : HdR B H w w := ⟨Nat.le_refl _, fun _ _ _ _ => rfl, .inl rfl⟩
theorem HdR.only {B H : Nat} {w w' : World} (h : Only B w w') (hH : H < w.heap.size) (hn : H ≠ B) : HdR B H w w' := ⟨h.size, fun b hb h1 _ => h.block b hb h1, .inl (h.block H hH hn)⟩
theorem HdC.step {B : Nat} {a : Option Addr} {len cap K f : Nat} {w0 w : World} (h : HdC B a len cap K w0 (f + 1) w) : HdC B a len cap K w0 f w := by
  obtain ⟨⟨k, hk, hg⟩, h2⟩ := h
  exact ⟨⟨k, by omega, hg⟩, h2⟩
theorem HdC.call {B : Nat} {a : Option Addr} {len cap K f k : Nat} {w0 w w' : World} (h : HdC B a len cap K w0 (f + 1) w) (hB : B < w0.heap.size) (hk : k + 1 + f ≤ K) (hg : Gen B a len cap (k + 1) w') (ho : Only B w w') : HdC B a len cap K w0 f w' := by
  obtain ⟨_, h2, h3, c0, c1, c2, c3, c4, hw⟩ := h
  exact ⟨⟨k + 1, hk, hg⟩, h2.trans ho, by have := ho.size; omega, c0, c1, c2, c3, c4, hw.carry (ho.block _ h3 (by omega))⟩
theorem HdC.alloc {B : Nat} {a : Option Addr} {len cap K f : Nat} {w0 w : World} (h : HdC B a len cap K w0 (f + 1) w) (hB : B < w0.heap.size) (o : Obj) : HdC B a len cap K w0 f (w.alloc o) := by
  obtain ⟨⟨k, hk, hg⟩, h2, h3, c0, c1, c2, c3, c4, hw⟩ := h
  exact ⟨⟨k, by omega, hg.alloc o⟩, h2.trans (Only.alloc B w o), by simp; omega, c0, c1, c2, c3, c4, hw.alloc o⟩
/-- Five values stored. -/
def put5 (w : World) (H : Nat) (u0 u1 u2 u3 u4 : Value) : World := ((((w.setCell ⟨H, 0, none⟩ u0).setCell ⟨H, 1, none⟩ u1).setCell ⟨H, 2, none⟩ u2).setCell ⟨H, 3, none⟩ u3).setCell ⟨H, 4, none⟩ u4
theorem Whole.put5 {w : World} {H : Nat} {t : TypeId} {c0 c1 c2 c3 c4 u0 u1 u2 u3 u4 : Value} (h : Whole w H t #[c0, c1, c2, c3, c4]) : Whole (put5 w H u0 u1 u2 u3 u4) H t #[u0, u1, u2, u3, u4] := ((((h.put 0 u0).put 1 u1).put 2 u2).put 3 u3).put 4 u4
theorem put5_far {w : World} {H k : Nat} {u0 u1 u2 u3 u4 : Value} (hn : k ≠ H) : (put5 w H u0 u1 u2 u3 u4).heap[k]? = w.heap[k]? := by
  unfold put5
  rw [Below.heap_setCell _ _ _ _ hn, Below.heap_setCell _ _ _ _ hn, Below.heap_setCell _ _ _ _ hn, Below.heap_setCell _ _ _ _ hn, Below.heap_setCell _ _ _ _ hn]
theorem put5_size {w : World} {H : Nat} {u0 u1 u2 u3 u4 : Value} : (put5 w H u0 u1 u2 u3 u4).heap.size = w.heap.size := by simp [put5, World.setCell]
theorem put5_below {w : World} {H C : Nat} {u0 u1 u2 u3 u4 : Value} (h : C ≤ H) : Below C w (put5 w H u0 u1 u2 u3 u4) :=
  ((((((Below.refl C w).setCell (p := ⟨H, 0, none⟩) h u0).setCell (p := ⟨H, 1, none⟩) h u1).setCell (p := ⟨H, 2, none⟩) h u2).setCell (p := ⟨H, 3, none⟩) h u3).setCell (p := ⟨H, 4, none⟩) h u4)
theorem HdC.store {B : Nat} {a : Option Addr} {len cap K fu : Nat} {w0 w : World} {st : ByteArray} {c p l f : Int} (h : HdC B a len cap K w0 (fu + 1) w) (hB : B < w0.heap.size) (hh : HdOk st c p l f) :
    HdC B a len cap K w0 fu (put5 w w0.heap.size (.string st) (.int .i64 c) (.int .i64 p) (.int .i64 l) (.int .i64 f)) ∧ HdR B w0.heap.size w (put5 w w0.heap.size (.string st) (.int .i64 c) (.int .i64 p) (.int .i64 l) (.int .i64 f)) ∧
    HdAt w0.heap.size (put5 w w0.heap.size (.string st) (.int .i64 c) (.int .i64 p) (.int .i64 l) (.int .i64 f)) := by
  obtain ⟨⟨k, hk, hg⟩, h2, h3, c0, c1, c2, c3, c4, hw⟩ := h
  have hA : HdAt w0.heap.size (put5 w w0.heap.size (.string st) (.int .i64 c) (.int .i64 p) (.int .i64 l) (.int .i64 f)) := ⟨st, c, p, l, f, hh, hw.put5⟩
  have hb := put5_below (w := w) (H := w0.heap.size) (u0 := .string st) (u1 := .int .i64 c) (u2 := .int .i64 p) (u3 := .int .i64 l) (u4 := .int .i64 f) (Nat.le_refl _)
  refine ⟨⟨⟨k, by omega, hg.kept (put5_below (by omega))⟩, ⟨hb.os.trans h2.os, hb.tape.trans h2.tape, hb.output.trans h2.output, ?_, fun j hj hn => (put5_far (by omega)).trans (h2.block j hj hn)⟩, ?_, _, _, _, _, _, hw.put5⟩, ⟨?_, fun j hj h1 h2 => put5_far h2, .inr hA⟩, hA⟩
  · rw [put5_size]; exact h2.size
  · rw [put5_size]; exact h3
  · rw [put5_size]; exact Nat.le_refl _
theorem RowV.new {B H : Nat} {w : World} (hB : B < w.heap.size) (hH : H < w.heap.size) (L : List Int) {cs : Array Value} (hcs : cs = (L.map (Value.int .i64)).toArray) (t : TypeId) : RowV B H L (.slice (some ⟨w.heap.size, 0, none⟩) L.length L.length) (w.alloc (.cells cs t)) := by
  refine ⟨w.heap.size, by omega, by omega, by simp, rfl, fun i hi => ?_⟩
  have e := (MapKept.heap_alloc w (.cells cs t)).1
  have e2 : cs[i]? = some (.int .i64 L[i]) := by rw [hcs, List.getElem?_toArray, List.getElem?_map, List.getElem?_eq_getElem hi]; rfl
  simp only [World.cell?, e]
  simpa using e2
theorem portL_bd : ∀ i (h : i < portL.length), 0 ≤ portL[i] ∧ portL[i] ≤ 65535 := by decide
theorem lifeL_bd : ∀ i (h : i < lifeL.length), 0 ≤ lifeL[i] ∧ lifeL[i] ≤ 65535 := by decide
/-- What Header answers: a valid header; at most eighteen more numbers have been taken. -/
def GaveHd (B : Nat) (a : Option Addr) (len cap k : Nat) (w : World) (e : Ending) (w' : World) : Prop :=
  ∃ (st : ByteArray) (c p l f : Int), HdOk st c p l f ∧ e = .returned (.agg #[.string st, .int .i64 c, .int .i64 p, .int .i64 l, .int .i64 f]) ∧ (∃ k', k' ≤ k + 18 ∧ Gen B a len cap k' w') ∧ Only B w w'
set_option maxRecDepth 100000 in
set_option maxHeartbeats 4000000 in
theorem header_any (B : Nat) (a : Option Addr) (len cap k : Nat) (w : World) (hg : Gen B a len cap k w) (hk : k ≤ 100000000) :
    Calls Tryd.prog 19 #[.pointer (some ⟨B, 0, none⟩)] w (GaveHd B a len cap k w) := by
  have hBw := hg.lt
  go_enter Tryd.func19, Tryd.ntmps19
  go_wp2_with fail
  refine wp_region_loose 20 (by kernel_rfl) (by kernel_rfl) (HdC B a len cap (k + 18) w) (HdR B w.heap.size) (HdV B w.heap.size) rfl (fun i v w w' h hv => HdV.keep i v w w' h hv) ?_ ?_ ?_
  · exact ⟨⟨k, by simp, hg.alloc _ |>.drew⟩, (Only.alloc B w _).drew, by simp, _, _, _, _, _, Whole.fresh w _ _⟩
  · simp only [OblAll]
    refine ⟨?_, ?_, ?_, ?_, ?_, ?_, ?_, ?_, ?_, ?_, ?_, ?_, ?_, ?_, ?_, ?_, ?_, ?_, trivial⟩
    all_goals
      intro fu wx vals hC hp
      simp [predL, predE, Region.binds, PreV, HdV] at hp
      simp only [fillA, if_true, Act.put]
      simp
      have HC := Lib.hid hC
      have hwx := hC.2.2.1
      have hBx : B < wx.heap.size := by omega
    · go_wp2
      exact ⟨rfl, HC.out.step, HdR.refl _ _ _, rfl⟩
    · simp only [hp]
      clear hp
      obtain ⟨⟨kk, hkk, hg'⟩, _⟩ := hC
      go_wp2_with fail
      refine (good_any B a len cap kk _ hg' (by omega)).mono ?_
      rintro e w' ⟨x, hx, rfl, hg2, ho⟩
      have HF := Lib.hid (And.intro (HC.out.call hBw (by omega) hg2 ho) (HdR.only ho hwx (by omega)))
      have HX := Lib.hid hx
      clear hg' hg2 ho hx
      go_wp2
      exact ⟨rfl, HF.out.1, HF.out.2, _, HX.out, rfl⟩
    · go_wp2
      exact ⟨rfl, HC.out.step, HdR.refl _ _ _, rfl⟩
    · simp only [hp]
      clear hp
      obtain ⟨⟨kk, hkk, hg'⟩, _⟩ := hC
      go_wp2_with fail
      refine (next_any B a len cap kk 8 _ (by decide) (by decide) (by omega) hg').mono ?_
      rintro e w' ⟨r, r0, r1, rfl, hg2, ho⟩
      have HF := Lib.hid (And.intro (HC.out.call hBw (by omega) hg2 ho) (HdR.only ho hwx (by omega)))
      have HX := Lib.hid (show 0 ≤ r ∧ r ≤ 7 by omega)
      clear hg' hg2 ho
      go_wp2
      exact ⟨rfl, HF.out.1, HF.out.2, _, HX.out, rfl⟩
    · clear hp
      go_wp2
      exact ⟨rfl, HC.out.alloc hBw _, HdR.only (Only.alloc B wx _) hwx (by omega), RowV.new hBx hwx portL rfl _⟩
    · go_wp2
      exact ⟨rfl, HC.out.step, HdR.refl _ _ _, rfl⟩
    · simp only [hp]
      clear hp
      obtain ⟨⟨kk, hkk, hg'⟩, _⟩ := hC
      go_wp2_with fail
      refine (next_any B a len cap kk 6 _ (by decide) (by decide) (by omega) hg').mono ?_
      rintro e w' ⟨r, r0, r1, rfl, hg2, ho⟩
      have HF := Lib.hid (And.intro (HC.out.call hBw (by omega) hg2 ho) (HdR.only ho hwx (by omega)))
      have HX := Lib.hid (show 0 ≤ r ∧ r ≤ 5 by omega)
      clear hg' hg2 ho
      go_wp2
      exact ⟨rfl, HF.out.1, HF.out.2, _, HX.out, rfl⟩
    · obtain ⟨⟨g, g1, g2, g3, e1, e2⟩, r, hr, e3⟩ := hp
      simp only [e1, e3]
      obtain ⟨n, rfl⟩ := Int.eq_ofNat_of_zero_le hr.1
      have hn : n < portL.length := by show n < 6; omega
      have HX := Lib.hid (And.intro (portL_bd n hn) (e2 n hn))
      have hn' : n ≤ 5 := by omega
      clear e1 e2 e3 hC hr
      go_wp2
      exact ⟨rfl, HC.out.step, HdR.refl _ _ _, g, _, g1, g2, g3, rfl, _, HX.out.1, HX.out.2⟩
    · obtain ⟨g, o, g1, g2, g3, e1, x, hx, hc⟩ := hp
      simp only [e1]
      have HX := Lib.hid hx
      clear e1 hx hC
      go_wp2
      exact ⟨rfl, HC.out.step, HdR.refl _ _ _, _, HX.out, rfl⟩
    · go_wp2
      exact ⟨rfl, HC.out.step, HdR.refl _ _ _, rfl⟩
    · simp only [hp]
      clear hp
      obtain ⟨⟨kk, hkk, hg'⟩, _⟩ := hC
      go_wp2_with fail
      refine (length_any B a len cap kk _ hg' (by omega)).mono ?_
      rintro e w' ⟨x, x0, x1, rfl, hg2, ho⟩
      have HF := Lib.hid (And.intro (HC.out.call hBw (by omega) hg2 ho) (HdR.only ho hwx (by omega)))
      have HX := Lib.hid (And.intro x0 x1)
      clear hg' hg2 ho x0 x1
      go_wp2
      exact ⟨rfl, HF.out.1, HF.out.2, _, HX.out, rfl⟩
    · clear hp
      go_wp2
      exact ⟨rfl, HC.out.alloc hBw _, HdR.only (Only.alloc B wx _) hwx (by omega), RowV.new hBx hwx lifeL rfl _⟩
    · go_wp2
      exact ⟨rfl, HC.out.step, HdR.refl _ _ _, rfl⟩
    · simp only [hp]
      clear hp
      obtain ⟨⟨kk, hkk, hg'⟩, _⟩ := hC
      go_wp2_with fail
      refine (next_any B a len cap kk 5 _ (by decide) (by decide) (by omega) hg').mono ?_
      rintro e w' ⟨r, r0, r1, rfl, hg2, ho⟩
      have HF := Lib.hid (And.intro (HC.out.call hBw (by omega) hg2 ho) (HdR.only ho hwx (by omega)))
      have HX := Lib.hid (show 0 ≤ r ∧ r ≤ 4 by omega)
      clear hg' hg2 ho
      go_wp2
      exact ⟨rfl, HF.out.1, HF.out.2, _, HX.out, rfl⟩
    · obtain ⟨⟨g, g1, g2, g3, e1, e2⟩, r, hr, e3⟩ := hp
      simp only [e1, e3]
      obtain ⟨n, rfl⟩ := Int.eq_ofNat_of_zero_le hr.1
      have hn : n < lifeL.length := by show n < 5; omega
      have HX := Lib.hid (And.intro (lifeL_bd n hn) (e2 n hn))
      have hn' : n ≤ 4 := by omega
      clear e1 e2 e3 hC hr
      go_wp2
      exact ⟨rfl, HC.out.step, HdR.refl _ _ _, g, _, g1, g2, g3, rfl, _, HX.out.1, HX.out.2⟩
    · obtain ⟨g, o, g1, g2, g3, e1, x, hx, hc⟩ := hp
      simp only [e1]
      have HX := Lib.hid hx
      clear e1 hx hC
      go_wp2
      exact ⟨rfl, HC.out.step, HdR.refl _ _ _, _, HX.out, rfl⟩
    · obtain ⟨⟨st, hst, e1⟩, ⟨c, hc, e2⟩, ⟨p, hpp, e3⟩, ⟨l, hl, e4⟩, ⟨f, hf, e5⟩⟩ := hp
      simp only [e1, e2, e3, e4, e5]
      have HX := Lib.hid (show HdOk st c p l f from ⟨hst, hc, hpp, hl, hf⟩)
      clear e1 e2 e3 e4 e5 hst hc hpp hl hf hC
      go_wp2
      exact ⟨rfl, HC.out.step, HdR.refl _ _ _, _, _, _, _, _, HX.out, rfl⟩
    · obtain ⟨⟨st, c, p, l, f, hh, e1⟩, h0⟩ := hp
      simp only [e1]
      have HX := Lib.hid hh
      obtain ⟨hk', ho', hs', c0, c1, c2, c3, c4, hw⟩ := hC
      have HW := Lib.hid hw
      have d0 := hw.read 0
      have d1 := hw.read 1
      have d2 := hw.read 2
      have d3 := hw.read 3
      have d4 := hw.read 4
      have z0 := hw.free 0
      have z1 := hw.free 1
      have z2 := hw.free 2
      have z3 := hw.free 3
      have z4 := hw.free 4
      simp at d0 d1 d2 d3 d4
      clear hw hh e1 h0 hk' ho'
      have HF := Lib.hid (HC.out.store hBw HX.out)
      unfold put5 at HF
      go_wp2
      exact ⟨rfl, HF.out.1, HF.out.2.1, HF.out.2.2⟩
  · intro w1 vals hC hV
    obtain ⟨st, c, p, l, f, hh, hw⟩ := (show HdAt w.heap.size w1 from hV 17 (by simp))
    obtain ⟨⟨k', hk', hg'⟩, ho, _⟩ := hC
    have d0 := hw.read 0
    have d1 := hw.read 1
    have d2 := hw.read 2
    have d3 := hw.read 3
    have d4 := hw.read 4
    simp at d0 d1 d2 d3 d4
    have HF := Lib.hid (show GaveHd B a len cap k w (.returned (.agg #[.string st, .int .i64 c, .int .i64 p, .int .i64 l, .int .i64 f])) w1 from ⟨st, c, p, l, f, hh, rfl, ⟨k', by omega, hg'⟩, ho⟩)
    clear hh hw hg' ho hV
    simp only [fillA, if_true, Act.put]
    simp
    go_wp2
    exact bodyPost_ret (v := .agg #[.string st, .int .i64 c, .int .i64 p, .int .i64 l, .int .i64 f]) (by simp [results, Tryd.results19, go_sem, d0, d1, d2, d3, d4]) rfl HF.out
end Go.Proofs.YtfkbohfelacaoaaDoor

