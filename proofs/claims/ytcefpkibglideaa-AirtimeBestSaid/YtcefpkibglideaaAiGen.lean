/-
  Layer 19: the generator's Rate and the statements' rate.
-/
import Derived.Test.YtcefpkibglideaaAiPlain
import Derived.Test.YtcefpkibglideaaWhl
import Derived.Test.YtcefpkibglideaaSrMem
import Derived.Lib.Hide
namespace Go.Proofs.Ytcefpkibglideaa
open Go.ChangeShapes Go.WideShapes Go.ChangeAt Go.RowKit
set_option linter.unusedVariables false

abbrev Rt := Int × Int
def csR (r : Rt) : List Value := [.int .i64 r.1, .int .i64 r.2]
theorem csR_len (r : Rt) : (csR r).length = 2 := rfl
/-- The numbers fit and stay far from the bounds. -/
def RtF (r : Rt) : Prop := -9223372036854775808 ≤ r.1 ∧ r.1 ≤ 9223372036854775807 ∧ -9223372036854775808 ≤ r.2 ∧ r.2 ≤ 9223372036854775807
def rtL : List Rt := [(6000, 100), (8000, 0), (54000, 50), (1, 0), (10000000, 100000), (300000, 20)]
theorem rtL_ok {r : Rt} (h : r ∈ rtL) : aiV r.1 r.2 = true := by
  simp only [rtL, List.mem_cons, List.not_mem_nil, or_false] at h
  rcases h with rfl | rfl | rfl | rfl | rfl | rfl <;> rfl
theorem RtF.of {r : Rt} (h : aiV r.1 r.2 = true) : RtF r := by have := aiV_cases h; unfold RtF; omega
def rtX : List Rt := [(0, 0), (-1, 0), (10000001, 0), (1, -1), (1, 100001)]
theorem rtX_ok {r : Rt} (h : r ∈ rtX) : RtF r := by
  simp only [rtX, List.mem_cons, List.not_mem_nil, or_false] at h
  rcases h with rfl | rfl | rfl | rfl | rfl <;> exact ⟨by decide, by decide, by decide, by decide⟩
theorem pickR {B : Nat} {w w' : World} {L : List Rt} {cs : Array Value} {t : TypeId} (hcs : cs = (srs csR L).toArray) (ho : Only B (w.alloc (.cells cs t)) w') (hB : B < w.heap.size) {n : Nat} (hn : n < L.length) :
    ∃ r, r ∈ L ∧ w'.cell? ⟨w.heap.size, n * 2, none⟩ = some (.int .i64 r.1) ∧ w'.cell? ⟨w.heap.size, n * 2 + 1, none⟩ = some (.int .i64 r.2) := by
  refine ⟨L[n], List.getElem_mem _, ?_, ?_⟩
  · rw [ho.cell (by simp) (by omega), (Whole.fresh w t cs).read]
    rw [hcs, List.getElem?_toArray]
    exact srs_at csR_len L n 0 hn (by decide)
  · rw [ho.cell (by simp) (by omega), (Whole.fresh w t cs).read]
    rw [hcs, List.getElem?_toArray]
    exact srs_at csR_len L n 1 hn (by decide)
section
variable {w : World} {B g len cap k : Nat} {a : Option Addr} {x y : Int} {t : TypeId}
def putR (w : World) (g : Nat) (x y : Int) : World := (w.setCell ⟨g, 0, none⟩ (.int .i64 x)).setCell ⟨g, 1, none⟩ (.int .i64 y)
theorem putR_far {j : Nat} (hn : j ≠ g) : (putR w g x y).heap[j]? = w.heap[j]? := by
  unfold putR
  exact (Below.heap_setCell _ ⟨g, 1, none⟩ _ j hn).trans (Below.heap_setCell _ ⟨g, 0, none⟩ _ j hn)
theorem putR_size : (putR w g x y).heap.size = w.heap.size := by simp [putR, World.setCell]
theorem putR_below {C : Nat} (h : C ≤ g) : Below C w (putR w g x y) :=
  ⟨rfl, rfl, rfl, by rw [putR_size]; exact Nat.le_refl _, fun j hj => putR_far (by omega)⟩
theorem Whole.putR {p q : Value} (h : Whole w g t #[p, q]) : Whole (putR w g x y) g t #[.int .i64 x, .int .i64 y] := (h.put 0 (.int .i64 x)).put 1 (.int .i64 y)
theorem only_putR {wS : World} (ho : Only B wS w) (hg : wS.heap.size ≤ g) : Only B wS (putR w g x y) := by
  have hb := putR_below (w := w) (g := g) (x := x) (y := y) hg
  exact ⟨hb.os.trans ho.os, hb.tape.trans ho.tape, hb.output.trans ho.output, by rw [putR_size]; exact ho.size, fun j hj hn => (putR_far (by omega)).trans (ho.block j hj hn)⟩
theorem gen_putR (h : Gen B a len cap k w) (hg : B < g) : Gen B a len cap k (putR w g x y) := h.kept (putR_below (by omega))
end
/-- What Rate answers: one of the list. -/
def GaveR (L : List Rt) (B : Nat) (a : Option Addr) (len cap k : Nat) (w0 w : World) (e : Ending) (w' : World) : Prop :=
  ∃ r : Rt, r ∈ L ∧ e = .returned (.agg #[.int .i64 r.1, .int .i64 r.2]) ∧ Has B a len cap (k + 1) w0 w' ∧ Only B w w'
set_option maxHeartbeats 2000000 in
theorem grate_any (B : Nat) (a : Option Addr) (len cap k : Nat) (w0 w : World) (h : Has B a len cap k w0 w) (hk : k ≤ 1000000000) :
    Calls Try.prog 13 #[.pointer (some ⟨B, 0, none⟩)] w (GaveR rtL B a len cap k w0 w) := by
  have HB := Lib.hid h.2
  have hg := h.1
  have hlt := hg.lt
  clear h
  have HW := Lib.hid (Whole.fresh w 24 #[.int .i64 0, .int .i64 0])
  go_enter Try.func13, Try.ntmps13
  go_wp2_with fail
  refine (next_any B a len cap k 6 _ (by decide) (by decide) hk ((hg.alloc _).alloc _)).mono ?_
  rintro e w' ⟨r, r0, r1, rfl, hg', ho⟩
  obtain ⟨n, rfl⟩ := Int.eq_ofNat_of_zero_le r0
  obtain ⟨r, hr, c0, c1⟩ := pickR (L := rtL) rfl ho (by simp; omega) (n := n) (by show n < 6; omega)
  have hsz : w.heap.size < w'.heap.size := by have := ho.size; simp at this; omega
  have hsW : (w.alloc (.cells #[.int .i64 0, .int .i64 0] 24)).heap.size = w.heap.size + 1 := by simp
  rw [hsW] at c0 c1
  have hW : Whole w' w.heap.size 24 #[.int .i64 0, .int .i64 0] := (HW.out.alloc _).carry (ho.block _ (by simp; omega) (by omega))
  have hO := (((Only.alloc B w _).trans (Only.alloc B _ _)).trans ho)
  obtain ⟨x, y⟩ := r
  simp only at c0 c1
  have hP : Whole (putR w' w.heap.size x y) w.heap.size 24 #[.int .i64 x, .int .i64 y] := hW.putR
  have d0 : (putR w' w.heap.size x y).cell? ⟨w.heap.size, 0, none⟩ = some (.int .i64 x) := (hP.read 0).trans rfl
  have d1 : (putR w' w.heap.size x y).cell? ⟨w.heap.size, 1, none⟩ = some (.int .i64 y) := (hP.read 1).trans rfl
  have e0 : w'.cell? ⟨w.heap.size, 0, none⟩ = some (.int .i64 0) := (hW.read 0).trans rfl
  have e1 : w'.cell? ⟨w.heap.size, 1, none⟩ = some (.int .i64 0) := (hW.read 1).trans rfl
  have q0 := hW.free 0
  have q1 := hW.free 1
  have hO2 : Only B w (putR w' w.heap.size x y) := only_putR hO (Nat.le_refl _)
  have HF := Lib.hid (show GaveR rtL B a len cap k w0 w (.returned (.agg #[.int .i64 x, .int .i64 y])) (putR w' w.heap.size x y) from ⟨(x, y), hr, rfl, ⟨gen_putR hg' hlt, HB.out.trans (hO2.below (by omega))⟩, hO2⟩)
  have hn : n ≤ 5 := by omega
  clear hO hO2 ho hg' hW hP HW hg hr HB
  unfold putR at *
  go_wp2
  exact bodyPost_ret (v := .agg #[.int .i64 x, .int .i64 y]) (by simp [results, Try.results13, go_sem, d0, d1]) rfl HF.out
/-- What rate answers: any that fits. -/
def GaveRt (B : Nat) (a : Option Addr) (len cap k : Nat) (w0 w : World) (e : Ending) (w' : World) : Prop :=
  ∃ (r : Rt) (k' : Nat), RtF r ∧ k' ≤ k + 3 ∧ e = .returned (.agg #[.int .i64 r.1, .int .i64 r.2]) ∧ Has B a len cap k' w0 w' ∧ Only B w w'
set_option maxHeartbeats 4000000 in
theorem lrate_any (B : Nat) (a : Option Addr) (len cap k : Nat) (w0 w : World) (h : Has B a len cap k w0 w) (hk : k ≤ 1000000) :
    Calls Try.prog 9 #[.pointer (some ⟨B, 0, none⟩)] w (GaveRt B a len cap k w0 w) := by
  have HB := Lib.hid h.2
  have hg := h.1
  have hlt := hg.lt
  clear h
  have HW := Lib.hid (Whole.fresh w 24 #[.int .i64 0, .int .i64 0])
  have HR := Lib.hid (grate_any B a len cap k _ _ ⟨hg.alloc (.cells #[.int .i64 0, .int .i64 0] 24), Below.refl _ _⟩ (by omega))
  go_enter Try.func9, Try.ntmps9
  go_wp2_with fail
  (with_reducible refine HR.out.mono ?_); rintro e w1 ⟨⟨x, y⟩, hr, rfl, ⟨hg1, _⟩, ho1⟩
  have hW1 : Whole w1 w.heap.size 24 #[.int .i64 0, .int .i64 0] := HW.out.carry (ho1.block _ (by simp) (by omega))
  have hs1 := hW1.size_lt
  have hO1 : Only B w w1 := (Only.alloc B w _).trans ho1
  obtain ⟨w2, hw2⟩ : ∃ w2, w1.alloc (.cells #[.int .i64 x, .int .i64 y] 24) = w2 := ⟨_, rfl⟩
  have hWx : Whole w2 w1.heap.size 24 #[.int .i64 x, .int .i64 y] := hw2 ▸ Whole.fresh w1 _ _
  have hW2 : Whole w2 w.heap.size 24 #[.int .i64 0, .int .i64 0] := hw2 ▸ hW1.alloc _
  have hg2 : Gen B a len cap (k + 1) w2 := hw2 ▸ hg1.alloc _
  have hO2 : Only B w w2 := hw2 ▸ hO1.trans (Only.alloc B w1 _)
  have HXR := Lib.hid (RtF.of (rtL_ok hr))
  have HN := Lib.hid (next_any B a len cap (k + 1) 6 _ (by decide) (by decide) (by omega) hg2)
  have H2 := Lib.hid (And.intro hWx (And.intro hW2 hO2))
  clear hWx hW2 hO2 hg2 hO1 hW1 ho1 hg1 hr HR HW hg
  go_wp2_with fail
  (with_reducible refine HN.out.mono ?_); rintro e w3 ⟨r, r0, r1, rfl, hg3, ho3⟩
  obtain ⟨hX, hZ, hO⟩ := H2.out
  have hX3 := hX.carry (ho3.block _ hX.size_lt (by omega))
  have hZ3 := hZ.carry (ho3.block _ hZ.size_lt (by omega))
  have hO3 := hO.trans ho3
  clear hX hZ hO H2 HN hw2
  have hs3 : w.heap.size < w3.heap.size := hZ3.size_lt
  by_cases hr : r = 0
  · subst hr
    have HN := Lib.hid (next_any B a len cap (k + 1 + 1) 5 _ (by decide) (by decide) (by omega) (hg3.alloc (.cells (srs csR rtX).toArray 24)))
    have H3 := Lib.hid (And.intro hX3 (And.intro hZ3 hO3))
    clear hX3 hZ3 hO3 hg3 ho3
    simp only [srs, rtX, csR, List.flatMap_cons, List.flatMap_nil, List.append_nil, List.cons_append, List.nil_append] at HN
    go_wp2_with fail
    (with_reducible refine HN.out.mono ?_); rintro e w4 ⟨r, r0, r1, rfl, hg4, ho4⟩
    obtain ⟨n, rfl⟩ := Int.eq_ofNat_of_zero_le r0
    obtain ⟨⟨p, q⟩, hr, c0, c1⟩ := pickR (L := rtX) rfl ho4 (by omega) (n := n) (by show n < 5; omega)
    simp only at c0 c1
    obtain ⟨hX, hZ, hO⟩ := H3.out
    have hX4 := (hX.alloc _).carry (ho4.block _ (by have := hX.size_lt; simp; omega) (by omega))
    have hZ4 := (hZ.alloc _).carry (ho4.block _ (by simp; omega) (by omega))
    have hO4 := (hO.trans (Only.alloc B w3 _)).trans ho4
    have HXR := Lib.hid (rtX_ok hr)
    have hn : n ≤ 4 := by omega
    have a0 := (hX4.read 0).trans (rfl : _ = some (Value.int .i64 x))
    have a1 := (hX4.read 1).trans (rfl : _ = some (Value.int .i64 y))
    have b0 := hX4.free 0
    have b1 := hX4.free 1
    have hs4 : w1.heap.size < w4.heap.size := hX4.size_lt
    have hX5 : Whole (putR w4 w1.heap.size p q) w1.heap.size 24 #[.int .i64 p, .int .i64 q] := hX4.putR
    have hZ5 : Whole (putR w4 w1.heap.size p q) w.heap.size 24 #[.int .i64 0, .int .i64 0] := hZ4.carry (putR_far (by omega))
    have hO5 : Only B w (putR w4 w1.heap.size p q) := only_putR hO4 (by omega)
    have hg5 : Gen B a len cap (k + 1 + 1 + 1) (putR w4 w1.heap.size p q) := gen_putR hg4 (by omega)
    obtain ⟨w5, hw5⟩ : ∃ w5, putR w4 w1.heap.size p q = w5 := ⟨_, rfl⟩
    rw [hw5] at hX5 hZ5 hO5 hg5
    have x0 := (hX5.read 0).trans (rfl : _ = some (Value.int .i64 p))
    have x1 := (hX5.read 1).trans (rfl : _ = some (Value.int .i64 q))
    have z0 := (hZ5.read 0).trans (rfl : _ = some (Value.int .i64 0))
    have z1 := (hZ5.read 1).trans (rfl : _ = some (Value.int .i64 0))
    have q0 := hZ5.free 0
    have q1 := hZ5.free 1
    have hP : Whole (putR w5 w.heap.size p q) w.heap.size 24 #[.int .i64 p, .int .i64 q] := hZ5.putR
    have d0 : (putR w5 w.heap.size p q).cell? ⟨w.heap.size, 0, none⟩ = some (.int .i64 p) := (hP.read 0).trans rfl
    have d1 : (putR w5 w.heap.size p q).cell? ⟨w.heap.size, 1, none⟩ = some (.int .i64 q) := (hP.read 1).trans rfl
    have hOf : Only B w (putR w5 w.heap.size p q) := only_putR hO5 (Nat.le_refl _)
    have HF := Lib.hid (show GaveRt B a len cap k w0 w (.returned (.agg #[.int .i64 p, .int .i64 q])) (putR w5 w.heap.size p q) from ⟨(p, q), k + 1 + 1 + 1, HXR.out, by omega, rfl, ⟨gen_putR hg5 hlt, HB.out.trans (hOf.below (by omega))⟩, hOf⟩)
    clear hOf hP hX hZ hO hX4 hZ4 hO4 hg4 ho4 hX5 hZ5 hO5 hg5 H3 HN hr
    unfold putR at *
    go_wp2
    exact bodyPost_ret (v := .agg #[.int .i64 p, .int .i64 q]) (by simp [results, Try.results9, go_sem, d0, d1]) rfl HF.out
  · have hX := hX3
    have c0 := (hX3.read 0).trans (rfl : _ = some (Value.int .i64 x))
    have c1 := (hX3.read 1).trans (rfl : _ = some (Value.int .i64 y))
    have z0 := (hZ3.read 0).trans (rfl : _ = some (Value.int .i64 0))
    have z1 := (hZ3.read 1).trans (rfl : _ = some (Value.int .i64 0))
    have q0 := hZ3.free 0
    have q1 := hZ3.free 1
    have hP : Whole (putR w3 w.heap.size x y) w.heap.size 24 #[.int .i64 x, .int .i64 y] := hZ3.putR
    have d0 : (putR w3 w.heap.size x y).cell? ⟨w.heap.size, 0, none⟩ = some (.int .i64 x) := (hP.read 0).trans rfl
    have d1 : (putR w3 w.heap.size x y).cell? ⟨w.heap.size, 1, none⟩ = some (.int .i64 y) := (hP.read 1).trans rfl
    have hOf : Only B w (putR w3 w.heap.size x y) := only_putR hO3 (Nat.le_refl _)
    have HF := Lib.hid (show GaveRt B a len cap k w0 w (.returned (.agg #[.int .i64 x, .int .i64 y])) (putR w3 w.heap.size x y) from ⟨(x, y), k + 1 + 1, HXR.out, by omega, rfl, ⟨gen_putR hg3 hlt, HB.out.trans (hOf.below (by omega))⟩, hOf⟩)
    clear hOf hP hX hX3 hZ3 hO3 hg3 ho3
    unfold putR at *
    go_wp2
    exact bodyPost_ret (v := .agg #[.int .i64 x, .int .i64 y]) (by simp [results, Try.results9, go_sem, d0, d1]) rfl HF.out
end Go.Proofs.Ytcefpkibglideaa

