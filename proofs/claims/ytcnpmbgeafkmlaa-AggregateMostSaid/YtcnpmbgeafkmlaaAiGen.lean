/-
  Layer 19: the generator's Rate and the statements' rate.
-/
import Derived.Test.YtcnpmbgeafkmlaaAiPlain
import Derived.Test.YtcnpmbgeafkmlaaWhl
import Derived.Test.YtcnpmbgeafkmlaaSrMem
import Derived.Lib.Hide
namespace Go.Proofs.Ytcnpmbgeafkmlaa
open Go.ChangeShapes Go.WideShapes Go.ChangeAt Go.RowKit
set_option linter.unusedVariables false

abbrev Rt := Int × Int
def csR (r : Rt) : List Value := [.int .i64 r.1, .int .i64 r.2]
theorem csR_len (r : Rt) : (csR r).length = 2 := rfl
/-- The numbers fit and stay far from the bounds. -/
def RtF (r : Rt) : Prop := -9223372036854775808 ≤ r.1 ∧ r.1 ≤ 9223372036854775807 ∧ -9223372036854775808 ≤ r.2 ∧ r.2 ≤ 9223372036854775807
def rtL : List Rt := [(6000, 100), (8000, 0), (54000, 50), (1, 0), (10000000, 100000), (300000, 20)]
theorem rtL_ok {r : Rt} (h : r ∈ rtL) : aiV r.1 r.2 = true := by
  simp only [rtL, List.mem_cons, List.not_mem_nil, or_false] at h
  rcases h with rfl | rfl | rfl | rfl | rfl | rfl <;> rfl
theorem RtF.of {r : Rt} (h : aiV r.1 r.2 = true) : RtF r := by have := aiV_cases h; unfold RtF; omega
def rtX : List Rt := [(0, 0), (-1, 0), (10000001, 0), (1, -1), (1, 100001)]
theorem rtX_ok {r : Rt} (h : r ∈ rtX) : RtF r := by
  simp only [rtX, List.mem_cons, List.not_mem_nil, or_false] at h
  rcases h with rfl | rfl | rfl | rfl | rfl <;> exact ⟨by decide, by decide, by decide, by decide⟩
theorem pickR {B : Nat} {w w' : World} {L : List Rt} {cs : Array Value} {t : TypeId} (hcs : cs = (srs csR L).toArray) (ho : Only B (w.alloc (.cells cs t)) w') (hB : B < w.heap.size) {n : Nat} (hn : n < L.length) :
    ∃ r, r ∈ L ∧ w'.cell? ⟨w.heap.size, n * 2, none⟩ = some (.int .i64 r.1) ∧ w'.cell? ⟨w.heap.size, n * 2 + 1, none⟩ = some (.int .i64 r.2) := by
  refine ⟨L[n], List.getElem_mem _, ?_, ?_⟩
  · rw [ho.cell (by simp) (by omega), (Whole.fresh w t cs).read]
    rw [hcs, List.getElem?_toArray]
    exact srs_at csR_len L n 0 hn (by decide)
  · rw [ho.cell (by simp) (by omega), (Whole.fresh w t cs).read]
    rw [hcs, List.getElem?_toArray]
    exact srs_at csR_len L n 1 hn (by decide)
section
variable {w : World} {B g len cap k : Nat} {a : Option Addr} {x y : Int} {t : TypeId}
def putR (w : World) (g : Nat) (x y : Int) : World := (w.setCell ⟨g, 0, none⟩ (.int .i64 x)).setCell ⟨g, 1, none⟩ (.int .i64 y)
theorem putR_far {j : Nat} (hn : j ≠ g) : (putR w g x y).heap[j]? = w.heap[j]? := by
  unfold putR
  exact (Below.heap_setCell _ ⟨g, 1, none⟩ _ j hn).trans (Below.heap_setCell _ ⟨g, 0, none⟩ _ j hn)
theorem putR_size : (putR w g x y).heap.size = w.heap.size := by simp [putR, World.setCell]
theorem putR_below {C : Nat} (h : C ≤ g) : Below C w (putR w g x y) :=
  ⟨rfl, rfl, rfl, by rw [putR_size]; exact Nat.le_refl _, fun j hj => putR_far (by omega)⟩
theorem Whole.putR {p q : Value} (h : Whole w g t #[p, q]) : Whole (putR w g x y) g t #[.int .i64 x, .int .i64 y] := (h.put 0 (.int .i64 x)).put 1 (.int .i64 y)
theorem only_putR {wS : World} (ho : Only B wS w) (hg : wS.heap.size ≤ g) : Only B wS (putR w g x y) := by
  have hb := putR_below (w := w) (g := g) (x := x) (y := y) hg
  exact ⟨hb.os.trans ho.os, hb.tape.trans ho.tape, hb.output.trans ho.output, by rw [putR_size]; exact ho.size, fun j hj hn => (putR_far (by omega)).trans (ho.block j hj hn)⟩
theorem gen_putR (h : Gen B a len cap k w) (hg : B < g) : Gen B a len cap k (putR w g x y) := h.kept (putR_below (by omega))
end
/-- What Rate answers: one of the list. -/
def GaveR (L : List Rt) (B : Nat) (a : Option Addr) (len cap k : Nat) (w0 w : World) (e : Ending) (w' : World) : Prop :=
  ∃ r : Rt, r ∈ L ∧ e = .returned (.agg #[.int .i64 r.1, .int .i64 r.2]) ∧ Has B a len cap (k + 1) w0 w' ∧ Only B w w'
set_option maxHeartbeats 2000000 in
theorem grate_any (B : Nat) (a : Option Addr) (len cap k : Nat) (w0 w : World) (h : Has B a len cap k w0 w) (hk : k ≤ 1000000000) :
    Calls Try.prog 14 #[.pointer (some ⟨B, 0, none⟩)] w (GaveR rtL B a len cap k w0 w) := by
  have HB := Lib.hid h.2
  have hg := h.1
  have hlt := hg.lt
  clear h
  have HW := Lib.hid (Whole.fresh w 34 #[.int .i64 0, .int .i64 0])
  go_enter Try.func14, Try.ntmps14
  go_wp2_with fail
  refine (next_any B a len cap k 6 _ (by decide) (by decide) hk ((hg.alloc _).alloc _)).mono ?_
  rintro e w' ⟨r, r0, r1, rfl, hg', ho⟩
  obtain ⟨n, rfl⟩ := Int.eq_ofNat_of_zero_le r0
  obtain ⟨r, hr, c0, c1⟩ := pickR (L := rtL) rfl ho (by simp; omega) (n := n) (by show n < 6; omega)
  have hsz : w.heap.size < w'.heap.size := by have := ho.size; simp at this; omega
  have hsW : (w.alloc (.cells #[.int .i64 0, .int .i64 0] 34)).heap.size = w.heap.size + 1 := by simp
  rw [hsW] at c0 c1
  have hW : Whole w' w.heap.size 34 #[.int .i64 0, .int .i64 0] := (HW.out.alloc _).carry (ho.block _ (by simp; omega) (by omega))
  have hO := (((Only.alloc B w _).trans (Only.alloc B _ _)).trans ho)
  obtain ⟨x, y⟩ := r
  simp only at c0 c1
  have hP : Whole (putR w' w.heap.size x y) w.heap.size 34 #[.int .i64 x, .int .i64 y] := hW.putR
  have d0 : (putR w' w.heap.size x y).cell? ⟨w.heap.size, 0, none⟩ = some (.int .i64 x) := (hP.read 0).trans rfl
  have d1 : (putR w' w.heap.size x y).cell? ⟨w.heap.size, 1, none⟩ = some (.int .i64 y) := (hP.read 1).trans rfl
  have e0 : w'.cell? ⟨w.heap.size, 0, none⟩ = some (.int .i64 0) := (hW.read 0).trans rfl
  have e1 : w'.cell? ⟨w.heap.size, 1, none⟩ = some (.int .i64 0) := (hW.read 1).trans rfl
  have q0 := hW.free 0
  have q1 := hW.free 1
  have hO2 : Only B w (putR w' w.heap.size x y) := only_putR hO (Nat.le_refl _)
  have HF := Lib.hid (show GaveR rtL B a len cap k w0 w (.returned (.agg #[.int .i64 x, .int .i64 y])) (putR w' w.heap.size x y) from ⟨(x, y), hr, rfl, ⟨gen_putR hg' hlt, HB.out.trans (hO2.below (by omega))⟩, hO2⟩)
  have hn : n ≤ 5 := by omega
  clear hO hO2 ho hg' hW hP HW hg hr HB
  unfold putR at *
  go_wp2
  exact bodyPost_ret (v := .agg #[.int .i64 x, .int .i64 y]) (by simp [results, Try.results14, go_sem, d0, d1]) rfl HF.out
/-- What rate answers: any that fits. -/
def GaveRt (B : Nat) (a : Option Addr) (len cap k : Nat) (w0 w : World) (e : Ending) (w' : World) : Prop :=
  ∃ (r : Rt) (k' : Nat), RtF r ∧ k' ≤ k + 3 ∧ e = .returned (.agg #[.int .i64 r.1, .int .i64 r.2]) ∧ Has B a len cap k' w0 w' ∧ Only B w w'
end Go.Proofs.Ytcnpmbgeafkmlaa

