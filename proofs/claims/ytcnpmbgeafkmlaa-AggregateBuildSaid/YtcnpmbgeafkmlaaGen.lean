/-
  The generator of the statements' inputs (package airsharegen): contracts of New and Next(n), 1 <= n. No condition but that at most 10^9 numbers have been taken.
-/
import Derived.Test.YtcnpmbgeafkmlaaRows
import Derived.WalkKit
import Derived.WalkSpells
import Derived.ProofKit
import Derived.OpenShut
import Derived.RowKit3
import Derived.Below
import Derived.OneCell
import Derived.RegionTactic
import Derived.ChangeAlike
namespace Go.Proofs.Ytcnpmbgeafkmlaa
open Go.ChangeShapes Go.WideShapes Go.ChangeAt Go.RowKit
set_option linter.unusedVariables false

/-- The elements of the choices, as memory holds them. -/
def Elems (B : Nat) (a : Option Addr) (len : Nat) (w : World) : Prop :=
  len ≤ 9223372036854775807 ∧ ∀ i, i < len → ∃ b off z, a = some ⟨b, off, none⟩ ∧ b < B ∧ w.cell? ⟨b, off + i, none⟩ = some (.int .i64 z) ∧ -9223372036854775808 ≤ z ∧ z ≤ 9223372036854775807
/-- Block B holds choices of which k have been taken. -/
def Gen (B : Nat) (a : Option Addr) (len cap k : Nat) (w : World) : Prop :=
  w.heap[B]? = some (.cells #[.slice a len cap, .int .i64 k] 47 (0, 0)) ∧ Elems B a len w

theorem Elems.kept {B : Nat} {a : Option Addr} {len : Nat} {w w' : World} (h : Elems B a len w) (hb : Below B w w') : Elems B a len w' := by
  refine ⟨h.1, fun i hi => ?_⟩
  obtain ⟨b, off, z, e1, e2, e3, e4, e5⟩ := h.2 i hi
  exact ⟨b, off, z, e1, e2, by rw [hb.cell (p := ⟨b, off + i, none⟩) e2]; exact e3, e4, e5⟩
theorem lt_of_cell {w : World} {b o : Nat} {v : Value} (h : w.cell? ⟨b, o, none⟩ = some v) : b < w.heap.size := by
  rcases Nat.lt_or_ge b w.heap.size with h' | h'
  · exact h'
  · simp [World.cell?, Array.getElem?_eq_none h'] at h
/-- A slice of integers that came in has elements in old memory. -/
theorem elems_row {w : World} {a : Option Addr} {len cap : Nat} {zs : List Int}
    (h : (a = none ∧ len = 0 ∧ cap = 0 ∧ zs = []) ∨ ∃ x, a = some x ∧ len ≤ cap ∧ cap ≤ maxLen ∧ zs.length = cap ∧ (∀ i, i < zs.length → w.cell? (x.add i) = some (.int .i64 (zs.getD i 0))) ∧ ∀ n ∈ zs, (Lit.int .i64 n).wf = true) :
    Elems w.heap.size a len w := by
  rcases h with ⟨rfl, rfl, _, _⟩ | ⟨x, rfl, hl, hm, hz, hc, hw⟩
  · exact ⟨by omega, fun i hi => by omega⟩
  · unfold maxLen at hm
    refine ⟨by omega, fun i hi => ?_⟩
    obtain ⟨b, off, rfl, hcell⟩ := ints_at hc (by omega)
    have h1 := hcell i (by omega)
    have h2 : zs.getD i 0 ∈ zs := by rw [List.getD_eq_getElem?_getD, List.getElem?_eq_getElem (by omega)]; exact List.getElem_mem _
    obtain ⟨h3, h4⟩ := bounds_i64 (hw _ h2)
    exact ⟨b, off, _, rfl, lt_of_cell h1, h1, h3, h4⟩
theorem Gen.lt {B : Nat} {a : Option Addr} {len cap k : Nat} {w : World} (h : Gen B a len cap k w) : B < w.heap.size := lt_of_block h.1
/-- What lies above block B does not matter. -/
theorem Gen.kept {B : Nat} {a : Option Addr} {len cap k : Nat} {w w' : World} (h : Gen B a len cap k w) (hb : Below (B + 1) w w') : Gen B a len cap k w' :=
  ⟨by rw [hb.block B (by omega)]; exact h.1, h.2.kept (hb.mono (by omega))⟩
theorem Gen.alloc {B : Nat} {a : Option Addr} {len cap k : Nat} {w : World} (h : Gen B a len cap k w) (o : Obj) : Gen B a len cap k (w.alloc o) :=
  h.kept ((Below.refl _ _).alloc (by have := h.lt; omega) o)
theorem Gen.drew {B : Nat} {a : Option Addr} {len cap k : Nat} {w : World} (h : Gen B a len cap k w) : Gen B a len cap k w.drew :=
  h.kept ((Below.refl _ _).drew)

theorem new_any (a : Option Addr) (len cap : Nat) (w : World) :
    Calls Try.prog 7 #[.slice a len cap] w fun e w' => e = .returned (.pointer (some ⟨w.heap.size, 0, none⟩)) ∧ w' = w.alloc (.cells #[.slice a len cap, .int .i64 0] 47) := by
  go_enter Try.func7, Try.ntmps7
  go_wp2
  go_ret
  exact ⟨rfl, rfl⟩

theorem gen_new (a : Option Addr) (len cap : Nat) (w : World) (h : Elems w.heap.size a len w) :
    Gen w.heap.size a len cap 0 (w.alloc (.cells #[.slice a len cap, .int .i64 0] 47)) :=
  ⟨(MapKept.heap_alloc w _).1, h.kept ((Below.refl _ _).alloc (Nat.le_refl _) _)⟩

theorem set_at {w : World} {B : Nat} {v : Value} {u x : Value} {t : TypeId} (h : w.heap[B]? = some (.cells #[v, u] t (0, 0))) : (w.setCell ⟨B, 1, none⟩ x).heap[B]? = some (.cells #[v, x] t (0, 0)) := by
  have hlt := lt_of_block h
  have h' : w.heap[B] = .cells #[v, u] t (0, 0) := by simpa [Array.getElem?_eq_getElem hlt] using h
  show (w.heap.modify B _)[B]? = _
  rw [Array.getElem?_eq_getElem (by simpa using hlt), Array.getElem_modify_self, h']
  rfl
theorem Gen.cells {B : Nat} {a : Option Addr} {len cap k : Nat} {w : World} (h : Gen B a len cap k w) :
    w.cell? ⟨B, 0, none⟩ = some (.slice a len cap) ∧ w.cell? ⟨B, 1, none⟩ = some (.int .i64 k) ∧ w.frozen? ⟨B, 1, none⟩ = false := by
  have := h.1
  exact ⟨by simp [World.cell?, this], by simp [World.cell?, this], by simp [World.frozen?, this]⟩
theorem Gen.next {B : Nat} {a : Option Addr} {len cap k : Nat} {w : World} (h : Gen B a len cap k w) : Gen B a len cap (k + 1) (w.setCell ⟨B, 1, none⟩ (.int .i64 ((k : Int) + 1))) :=
  ⟨by rw [set_at h.1]; norm_cast, h.2.kept ((Below.refl B w).setCell (p := ⟨B, 1, none⟩) (Nat.le_refl B) _)⟩

/-- No old block but B has turned. -/
structure Only (B : Nat) (w w' : World) : Prop where
  os : w'.os = w.os
  tape : w'.tape = w.tape
  output : w'.output = w.output
  size : w.heap.size ≤ w'.heap.size
  block : ∀ k, k < w.heap.size → k ≠ B → w'.heap[k]? = w.heap[k]?
theorem Only.refl (B : Nat) (w : World) : Only B w w := ⟨rfl, rfl, rfl, Nat.le_refl _, fun _ _ _ => rfl⟩
theorem Only.trans {B : Nat} {a b c : World} (h : Only B a b) (k : Only B b c) : Only B a c :=
  ⟨k.os.trans h.os, k.tape.trans h.tape, k.output.trans h.output, Nat.le_trans h.size k.size, fun i hi hn => (k.block i (by have := h.size; omega) hn).trans (h.block i hi hn)⟩
theorem Only.drew {B : Nat} {w w' : World} (h : Only B w w') : Only B w w'.drew := ⟨h.os, h.tape, h.output, h.size, h.block⟩
theorem Only.setCell (B : Nat) (w : World) (o : Nat) (u : Value) : Only B w (w.setCell ⟨B, o, none⟩ u) :=
  ⟨rfl, rfl, rfl, by simp [World.setCell], fun k _ hn => Below.heap_setCell _ _ _ _ hn⟩
theorem Only.alloc (B : Nat) (w : World) (o : Obj) : Only B w (w.alloc o) := ⟨rfl, rfl, rfl, by simp, fun k hk _ => Below.heap_alloc _ _ _ hk⟩
theorem Only.below {B : Nat} {w w' : World} (h : Only B w w') (hB : B ≤ w.heap.size) : Below B w w' := ⟨h.os, h.tape, h.output, h.size, fun k hk => h.block k (by omega) (by omega)⟩
theorem Only.cell {B : Nat} {w w' : World} (h : Only B w w') {b o : Nat} (hb : b < w.heap.size) (hn : b ≠ B) : w'.cell? ⟨b, o, none⟩ = w.cell? ⟨b, o, none⟩ := World.cell?_of_block (w := w) (h.block b hb hn)
/-- What Next(n) answers: a number from 0 to n - 1; one more number has been taken. -/
def Took (B : Nat) (a : Option Addr) (len cap k : Nat) (n : Int) (w : World) (e : Ending) (w' : World) : Prop :=
  ∃ r : Int, 0 ≤ r ∧ r < n ∧ e = .returned (.int .i64 r) ∧ Gen B a len cap (k + 1) w' ∧ Only B w w'
theorem next_lo (B : Nat) (b off len cap k : Nat) (z n : Int) (w : World) (n0 : 1 ≤ n) (n1 : n ≤ 1000000000) (hlt : k < len) (hlen : len ≤ 9223372036854775807) (hk : k ≤ 1000000000) (z0 : -9223372036854775808 ≤ z) (z1 : z ≤ 9223372036854775807)
    (hz : w.cell? ⟨b, off + k, none⟩ = some (.int .i64 z)) (hg : Gen B (some ⟨b, off, none⟩) len cap k w) :
    Calls Try.prog 15 #[.pointer (some ⟨B, 0, none⟩), .int .i64 n] w (Took B (some ⟨b, off, none⟩) len cap k n w) := by
  have hn := hg.next
  have hB : Only B w (w.setCell ⟨B, 1, none⟩ (.int .i64 ((k : Int) + 1))) := Only.setCell B w 1 _
  obtain ⟨c0, c1, f1⟩ := hg.cells
  clear hg
  have hne : ¬ n = 0 := by omega
  have h1 : ¬ n < 1 := by omega
  have r0 : -n < z.tmod n := by have := Int.lt_tmod_of_pos z (show (0 : Int) < n by omega); omega
  have r1 : z.tmod n < n := Int.tmod_lt_of_pos z (by omega)
  by_cases hr : z.tmod n < 0
  · go_enter Try.func15, Try.ntmps15
    go_wp2
    go_region
    go_wp2
    go_region
    go_wp2
    go_ret
    exact ⟨_, by omega, by omega, rfl, hn.drew.drew, hB.drew.drew⟩
  · go_enter Try.func15, Try.ntmps15
    go_wp2
    go_region
    go_wp2
    go_region
    go_wp2
    go_ret
    exact ⟨_, by omega, by omega, rfl, hn.drew.drew, hB.drew.drew⟩
theorem next_hi (B : Nat) (a : Option Addr) (len cap k : Nat) (n : Int) (w : World) (n0 : 1 ≤ n) (n1 : n ≤ 1000000000) (hge : ¬ k < len) (hk : k ≤ 1000000000) (hg : Gen B a len cap k w) :
    Calls Try.prog 15 #[.pointer (some ⟨B, 0, none⟩), .int .i64 n] w (Took B a len cap k n w) := by
  have hn := hg.next
  have hB : Only B w (w.setCell ⟨B, 1, none⟩ (.int .i64 ((k : Int) + 1))) := Only.setCell B w 1 _
  obtain ⟨c0, c1, f1⟩ := hg.cells
  clear hg
  have hne : ¬ n = 0 := by omega
  have h1 : ¬ n < 1 := by omega
  have r0 := Int.emod_nonneg (7 * (k : Int) + 3) hne
  have r1 := Int.emod_lt_of_pos (7 * (k : Int) + 3) (show (0 : Int) < n by omega)
  go_enter Try.func15, Try.ntmps15
  go_wp2
  go_region
  go_wp2
  go_ret
  exact ⟨_, by omega, by omega, rfl, hn.drew, hB.drew⟩
theorem next_any (B : Nat) (a : Option Addr) (len cap k : Nat) (n : Int) (w : World) (n0 : 1 ≤ n) (n1 : n ≤ 1000000000) (hk : k ≤ 1000000000) (hg : Gen B a len cap k w) :
    Calls Try.prog 15 #[.pointer (some ⟨B, 0, none⟩), .int .i64 n] w (Took B a len cap k n w) := by
  by_cases h : k < len
  · obtain ⟨b, off, z, rfl, _, hz, z0, z1⟩ := hg.2.2 k h
    exact next_lo B b off len cap k z n w n0 n1 h hg.2.1 hk z0 z1 hz hg
  · exact next_hi B a len cap k n w n0 n1 h hk hg

/-- The choices in block B, of which k have been taken; and nothing below B has turned since w0. -/
def Has (B : Nat) (a : Option Addr) (len cap k : Nat) (w0 w : World) : Prop := Gen B a len cap k w ∧ Below B w0 w
theorem Has.alloc {B : Nat} {a : Option Addr} {len cap k : Nat} {w0 w : World} (h : Has B a len cap k w0 w) (o : Obj) : Has B a len cap k w0 (w.alloc o) :=
  ⟨h.1.alloc o, h.2.alloc (by have := h.1.lt; omega) o⟩
theorem Has.drew {B : Nat} {a : Option Addr} {len cap k : Nat} {w0 w : World} (h : Has B a len cap k w0 w) : Has B a len cap k w0 w.drew := ⟨h.1.drew, h.2.drew⟩
theorem Has.at {B : Nat} {a : Option Addr} {len cap k k' : Nat} {w0 w : World} (h : Has B a len cap k w0 w) (e : k = k') : Has B a len cap k' w0 w := e ▸ h
theorem Has.new {a : Option Addr} {len cap : Nat} {w : World} (he : Elems w.heap.size a len w) :
    Has w.heap.size a len cap 0 w (w.alloc (.cells #[.slice a len cap, .int .i64 0] 47)) :=
  ⟨gen_new a len cap w he, (Below.refl _ _).alloc (Nat.le_refl _) _⟩
theorem Has.below {B : Nat} {a : Option Addr} {len cap k : Nat} {w0 w w' : World} (h : Has B a len cap k w0 w) (hb : Below w.heap.size w w') : Has B a len cap k w0 w' :=
  ⟨h.1.kept (hb.mono (by have := h.1.lt; omega)), h.2.trans (hb.mono (by have := h.1.lt; omega))⟩
/-- A cell that is there stays, behind a call that only makes memory. -/
theorem cell_later {w w' : World} {b o : Nat} {v : Value} (h : w.cell? ⟨b, o, none⟩ = some v) (hb : Below w.heap.size w w') : w'.cell? ⟨b, o, none⟩ = some v := by
  rw [hb.cell (p := ⟨b, o, none⟩) (lt_of_cell h)]; exact h
/-- What Next(n) answers, said of choices that a caller keeps; no old block but the choices' own has turned. -/
def Gave (B : Nat) (a : Option Addr) (len cap k : Nat) (n : Int) (w0 w : World) (e : Ending) (w' : World) : Prop :=
  ∃ r : Int, 0 ≤ r ∧ r < n ∧ e = .returned (.int .i64 r) ∧ Has B a len cap (k + 1) w0 w' ∧ Only B w w'
theorem has_next (B : Nat) (a : Option Addr) (len cap k : Nat) (n : Int) (w0 w : World) (h : Has B a len cap k w0 w) (n0 : 1 ≤ n) (n1 : n ≤ 1000000000) (hk : k ≤ 1000000000) :
    Calls Try.prog 15 #[.pointer (some ⟨B, 0, none⟩), .int .i64 n] w (Gave B a len cap k n w0 w) :=
  (next_any B a len cap k n w n0 n1 hk h.1).mono fun _ _ ⟨x, x0, x1, he, hg, ho⟩ => ⟨x, x0, x1, he, ⟨hg, h.2.trans (ho.below (by have := h.1.lt; omega))⟩, ho⟩
end Go.Proofs.Ytcnpmbgeafkmlaa

