/-
  The generator's Int64 (package airsharegen): a number of 64 bits.
-/
import Derived.Test.YtlnbjmmbjhglnaaGen
import Derived.WalkKit
import Derived.WalkSpells
import Derived.ProofKit
import Derived.OpenShut
import Derived.RowKit3
import Derived.Below
import Derived.OneCell
import Derived.RegionTactic
import Derived.Deep.RegionWith
import Derived.ChangeAlike
import Derived.Lib.Hide
namespace Go.Proofs.Ytlnbjmmbjhglnaa
open Go.ChangeShapes Go.WideShapes Go.ChangeAt Go.RowKit
set_option linter.unusedVariables false

/-- What Int64 answers: a number; three more have been taken. -/
def DrewI (B : Nat) (a : Option Addr) (len cap k : Nat) (w : World) (e : Ending) (w' : World) : Prop :=
  ∃ x : Int, -9223372036854775808 ≤ x ∧ x ≤ 9223372036854775807 ∧ e = .returned (.int .i64 x) ∧ Gen B a len cap (k + 3) w' ∧ Only B w w'
/-- The cells of the drawing list, and what a call that writes the choices alone leaves of them. -/
theorem Only.keep {B : Nat} {w w' : World} (h : Only B w w') {b o : Nat} {v : Value} (hn : b ≠ B) (hv : w.cell? ⟨b, o, none⟩ = some v) : w'.cell? ⟨b, o, none⟩ = some v := by
  rw [h.cell (lt_of_cell hv) hn]; exact hv
def inKind (k : IntKind) (lo hi : Int) (v : Value) : Bool := match v with | .int k' x => decide (k' = k ∧ lo ≤ x ∧ x ≤ hi) | _ => false
theorem pick_int {k : IntKind} {lo hi : Int} {cs : Array Value} (h : cs.toList.all (inKind k lo hi) = true) {n : Nat} (hn : n < cs.size) : ∃ x : Int, lo ≤ x ∧ x ≤ hi ∧ cs[n]? = some (.int k x) := by
  rw [List.all_eq_true] at h
  have hv := h cs[n] (by simp)
  rw [Array.getElem?_eq_getElem hn]
  unfold inKind at hv
  split at hv
  · rename_i k' x e
    simp at hv
    obtain ⟨rfl, h1, h2⟩ := hv
    exact ⟨x, h1, h2, by rw [e]⟩
  · simp at hv
theorem cell_new {w : World} {cs : Array Value} {t : TypeId} {n : Nat} {v : Value} (h : cs[n]? = some v) : (w.alloc (.cells cs t)).cell? ⟨w.heap.size, n, none⟩ = some v := by
  have e := (MapKept.heap_alloc w (.cells cs t)).1
  simp only [World.cell?, e]
  simpa using h
/-- The list that Int64 draws from. -/
def list19 : Array Value := #[Value.int IntKind.i64 0, Value.int IntKind.i64 1, Value.int IntKind.i64 (-1), Value.int IntKind.i64 2, Value.int IntKind.i64 3, Value.int IntKind.i64 7, Value.int IntKind.i64 (-7), Value.int IntKind.i64 10,
      Value.int IntKind.i64 2147483648, Value.int IntKind.i64 (-2147483648), Value.int IntKind.i64 2147483649, Value.int IntKind.i64 4611686018427387904, Value.int IntKind.i64 (-4611686018427387904),
      Value.int IntKind.i64 9223372036854775807, Value.int IntKind.i64 (-9223372036854775808), Value.int IntKind.i64 (-9223372036854775807), Value.int IntKind.i64 4294967295, Value.int IntKind.i64 3458764513820540928, Value.int IntKind.i64 720720]
theorem words19 (w : World) (n : Nat) (hn : n ≤ 18) : ∃ x : Int, -9223372036854775808 ≤ x ∧ x ≤ 9223372036854775807 ∧ (w.alloc (.cells list19 2)).cell? ⟨w.heap.size, n, none⟩ = some (.int .i64 x) := by
  obtain ⟨x, h0, h1, h2⟩ := pick_int (k := .i64) (lo := -9223372036854775808) (hi := 9223372036854775807) (cs := list19) (by decide) (n := n) (by show n < 19; omega)
  exact ⟨x, h0, h1, cell_new h2⟩
theorem wrap_bd (x : Int) : -9223372036854775808 ≤ IntKind.i64.wrap x ∧ IntKind.i64.wrap x ≤ 9223372036854775807 := by rw [IntKind.wrap_i64]; omega
set_option maxHeartbeats 2000000 in
theorem int64_any (B : Nat) (a : Option Addr) (len cap k : Nat) (w : World) (hg : Gen B a len cap k w) (hk : k ≤ 900000000) :
    Calls Try.prog 19 #[.pointer (some ⟨B, 0, none⟩)] w (DrewI B a len cap k w) := by
  have hW := words19 w
  have d1 : (1 : Int) ≤ 19 := by decide
  have d2 : (19 : Int) ≤ 1000000000 := by decide
  have d3 : (1 : Int) ≤ 3 := by decide
  have d4 : (3 : Int) ≤ 1000000000 := by decide
  have d5 : (1 : Int) ≤ 2 := by decide
  have d6 : (2 : Int) ≤ 1000000000 := by decide
  have hk0 : k ≤ 1000000000 := by omega
  have hk1 : k + 1 ≤ 1000000000 := by omega
  have hk2 : k + 2 ≤ 1000000000 := by omega
  have hne : w.heap.size ≠ B := by have := hg.lt; omega
  go_enter Try.func19, Try.ntmps19
  go_wp2_with fail
  have hO := Only.alloc B w (.cells list19 2)
  have hg0 := hg.alloc (.cells list19 2)
  unfold list19 at hO hg0 hW
  generalize w.alloc _ = W at *
  have HW := Lib.hid hW
  clear hg hW
  have hg1 := hg0.drew
  have hO1 := hO.drew
  clear hg0 hO
  go_region_with (first
    | (go_at_call 8; (with_reducible refine (next_any B a len cap k 19 _ d1 d2 hk0 (by assumption)).mono ?_); rintro e w1 ⟨r, r0, r1, rfl, hg2, ho2⟩; obtain ⟨n, rfl⟩ := Int.eq_ofNat_of_zero_le r0; have hn : n ≤ 18 := (by omega); obtain ⟨x, x0, x1, hx0⟩ := HW.out n hn; have hx := ho2.keep hne (show W.drew.cell? _ = _ from hx0); clear hx0)
    | (go_at_call 8; (with_reducible refine (next_any B a len cap (k + 1) 3 _ d3 d4 hk1 (by assumption)).mono ?_); rintro e w2 ⟨s, s0, s1, rfl, hg3, ho3⟩; have hx2 := ho3.keep hne hx)
    | (go_at_call 8; (with_reducible refine (next_any B a len cap (k + 2) 2 _ d5 d6 hk2 (by assumption)).mono ?_); rintro e w3 ⟨t, t0, t1, rfl, hg4, ho4⟩; have hx3 := ho4.keep hne hx2))
  all_goals (go_wp2; go_ret; refine ⟨_, ?_, ?_, rfl, hg4, ((hO1.trans ho2).trans ho3).trans ho4⟩)
  all_goals (have hr := wrap_bd (x + IntKind.i64.wrap (s * t)); first | exact hr.1 | exact hr.2)
/-- What Int64 answers, said of choices that a caller keeps. -/
def GaveI (B : Nat) (a : Option Addr) (len cap k : Nat) (w0 w : World) (e : Ending) (w' : World) : Prop :=
  ∃ x : Int, -9223372036854775808 ≤ x ∧ x ≤ 9223372036854775807 ∧ e = .returned (.int .i64 x) ∧ Has B a len cap (k + 3) w0 w' ∧ Only B w w'
theorem has_int64 (B : Nat) (a : Option Addr) (len cap k : Nat) (w0 w : World) (h : Has B a len cap k w0 w) (hk : k ≤ 900000000) :
    Calls Try.prog 19 #[.pointer (some ⟨B, 0, none⟩)] w (GaveI B a len cap k w0 w) :=
  (int64_any B a len cap k w h.1 hk).mono fun _ _ ⟨x, x0, x1, he, hg, ho⟩ => ⟨x, x0, x1, he, ⟨hg, h.2.trans (ho.below (by have := h.1.lt; omega))⟩, ho⟩
end Go.Proofs.Ytlnbjmmbjhglnaa

