/-
  The generator's Uint64 (package airsharegen): a word.
-/
import Derived.Test.YtimnndjegfiniaaGen
import Derived.WalkKit
import Derived.WalkSpells
import Derived.ProofKit
import Derived.OpenShut
import Derived.RowKit3
import Derived.Below
import Derived.OneCell
import Derived.RegionTactic
import Derived.ChangeAlike
namespace Go.Proofs.Ytimnndjegfiniaa
open Go.ChangeShapes Go.WideShapes Go.ChangeAt Go.RowKit
set_option linter.unusedVariables false

/-- What Uint64 answers: a word; one more number has been taken. -/
def Drew64 (B : Nat) (a : Option Addr) (len cap k : Nat) (w : World) (e : Ending) (w' : World) : Prop :=
  ∃ x : Int, 0 ≤ x ∧ x ≤ 18446744073709551615 ∧ e = .returned (.int .u64 x) ∧ Gen B a len cap (k + 1) w' ∧ Only B w w'
theorem pick15 {B : Nat} {w w' : World} {cs : Array Value} {t : TypeId} (ho : Only B (w.alloc (.cells cs t)) w') (hB : B < w.heap.size) (n : Nat)
    (h : ∃ x : Int, 0 ≤ x ∧ x ≤ 18446744073709551615 ∧ cs[n]? = some (.int .u64 x)) : ∃ x : Int, 0 ≤ x ∧ x ≤ 18446744073709551615 ∧ w'.cell? ⟨w.heap.size, n, none⟩ = some (.int .u64 x) := by
  obtain ⟨x, x0, x1, hx⟩ := h
  refine ⟨x, x0, x1, ?_⟩
  rw [ho.cell (by simp) (by omega)]
  have e := (MapKept.heap_alloc w (.cells cs t)).1
  simp only [World.cell?, e]
  simpa using hx
theorem words15 (n : Nat) (hn : n ≤ 14) : ∃ x : Int, 0 ≤ x ∧ x ≤ 18446744073709551615 ∧
    (#[Value.int IntKind.u64 0, Value.int IntKind.u64 1, Value.int IntKind.u64 2, Value.int IntKind.u64 3, Value.int IntKind.u64 6, Value.int IntKind.u64 10, Value.int IntKind.u64 2147483648,
      Value.int IntKind.u64 4294967296, Value.int IntKind.u64 4294967295, Value.int IntKind.u64 9223372036854775808, Value.int IntKind.u64 9223372036854775807, Value.int IntKind.u64 18446744073709551615,
      Value.int IntKind.u64 18446744073709551614, Value.int IntKind.u64 4611686018427387904, Value.int IntKind.u64 720720] : Array Value)[n]? = some (.int .u64 x) := by
  have : n = 0 ∨ n = 1 ∨ n = 2 ∨ n = 3 ∨ n = 4 ∨ n = 5 ∨ n = 6 ∨ n = 7 ∨ n = 8 ∨ n = 9 ∨ n = 10 ∨ n = 11 ∨ n = 12 ∨ n = 13 ∨ n = 14 := by omega
  rcases this with rfl | rfl | rfl | rfl | rfl | rfl | rfl | rfl | rfl | rfl | rfl | rfl | rfl | rfl | rfl <;> exact ⟨_, by decide, by decide, rfl⟩
theorem uint64_any (B : Nat) (a : Option Addr) (len cap k : Nat) (w : World) (hg : Gen B a len cap k w) (hk : k ≤ 1000000000) :
    Calls Try.prog 12 #[.pointer (some ⟨B, 0, none⟩)] w (Drew64 B a len cap k w) := by
  go_enter Try.func12, Try.ntmps12
  go_wp2_with fail
  refine (next_any B a len cap k 15 _ (by decide) (by decide) hk (hg.alloc _)).mono ?_
  rintro e w' ⟨r, r0, r1, rfl, hg', ho⟩
  obtain ⟨n, rfl⟩ := Int.eq_ofNat_of_zero_le r0
  obtain ⟨x, x0, x1, hx⟩ := pick15 ho hg.lt n (words15 n (by omega))
  have hO := (Only.alloc B w _).trans ho
  clear ho hg
  have hn : n ≤ 14 := by omega
  go_wp2
  go_ret
  exact ⟨_, x0, x1, rfl, hg', hO⟩

/-- What Uint64 answers: a word; one more number has been taken; no old block but the choices' own has turned. -/
def Gave64 (B : Nat) (a : Option Addr) (len cap k : Nat) (w0 w : World) (e : Ending) (w' : World) : Prop :=
  ∃ x : Int, 0 ≤ x ∧ x ≤ 18446744073709551615 ∧ e = .returned (.int .u64 x) ∧ Has B a len cap (k + 1) w0 w' ∧ Only B w w'
theorem has_uint64 (B : Nat) (a : Option Addr) (len cap k : Nat) (w0 w : World) (h : Has B a len cap k w0 w) (hk : k ≤ 1000000000) :
    Calls Try.prog 12 #[.pointer (some ⟨B, 0, none⟩)] w (Gave64 B a len cap k w0 w) :=
  (uint64_any B a len cap k w h.1 hk).mono fun _ _ ⟨x, x0, x1, he, hg, ho⟩ => ⟨x, x0, x1, he, ⟨hg, h.2.trans (ho.below (by have := h.1.lt; omega))⟩, ho⟩
end Go.Proofs.Ytimnndjegfiniaa

