/-
  Layer 12: contract of the reference's Rebase.
-/
import Derived.Test.YtkfhjpgapmfiaaaTgRef2
import Derived.Test.YtkfhjpgapmfiaaaAppR
namespace Go.Proofs.Ytkfhjpgapmfiaaa
open Go.ChangeShapes Go.WideShapes Go.ChangeAt Go.RowKit
set_option linter.unusedVariables false

theorem got_nil (x : Int) {w w' : World} (hb : Below w.heap.size w w') : GotTE [] x w (.returned (.tuple #[.slice none 0 0, .int .i64 x])) w' := ⟨none, 0, rfl, SrAt.nil, hb⟩
theorem map_take {L : List Tg} {b : Int} {k : Nat} (hk : k < L.length) : (L.take (k + 1)).map (subT b) = (L.take k).map (subT b) ++ [subT b L[k]] := by
  rw [List.take_succ_eq_append_getElem hk, List.map_append]; rfl
/-- The values in Rebase's region. -/
def RbV (A' : Option Addr) (c' n c k bb off : Nat) (f wt s b : Int) (γ : Ga) (i : Nat) (v : Value) (_ : World) : Prop :=
  match i with
  | 0 => v = .slice A' k c'
  | 1 => v = .slice (some ⟨bb, off, none⟩) n c
  | 2 => v = .int .i64 (k : Nat)
  | 3 => v = .pointer (some ⟨bb, off + k * 3, none⟩)
  | 4 => v = .pointer (some ⟨bb, off + k * 3, none⟩)
  | 5 => v = .int .i64 f
  | 6 => v = .slice (some ⟨bb, off, none⟩) n c
  | 7 => v = .int .i64 (k : Nat)
  | 8 => v = .pointer (some ⟨bb, off + k * 3, none⟩)
  | 9 => v = .pointer (some ⟨bb, off + k * 3 + 1, none⟩)
  | 10 => v = .int .i64 wt
  | 11 => v = .slice (some ⟨bb, off, none⟩) n c
  | 12 => v = .int .i64 (k : Nat)
  | 13 => v = .pointer (some ⟨bb, off + k * 3, none⟩)
  | 14 => v = .pointer (some ⟨bb, off + k * 3 + 2, none⟩)
  | 15 => v = .int .i64 s
  | 16 => v = .int .i64 b
  | 17 => v = .int .i64 (s - b)
  | 18 => v = .agg #[.int .i64 f, .int .i64 wt, .int .i64 (s - b)]
  | 19 => v = .slice (some ⟨γ.g, 0, none⟩) 1 1
  | 20 => v = .slice γ.A (k + 1) γ.c
  | 21 => v = .slice γ.A (k + 1) γ.c
  | _ => True
theorem RbV.lit {A' : Option Addr} {c' n c k bb off : Nat} {f wt s b : Int} {γ : Ga} {g : Nat} {i : Nat} {v : Value} {w w' : World} (hi : i ≠ 19) (h : RbV A' c' n c k bb off f wt s b γ i v w) : RbV A' c' n c k bb off f wt s b ⟨g, γ.A, γ.c⟩ i v w' := by
  unfold RbV at h ⊢
  split at h <;> first | exact h | exact absurd rfl hi | trivial
theorem RbV.app {A' : Option Addr} {c' n c k bb off : Nat} {f wt s b : Int} {γ : Ga} {A2 : Option Addr} {c2 : Nat} {i : Nat} {v : Value} {w w' : World} (h20 : i ≠ 20) (h21 : i ≠ 21) (h : RbV A' c' n c k bb off f wt s b γ i v w) : RbV A' c' n c k bb off f wt s b ⟨γ.g, A2, c2⟩ i v w' := by
  unfold RbV at h ⊢
  split at h <;> first | exact h | exact absurd rfl h20 | exact absurd rfl h21 | trivial
end Go.Proofs.Ytkfhjpgapmfiaaa

