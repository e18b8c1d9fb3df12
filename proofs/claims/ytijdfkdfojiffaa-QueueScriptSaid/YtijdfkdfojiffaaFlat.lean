/-
  Rows of numbers as lists of cells.
-/
import Derived.Test.YtijdfkdfojiffaaMem
import Derived.Test.YtijdfkdfojiffaaGenI
import Derived.OwnWalk
namespace Go.Proofs.Ytijdfkdfojiffaa
open Go.ChangeShapes Go.WideShapes Go.ChangeAt Go.RowKit
set_option linter.unusedVariables false

theorem cells1 (w : World) (x : Value) (t : TypeId) : ∀ j u, [x][j]? = some u → (w.alloc (.cells #[x] t)).cell? ((⟨w.heap.size, 0, none⟩ : Addr).add j) = some u := by
  intro j u hj
  have h : ((⟨w.heap.size, 0, none⟩ : Addr).add j) = ⟨w.heap.size, j, none⟩ := by unfold Addr.add; split <;> simp_all
  rw [h]
  exact cell_new (by simpa using hj)
theorem one1 {k : IntKind} (x : Int) : ∀ u ∈ [Value.int k x], u.oneCell' = true := by
  intro u hu; simp at hu; rcases hu with rfl; rfl
theorem own_block {w : World} {base : Nat} {e : TypeId} {size : Nat} {v : Value} {n : Nat} {xs : List Value} (h : w.ownsRow base e size v n xs) : ∀ k, v.ownBlock = some k → base ≤ k := by
  intro k hk
  rcases h.2 with ⟨hv, _⟩ | ⟨g, cap, cur, hv, hg, _⟩
  · subst hv; cases hk
  · subst hv; simp [Value.ownBlock] at hk; omega
theorem infoInt : (Try.prog.info? 3).map (fun i => (i.zero, i.size, i.bytes)) = some (some (.int .i64 0), 1, 8) := by kernel_rfl
theorem infoInt64 : (Try.prog.info? 2).map (fun i => (i.zero, i.size, i.bytes)) = some (some (.int .i64 0), 1, 8) := by kernel_rfl
/-- The cells of n numbers. -/
def flatN (X : Nat → Int) : Nat → List Value
  | 0 => []
  | n + 1 => flatN X n ++ [.int .i64 (X n)]
theorem flatN_len (X : Nat → Int) (n : Nat) : (flatN X n).length = n := by
  induction n with
  | zero => rfl
  | succ n ih => simp only [flatN, List.length_append, ih, List.length_cons, List.length_nil]
theorem flatN_congr {X Y : Nat → Int} {n : Nat} (h : ∀ i, i < n → X i = Y i) : flatN X n = flatN Y n := by
  induction n with
  | zero => rfl
  | succ n ih => simp only [flatN]; rw [ih (fun i hi => h i (by omega)), h n (by omega)]
theorem flatN_at (X : Nat → Int) (n j : Nat) (h : j < n) : (flatN X n)[j]? = some (.int .i64 (X j)) := by
  induction n with
  | zero => omega
  | succ n ih =>
    simp only [flatN]
    rcases (by omega : j < n ∨ j = n) with h' | rfl
    · rw [List.getElem?_append_left (by rw [flatN_len]; exact h')]; exact ih h'
    · rw [List.getElem?_append_right (by rw [flatN_len]; omega), flatN_len, Nat.sub_self]; rfl
theorem Nums.of_flat {w : World} {base : Nat} {t : TypeId} {A : Option Addr} {n c : Nat} {X : Nat → Int} (h : w.ownsRow base t 1 (.slice A n c) n (flatN X n)) : Nums w base w.heap.size A n X := by
  intro j hj
  rcases h.2 with ⟨hv, hn⟩ | ⟨g, cap, cur, hv, hg, hh, hn, _, hc, htake⟩
  · omega
  · simp only [Value.slice.injEq] at hv
    obtain ⟨rfl, _, rfl⟩ := hv
    refine ⟨g, 0, rfl, hg, lt_of_block hh, ?_⟩
    rw [cell_of_row w g (0 + j) cur t (0, 0) hh, Nat.zero_add]
    have := flatN_at X n j hj
    rw [← htake, List.getElem?_take, if_pos (by omega)] at this
    simpa using this
end Go.Proofs.Ytijdfkdfojiffaa

