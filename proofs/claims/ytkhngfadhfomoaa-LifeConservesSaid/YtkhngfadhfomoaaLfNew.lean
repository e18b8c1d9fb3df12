/-
  Layer 18: the reference's empty table; sums of counts. Written by gen_lfwalk2.py.
-/
import Derived.Test.YtkhngfadhfomoaaLfAct
import Derived.Test.YtkhngfadhfomoaaLfRef3
namespace Go.Proofs.Ytkhngfadhfomoaa
open Go.ChangeShapes Go.WideShapes Go.ChangeAt Go.RowKit
set_option linter.unusedVariables false

def lt34 : Array Value := #[.slice none 0 0, .slice none 0 0, .int .i64 0, .int .i64 0, .int .i64 0, .int .i64 0, .int .i64 0, .int .i64 0, .int .i64 0, .int .i64 0, .int .i64 0, .int .i64 0, .int .i64 0, .int .i64 0, .int .i64 0, .int .i64 0, .int .i64 0, .int .i64 0, .int .i64 0, .int .i64 0, .int .i64 0, .int .i64 0, .int .i64 0, .int .i64 0, .int .i64 0, .int .i64 0, .int .i64 0, .int .i64 0, .int .i64 0, .int .i64 0, .int .i64 0, .int .i64 0, .int .i64 0, .int .i64 0]
theorem lt34_at : ∀ i, i < 34 → lt34[i]? = some (ltC LfS.new (.slice none 0 0) (.slice none 0 0) i) := by
  intro i hi
  iterate 34 (rcases i with _ | i; · rfl)
  omega
theorem ltnew {g : Nat} {T : Nat → Prop} {w : World} (h : BoxP g 31 lt34 T w) : LtP g LfS.new T w := by
  obtain ⟨h1, h2⟩ := h
  exact ⟨LfOk.new, fun k hk => by rw [(h1 k).1 hk]; exact h2.size_lt, (h1 g).2 rfl, .slice none 0 0, .slice none 0 0, ⟨lt34, h2, rfl, lt34_at⟩, World.ownsRow_nil _ _ _ _, World.ownsRow_nil _ _ _ _, (fun b hb => by cases hb), fun b hb => by cases hb⟩
theorem lfC_sum (f : Int) : ∀ l : List LfE, (∀ x ∈ l, 1 ≤ x.s ∧ x.s ≤ 4) → lfC l (fun e => e.f == f) = lfC l (fun e => e.f == f && e.s == 1) + lfC l (fun e => e.f == f && e.s == 2) + lfC l (fun e => e.f == f && e.s == 3) + lfC l (fun e => e.f == f && e.s == 4)
  | [], _ => rfl
  | x :: l, h => by
    have ih := lfC_sum f l (fun y hy => h y (by simp [hy]))
    have hx := h x (by simp)
    unfold lfC at ih ⊢
    simp only [List.filter_cons]
    cases hf : (x.f == f)
    · simpa using ih
    · rcases (by omega : x.s = 1 ∨ x.s = 2 ∨ x.s = 3 ∨ x.s = 4) with e | e | e | e <;> simp [e] <;> omega
theorem lfCn_is (s : LfS) (f x : Int) : lfCn s f x = lfC s.l (fun e => e.f == f && e.s == x) := rfl
theorem lfCn_bd (s : LfS) (f x : Int) : 0 ≤ lfCn s f x ∧ lfCn s f x ≤ s.l.length := by
  have := List.length_filter_le (fun e : LfE => e.f == f && e.s == x) s.l
  unfold lfCn; omega
end Go.Proofs.Ytkhngfadhfomoaa

