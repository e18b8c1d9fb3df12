/-
  A block of n cells, cell i holding f i: for structs that hold arrays. And, plain: a list whose last 32 (M) elements lie in a ring of M cells. No program is named.
-/
import Derived.Test.YtkhngfadhfomoaaWhl
namespace Go.Proofs.Ytkhngfadhfomoaa
open Go.ChangeShapes Go.WideShapes Go.ChangeAt Go.RowKit
set_option linter.unusedVariables false

def Blk (w : World) (g : Nat) (t : TypeId) (n : Nat) (f : Nat → Value) : Prop := ∃ cs, Whole w g t cs ∧ cs.size = n ∧ ∀ i, i < n → cs[i]? = some (f i)
def updV (f : Nat → Value) (k : Nat) (v : Value) : Nat → Value := fun i => if i = k then v else f i
theorem updV_at (f : Nat → Value) (k : Nat) (v : Value) : updV f k v k = v := if_pos rfl
theorem updV_ne {f : Nat → Value} {k i : Nat} {v : Value} (h : i ≠ k) : updV f k v i = f i := if_neg h
section
variable {w w' : World} {g n : Nat} {t : TypeId} {f f' : Nat → Value}
theorem Blk.lt (h : Blk w g t n f) : g < w.heap.size := by obtain ⟨cs, h1, _⟩ := h; exact h1.size_lt
theorem Blk.cell (h : Blk w g t n f) {i : Nat} (hi : i < n) : w.cell? ⟨g, i, none⟩ = some (f i) := by obtain ⟨cs, h1, _, h3⟩ := h; rw [h1.read, h3 i hi]
theorem Blk.free (h : Blk w g t n f) (i : Nat) : w.frozen? ⟨g, i, none⟩ = false := by obtain ⟨cs, h1, _⟩ := h; exact h1.free i
theorem Blk.carry (h : Blk w g t n f) (e : w'.heap[g]? = w.heap[g]?) : Blk w' g t n f := by obtain ⟨cs, h1, r⟩ := h; exact ⟨cs, h1.carry e, r⟩
theorem Blk.later (h : Blk w g t n f) (hb : Below w.heap.size w w') : Blk w' g t n f := h.carry (hb.block _ h.lt)
theorem Blk.same (h : Blk w g t n f) (he : ∀ i, i < n → f i = f' i) : Blk w g t n f' := by obtain ⟨cs, h1, h2, h3⟩ := h; exact ⟨cs, h1, h2, fun i hi => by rw [h3 i hi, he i hi]⟩
theorem Blk.set_ (h : Blk w g t n f) {i : Nat} (hi : i < n) (v : Value) : Blk (w.setCell ⟨g, i, none⟩ v) g t n (updV f i v) := by
  obtain ⟨cs, h1, h2, h3⟩ := h
  refine ⟨_, h1.put i v, by simpa using h2, fun k hk => ?_⟩
  by_cases e : k = i
  · subst e; rw [updV_at, Array.getElem?_setIfInBounds, if_pos rfl, if_pos (by omega)]
  · rw [updV_ne e, Array.getElem?_setIfInBounds, if_neg (by omega)]; exact h3 k hk
theorem Blk.of_whole {cs : Array Value} (h : Whole w g t cs) : Blk w g t cs.size (fun i => cs.getD i undef) := ⟨cs, h, rfl, fun i hi => by simp [Array.getD, hi]⟩
end
/-! ### a ring of M cells -/
section
universe u
variable {α : Type u} {M : Nat} {X : Nat → α} {l : List α}
/-- The last M elements of l lie in a ring: element j in cell j % M. -/
def RgB (M : Nat) (X : Nat → α) (l : List α) : Prop := ∀ j (hj : j < l.length), l.length ≤ j + M → X (j % M) = l[j]
theorem RgB.nil (M : Nat) (X : Nat → α) : RgB M X [] := fun j hj => absurd hj (by simp)
theorem mod_near {M a b : Nat} (h0 : 0 < M) (h1 : a < b) (h2 : b < a + M) : a % M ≠ b % M := by
  intro e
  have h3 := Nat.div_add_mod a M
  have h4 := Nat.div_add_mod b M
  have h5 : M * (b / M) - M * (a / M) = b - a := by omega
  rw [← Nat.mul_sub] at h5
  rcases Nat.eq_zero_or_pos (b / M - a / M) with h6 | h6
  · rw [h6] at h5; omega
  · have := Nat.le_mul_of_pos_right M h6; omega
theorem RgB.push (h : RgB M X l) (h0 : 0 < M) (x : α) : RgB M (fun i => if i = l.length % M then x else X i) (l ++ [x]) := by
  intro j hj hM
  simp only [List.length_append, List.length_singleton] at hj hM
  by_cases e : j = l.length
  · subst e
    simp
  · have hjl : j < l.length := by omega
    have hne := mod_near h0 hjl (by omega)
    simp only [if_neg hne]
    rw [h j hjl (by omega), List.getElem_append_left hjl]
theorem RgB.at_ (h : RgB M X l) {i : Nat} (hi : 1 ≤ i) (h1 : i ≤ l.length) (h2 : i ≤ M) : X ((l.length - i) % M) = l[l.length - i]'(by omega) := h _ (by omega) (by omega)
/-- The place i before the next one. -/
theorem ring_back {M n i : Nat} (h0 : 0 < M) (h1 : i ≤ n) (h2 : i ≤ M) : (n % M + M - i) % M = (n - i) % M := by
  have h3 := Nat.div_add_mod n M
  have h4 := Nat.mod_lt n h0
  by_cases h5 : i ≤ n % M
  · rw [show n % M + M - i = n % M - i + M by omega, Nat.add_mod_right, show n - i = M * (n / M) + (n % M - i) by omega, Nat.mul_add_mod]
  · rcases Nat.eq_zero_or_pos (n / M) with h6 | h6
    · rw [h6] at h3; omega
    · have h7 : M * (n / M) = M * (n / M - 1) + M := by
        obtain ⟨q, hq⟩ : ∃ q, n / M = q + 1 := ⟨n / M - 1, by omega⟩
        rw [hq, Nat.add_sub_cancel, Nat.mul_add, Nat.mul_one]
      rw [show n - i = M * (n / M - 1) + (n % M + M - i) by omega, Nat.mul_add_mod]
theorem ring_next {M n : Nat} (h0 : 0 < M) : (n % M + 1) % M = (n + 1) % M := by rw [Nat.mod_add_mod]
end
end Go.Proofs.Ytkhngfadhfomoaa

