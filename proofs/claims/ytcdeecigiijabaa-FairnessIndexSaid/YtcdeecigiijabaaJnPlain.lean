/-
  Layer 14, plain: samples' service, gaps and bounds; Jain's index is at most one, and one exactly for equal numbers. No program is named.
-/
import Derived.Test.YtcdeecigiijabaaTgPlain
namespace Go.Proofs.Ytcdeecigiijabaa
set_option linter.unusedVariables false

def smI : List Int → Int
  | [] => 0
  | a :: L => a + smI L
def sqI : List Int → Int
  | [] => 0
  | a :: L => a * a + sqI L
/-- The squares of the differences from a, added up. -/
def dfI (a : Int) : List Int → Int
  | [] => 0
  | b :: L => (a - b) * (a - b) + dfI a L
theorem sq_nonneg (z : Int) : 0 ≤ z * z := by
  rcases Int.le_total 0 z with h | h
  · exact Int.mul_nonneg h h
  · rw [← Int.neg_mul_neg]; exact Int.mul_nonneg (by omega) (by omega)
theorem sq_zero {z : Int} (h : z * z = 0) : z = 0 := by
  rcases Int.mul_eq_zero.1 h with h | h <;> exact h
theorem df_nonneg (a : Int) : ∀ L, 0 ≤ dfI a L
  | [] => Int.le_refl 0
  | b :: L => by have := df_nonneg a L; have := sq_nonneg (a - b); simp only [dfI]; omega
theorem df_zero {a : Int} : ∀ {L : List Int}, dfI a L = 0 → ∀ y ∈ L, y = a
  | [], _, y, hy => by cases hy
  | b :: L, h, y, hy => by
    have h1 := df_nonneg a L
    have h2 := sq_nonneg (a - b)
    simp only [dfI] at h
    rcases List.mem_cons.1 hy with rfl | hy
    · have := sq_zero (show (a - y) * (a - y) = 0 by omega); omega
    · exact df_zero (by omega) y hy
theorem df_same {a : Int} : ∀ {L : List Int}, (∀ y ∈ L, y = a) → dfI a L = 0
  | [], _ => rfl
  | b :: L, h => by
    have hb := h b (List.mem_cons_self ..)
    subst hb
    simp only [dfI, df_same (fun y hy => h y (List.mem_cons_of_mem _ hy))]
    simp
theorem df_eq (a : Int) : ∀ L : List Int, dfI a L = (L.length : Int) * (a * a) - 2 * (a * smI L) + sqI L
  | [] => by simp [dfI, smI, sqI]
  | b :: L => by
    have ih := df_eq a L
    simp only [dfI, smI, sqI, ih, List.length_cons]
    push_cast
    grind
/-- What the index lacks of one. -/
def jnD (L : List Int) : Int := (L.length : Int) * sqI L - smI L * smI L
theorem jn_cons (a : Int) (L : List Int) : jnD (a :: L) = jnD L + dfI a L := by
  rw [df_eq]
  simp only [jnD, smI, sqI, List.length_cons]
  push_cast
  grind
theorem jn_nonneg : ∀ L, 0 ≤ jnD L
  | [] => by simp [jnD, smI, sqI]
  | a :: L => by rw [jn_cons]; have := jn_nonneg L; have := df_nonneg a L; omega
theorem jn_le (L : List Int) : smI L * smI L ≤ (L.length : Int) * sqI L := by have := jn_nonneg L; unfold jnD at this; omega
theorem jn_zero {a : Int} {L : List Int} (h : jnD (a :: L) = 0) : ∀ y ∈ L, y = a := by
  rw [jn_cons] at h
  have h1 := jn_nonneg L
  have h2 := df_nonneg a L
  exact df_zero (by omega)
theorem jn_same {a : Int} : ∀ {L : List Int}, (∀ y ∈ L, y = a) → jnD L = 0
  | [], _ => by simp [jnD, smI, sqI]
  | b :: L, h => by
    have hb := h b (List.mem_cons_self ..)
    subst hb
    have h2 : ∀ y ∈ L, y = b := fun y hy => h y (List.mem_cons_of_mem _ hy)
    rw [jn_cons, jn_same h2, df_same h2]; rfl
/-- One exactly for equal numbers. -/
theorem jn_one {a : Int} {L : List Int} : smI (a :: L) * smI (a :: L) = ((a :: L).length : Int) * sqI (a :: L) ↔ ∀ y ∈ a :: L, y = a := by
  constructor
  · intro h y hy
    have h2 : jnD (a :: L) = 0 := by unfold jnD; omega
    rcases List.mem_cons.1 hy with rfl | hy
    · rfl
    · exact jn_zero h2 y hy
  · intro h
    have := jn_same h
    unfold jnD at this; omega
theorem sm_nonneg : ∀ {L : List Int}, (∀ y ∈ L, 0 ≤ y) → 0 ≤ smI L
  | [], _ => Int.le_refl 0
  | b :: L, h => by
    have := h b (List.mem_cons_self ..)
    have := sm_nonneg (L := L) fun y hy => h y (List.mem_cons_of_mem _ hy)
    simp only [smI]; omega
theorem sm_le {B : Int} : ∀ {L : List Int}, (∀ y ∈ L, y ≤ B) → smI L ≤ L.length * B
  | [], _ => by simp [smI]
  | b :: L, h => by
    have := h b (List.mem_cons_self ..)
    have := sm_le (L := L) fun y hy => h y (List.mem_cons_of_mem _ hy)
    simp only [smI, List.length_cons]
    push_cast
    rw [Int.add_mul]; omega
theorem sq_le {B : Int} : ∀ {L : List Int}, (∀ y ∈ L, y * y ≤ B) → sqI L ≤ L.length * B
  | [], _ => by simp [sqI]
  | b :: L, h => by
    have := h b (List.mem_cons_self ..)
    have := sq_le (L := L) fun y hy => h y (List.mem_cons_of_mem _ hy)
    simp only [sqI, List.length_cons]
    push_cast
    rw [Int.add_mul]; omega
theorem sm_snoc (L : List Int) (a : Int) : smI (L ++ [a]) = smI L + a := by
  induction L with
  | nil => simp [smI]
  | cons b L ih => simp only [List.cons_append, smI, ih]; omega
theorem sq_snoc (L : List Int) (a : Int) : sqI (L ++ [a]) = sqI L + a * a := by
  induction L with
  | nil => simp [sqI]
  | cons b L ih => simp only [List.cons_append, sqI, ih]; omega
/-! ### samples -/
structure Sp where
  w : Int
  b : Int
  m : Int
def spB (s : Sp) : Bool := wtB s.w && (decide (0 ≤ s.b) && decide (s.b ≤ 2147483648)) && (decide (0 ≤ s.m) && decide (s.m ≤ 4096))
theorem sp_yes {s : Sp} (h : spB s = true) : wtB s.w = true ∧ (0 ≤ s.b ∧ s.b ≤ 2147483648) ∧ (0 ≤ s.m ∧ s.m ≤ 4096) := by
  unfold spB at h; simp only [Bool.and_eq_true, decide_eq_true_eq] at h; exact ⟨h.1.1, h.1.2, h.2⟩
theorem sp_of {s : Sp} (h : wtB s.w = true) (h2 : 0 ≤ s.b ∧ s.b ≤ 2147483648) (h3 : 0 ≤ s.m ∧ s.m ≤ 4096) : spB s = true := by
  unfold spB; simp only [Bool.and_eq_true, decide_eq_true_eq]; exact ⟨⟨h, h2⟩, h3⟩
/-- A valid sample's service. -/
def svI (s : Sp) : Int := s.b * unC s.w
theorem sv_bd {s : Sp} (h : spB s = true) : 0 ≤ svI s ∧ svI s ≤ 1547734414786560 := by
  obtain ⟨h1, h2, h3⟩ := sp_yes h
  have := un_bd h1
  exact mul_bd (A := 2147483648) (B := 720720) h2.1 h2.2 (by omega) this.2
def gaI (a b : Sp) : Int := max (svI a - svI b) (svI b - svI a)
theorem ga_sym (a b : Sp) : gaI a b = gaI b a := by unfold gaI; omega
theorem ga_tri (a b c : Sp) : gaI a c ≤ gaI a b + gaI b c := by unfold gaI; omega
theorem ga_nonneg (a b : Sp) : 0 ≤ gaI a b := by unfold gaI; omega
def boI (a b : Sp) : Int := a.m * unC a.w + b.m * unC b.w
theorem bo_bd {a b : Sp} (h : spB a = true) (k : spB b = true) : 0 ≤ boI a b ∧ boI a b ≤ 5904138240 := by
  obtain ⟨h1, _, h3⟩ := sp_yes h
  obtain ⟨k1, _, k3⟩ := sp_yes k
  have hu := un_bd h1
  have ku := un_bd k1
  have := mul_bd (A := 4096) (B := 720720) h3.1 h3.2 (by omega) hu.2
  have := mul_bd (A := 4096) (B := 720720) k3.1 k3.2 (by omega) ku.2
  unfold boI; omega
end Go.Proofs.Ytcdeecigiijabaa

