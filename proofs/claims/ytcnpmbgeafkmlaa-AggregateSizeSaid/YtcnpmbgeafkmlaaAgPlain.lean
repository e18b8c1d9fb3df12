/-
  Layer 20, plain: caps, sizes, permitted aggregates, the greatest one, the greatest time. No program is named.
-/
import Derived.Test.YtcnpmbgeafkmlaaAiPlain
namespace Go.Proofs.Ytcnpmbgeafkmlaa
set_option linter.unusedVariables false

def agV (p b t : Int) : Bool := decide (1 ≤ p ∧ p ≤ 32 ∧ 1 ≤ b ∧ b ≤ 262144 ∧ 1 ≤ t ∧ t ≤ 1048576)
theorem agV_cases {p b t : Int} (h : agV p b t = true) : 1 ≤ p ∧ p ≤ 32 ∧ 1 ≤ b ∧ b ≤ 262144 ∧ 1 ≤ t ∧ t ≤ 1048576 := of_decide_eq_true h
def agX (x : Int) : Bool := decide (1 ≤ x ∧ x ≤ 4096)
def agL (l : List Int) : Bool := l.all agX
theorem agL_at {l : List Int} (h : agL l = true) {i : Nat} (hi : i < l.length) : 1 ≤ l[i] ∧ l[i] ≤ 4096 := of_decide_eq_true ((List.all_eq_true.1 h) _ (List.getElem_mem hi))
theorem agL_take {l : List Int} (h : agL l = true) (k : Nat) : agL (l.take k) = true := List.all_eq_true.2 fun x hx => (List.all_eq_true.1 h) x (List.mem_of_mem_take hx)
theorem agL_all (l : List Int) (n : Nat) (h : ∀ j (hj : j < l.length), 1 ≤ l[j] ∧ l[j] ≤ 4096) : agL l = true := List.all_eq_true.2 fun x hx => by
  obtain ⟨j, hj, rfl⟩ := List.getElem_of_mem hx
  exact decide_eq_true (h j hj)
theorem agL_no {l : List Int} {j : Nat} (hj : j < l.length) (h : ¬ (1 ≤ l[j] ∧ l[j] ≤ 4096)) : agL l = false := by
  cases e : agL l
  · rfl
  · exact absurd (agL_at e hj) h
/-- The sum of the first k. -/
def agS (l : List Int) (k : Nat) : Int := (l.take k).sum
theorem agS_next {l : List Int} {k : Nat} (h : k < l.length) : agS l (k + 1) = agS l k + l[k] := by
  unfold agS; rw [List.take_succ_eq_append_getElem h, List.sum_append]; simp
theorem agS_zero (l : List Int) : agS l 0 = 0 := by simp [agS]
theorem agS_bd {l : List Int} (h : agL l = true) (k : Nat) (hk : k ≤ l.length) : (k : Int) ≤ agS l k ∧ agS l k ≤ 4096 * k := by
  induction k with
  | zero => simp [agS]
  | succ k ih =>
    have h1 := ih (by omega)
    have h2 := agL_at h (i := k) (by omega)
    rw [agS_next (by omega)]; omega
theorem agS_all (l : List Int) : agS l l.length = l.sum := by simp [agS]
def agZ (l : List Int) : Int := 4 * ((l.length : Int) - 1) + l.sum
theorem agZ_take {l : List Int} {k : Nat} (hk : k ≤ l.length) : agZ (l.take k) = 4 * ((k : Int) - 1) + agS l k := by
  unfold agZ agS; rw [List.length_take]; congr 3; omega
def agSE (l : List Int) : Int := if agL l = true ∧ l.length ≤ 32 then (if l.length = 0 then 5 else 0) else 1
def agSV (l : List Int) : Int := if agSE l = 0 then agZ l else 0
theorem agSE_zero {l : List Int} : agSE l = 0 ↔ agL l = true ∧ l.length ≤ 32 ∧ l.length ≠ 0 := by
  unfold agSE
  by_cases h : agL l = true ∧ l.length ≤ 32
  · rw [if_pos h]
    by_cases h0 : l.length = 0
    · rw [if_pos h0]; simp [h0]
    · rw [if_neg h0]; simp [h0, h]
  · rw [if_neg h]
    constructor
    · intro e; cases e
    · intro e; exact absurd ⟨e.1, e.2.1⟩ h
theorem agZ_bd {l : List Int} (h : agSE l = 0) : 1 ≤ agZ l ∧ agZ l ≤ 131196 := by
  obtain ⟨h1, h2, h3⟩ := agSE_zero.1 h
  have h4 := agS_bd h1 l.length (Nat.le_refl _)
  rw [agS_all] at h4
  unfold agZ; omega
/-- Permitted. -/
def agP (l : List Int) (p b t k o : Int) : Bool := decide (agSE l = 0 ∧ agV p b t = true ∧ aiV k o = true ∧ (l.length : Int) ≤ p ∧ agZ l ≤ b ∧ aiZ k o (agZ l) ≤ t)
theorem agP_iff {l : List Int} {p b t k o : Int} : agP l p b t k o = true ↔ agSE l = 0 ∧ agV p b t = true ∧ aiV k o = true ∧ (l.length : Int) ≤ p ∧ agZ l ≤ b ∧ aiZ k o (agZ l) ≤ t := by unfold agP; rw [decide_eq_true_eq]
theorem agP_no {l : List Int} {p b t k o : Int} (h : ¬ (agSE l = 0 ∧ agV p b t = true ∧ aiV k o = true ∧ (l.length : Int) ≤ p ∧ agZ l ≤ b)) : agP l p b t k o = false := by
  unfold agP; rw [decide_eq_false_iff_not]; exact fun e => h ⟨e.1, e.2.1, e.2.2.1, e.2.2.2.1, e.2.2.2.2.1⟩
theorem agP_yes {l : List Int} {p b t k o : Int} (h : agSE l = 0 ∧ agV p b t = true ∧ aiV k o = true ∧ (l.length : Int) ≤ p ∧ agZ l ≤ b) : agP l p b t k o = decide (aiZ k o (agZ l) ≤ t) := by
  unfold agP; rw [decide_eq_decide]
  exact ⟨fun e => e.2.2.2.2.2, fun e => ⟨h.1, h.2.1, h.2.2.1, h.2.2.2.1, h.2.2.2.2, e⟩⟩
/-- A beginning of a permitted aggregate is permitted. -/
theorem agP_pre {l : List Int} {p b t k o : Int} {i j : Nat} (hi : 1 ≤ i) (hij : i ≤ j) (hj : j ≤ l.length) (h : agP (l.take j) p b t k o = true) : agP (l.take i) p b t k o = true := by
  rw [agP_iff] at h ⊢
  obtain ⟨h1, h2, h3, h4, h5, h6⟩ := h
  obtain ⟨g1, g2, g3⟩ := agSE_zero.1 h1
  have e1 : l.take i = (l.take j).take i := by rw [List.take_take]; congr 1; omega
  have lj : (l.take j).length = j := by rw [List.length_take]; omega
  have li : (l.take i).length = i := by rw [List.length_take]; omega
  have hz : agZ (l.take i) ≤ agZ (l.take j) := by
    rw [agZ_take (by omega), agZ_take hj]
    have key : ∀ d : Nat, i + d ≤ j → agS (l.take j) i ≤ agS (l.take j) (i + d) := by
      intro d
      induction d with
      | zero => intro _; exact Int.le_refl _
      | succ d ih =>
        intro hd
        have h7 := ih (by omega)
        have h8 := agL_at g1 (i := i + d) (by omega)
        rw [show i + (d + 1) = (i + d) + 1 by omega, agS_next (by omega)]; omega
    have h9 := key (j - i) (by omega)
    rw [show i + (j - i) = j by omega] at h9
    have ei : agS (l.take j) i = agS l i := by unfold agS; rw [List.take_take]; congr 2; omega
    have ej : agS (l.take j) j = agS l j := by unfold agS; rw [List.take_take]; congr 2; omega
    rw [ei, ej] at h9
    omega
  refine ⟨agSE_zero.2 ⟨?_, by omega, by omega⟩, h2, h3, by omega, by omega, ?_⟩
  · rw [e1]; exact agL_take g1 _
  · have := aiZ_mono (o := o) (aiV_cases h3).1 hz; omega
/-- The greatest permitted beginning of at most m. -/
def agN (l : List Int) (p b t k o : Int) : Nat → Nat
  | 0 => 0
  | m + 1 => if agP (l.take (m + 1)) p b t k o = true then m + 1 else agN l p b t k o m
theorem agN_le (l : List Int) (p b t k o : Int) (m : Nat) : agN l p b t k o m ≤ m := by
  induction m with
  | zero => exact Nat.le_refl _
  | succ m ih => unfold agN; split <;> omega
theorem agN_is (l : List Int) (p b t k o : Int) {m : Nat} (hm : m ≤ l.length) {i : Nat} (hi : 1 ≤ i) (him : i ≤ m) : agP (l.take i) p b t k o = decide (i ≤ agN l p b t k o m) := by
  induction m with
  | zero => omega
  | succ m ih =>
    unfold agN
    cases h : agP (l.take (m + 1)) p b t k o
    · rw [if_neg (by simp)]
      rcases Nat.lt_or_ge i (m + 1) with h1 | h1
      · exact ih (by omega) (by omega)
      · obtain rfl : i = m + 1 := by omega
        have := agN_le l p b t k o m
        rw [h, Eq.comm, decide_eq_false_iff_not]; omega
    · rw [if_pos rfl, agP_pre hi him hm h, decide_eq_true him]
theorem agN_per (l : List Int) (p b t k o : Int) {m : Nat} (h : agN l p b t k o m ≠ 0) : agP (l.take (agN l p b t k o m)) p b t k o = true := by
  induction m with
  | zero => exact absurd rfl h
  | succ m ih =>
    unfold agN at h ⊢
    split
    · assumption
    · rename_i h1
      rw [if_neg h1] at h
      exact ih h
def agBE (l : List Int) (p b t k o : Int) : Int := if agV p b t = true ∧ aiV k o = true ∧ agL l = true ∧ l.length ≤ 128 then (if l.length = 0 then 5 else 0) else 1
def agM (l : List Int) : Nat := min l.length 32
def agBn (l : List Int) (p b t k o : Int) : Int := if agBE l p b t k o = 0 then (agN l p b t k o (agM l) : Nat) else 0
def agBt (l : List Int) (p b t k o : Int) : Int := if agBE l p b t k o = 0 ∧ agN l p b t k o (agM l) ≠ 0 then aiZ k o (agZ (l.take (agN l p b t k o (agM l)))) else 0
theorem agBE_zero {l : List Int} {p b t k o : Int} : agBE l p b t k o = 0 ↔ (agV p b t = true ∧ aiV k o = true ∧ agL l = true ∧ l.length ≤ 128) ∧ l.length ≠ 0 := by
  unfold agBE
  by_cases h : agV p b t = true ∧ aiV k o = true ∧ agL l = true ∧ l.length ≤ 128
  · rw [if_pos h]
    by_cases h0 : l.length = 0
    · rw [if_pos h0]; simp [h0]
    · rw [if_neg h0]; simp [h0, h]
  · rw [if_neg h]
    constructor
    · intro e; cases e
    · intro e; exact absurd e.1 h
/-- The greatest time. -/
def agMn (p b t k o : Int) : Int := min (min (aiFz k o t) b) (p * 4096 + 4 * (p - 1))
def agME (p b t k o : Int) : Int := if agV p b t = true ∧ aiV k o = true then (if t < o then 2 else 0) else 1
def agMV (p b t k o : Int) : Int := if agME p b t k o = 0 then aiZ k o (agMn p b t k o) else 0
theorem agME_zero {p b t k o : Int} : agME p b t k o = 0 ↔ agV p b t = true ∧ aiV k o = true ∧ o ≤ t := by
  unfold agME
  by_cases h : agV p b t = true ∧ aiV k o = true
  · rw [if_pos h]
    by_cases h0 : t < o
    · rw [if_pos h0]
      constructor
      · intro e; cases e
      · intro e; omega
    · rw [if_neg h0]
      exact ⟨fun _ => ⟨h.1, h.2, by omega⟩, fun _ => rfl⟩
  · rw [if_neg h]
    constructor
    · intro e; cases e
    · intro e; exact absurd ⟨e.1, e.2.1⟩ h
theorem agMn_bd {p b t k o : Int} (h : agME p b t k o = 0) : 0 ≤ agMn p b t k o ∧ agMn p b t k o ≤ 262144 := by
  obtain ⟨h1, h2, h3⟩ := agME_zero.1 h
  have h4 := agV_cases h1
  have h5 := aiFz_bd h2 (t := t) (by omega)
  unfold agMn; omega
/-- No permitted aggregate takes longer. -/
theorem agP_most {l : List Int} {p b t k o : Int} (h : agP l p b t k o = true) : agME p b t k o = 0 ∧ aiZ k o (agZ l) ≤ agMV p b t k o ∧ aiZ k o (agZ l) ≤ t := by
  rw [agP_iff] at h
  obtain ⟨h1, h2, h3, h4, h5, h6⟩ := h
  obtain ⟨g1, g2, g3⟩ := agSE_zero.1 h1
  have hz := agZ_bd h1
  have hk := (aiV_cases h3).1
  have ho : o ≤ t := by
    have h7 := aiZ_mono (o := o) hk (show (0 : Int) ≤ agZ l by omega)
    rw [aiZ_zero hk] at h7; omega
  have hE : agME p b t k o = 0 := agME_zero.2 ⟨h2, h3, ho⟩
  refine ⟨hE, ?_, h6⟩
  unfold agMV
  rw [if_pos hE]
  refine aiZ_mono hk ?_
  have h8 := (aiZ_le (b := agZ l) (o := o) (t := t) hk).1 h6
  have h9 := agS_bd g1 l.length (Nat.le_refl _)
  rw [agS_all] at h9
  have hp := agV_cases h2
  have h10 : agZ l ≤ p * 4096 + 4 * (p - 1) := by unfold agZ; omega
  have h11 : agZ l ≤ aiFz k o t := by unfold aiFz; omega
  unfold agMn; omega
end Go.Proofs.Ytcnpmbgeafkmlaa

