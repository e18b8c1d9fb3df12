/-
  Layer 7, plain: the runes that a range over a string gives; names, patterns and folded forms as lists of runes. No program is named.
-/
import Derived.Test.YtgojbomdkdlclaaLbSmall
namespace Go.Proofs.Ytgojbomdkdlclaa
set_option linter.unusedVariables false

/-- The runes that a range gives, from place i on, at most f of them. -/
def grF (s : ByteArray) : Nat → Nat → List Nat
  | 0, _ => []
  | f + 1, i => if i < s.size then (Utf8.decode s i).1 :: grF s f (i + (Utf8.decode s i).2) else []
def gr (s : ByteArray) : List Nat := grF s s.size 0
theorem grF_end {s : ByteArray} {f i : Nat} (h : ¬ i < s.size) : grF s f i = [] := by
  cases f with
  | zero => rfl
  | succ f => rw [grF, if_neg h]
theorem grF_next {s : ByteArray} {f i : Nat} (h : i < s.size) : grF s (f + 1) i = (Utf8.decode s i).1 :: grF s f (i + (Utf8.decode s i).2) := by rw [grF, if_pos h]
theorem grF_some {s : ByteArray} : ∀ (f i : Nat) (l : List Nat), rsF s f i = some l → grF s f i = l
  | 0, i, l, h => by cases h; rfl
  | f + 1, i, l, h => by
    by_cases hi : i < s.size
    · by_cases hg : Good (Utf8.decode s i)
      · rw [rsF_ok hi hg] at h
        obtain ⟨l', h1, rfl⟩ := Option.map_eq_some_iff.1 h
        rw [grF_next hi, grF_some f _ l' h1]
      · rw [rsF_bad hi hg] at h; cases h
    · rw [rsF_end hi] at h; cases h; exact grF_end hi
theorem grF_none {s : ByteArray} : ∀ (f i : Nat), rsF s f i = none → 65533 ∈ grF s f i
  | 0, i, h => by cases h
  | f + 1, i, h => by
    by_cases hi : i < s.size
    · rw [grF_next hi]
      by_cases hg : Good (Utf8.decode s i)
      · rw [rsF_ok hi hg, Option.map_eq_none_iff] at h
        exact List.mem_cons_of_mem _ (grF_none f _ h)
      · have : Utf8.decode s i = (65533, 1) := Decidable.not_not.1 hg
        rw [this]; exact List.mem_cons_self
    · rw [rsF_end hi] at h; cases h
theorem gr_some {s : ByteArray} {l : List Nat} (h : rs s = some l) : gr s = l := grF_some _ _ _ h
theorem gr_none {s : ByteArray} (h : rs s = none) : 65533 ∈ gr s := grF_none _ _ h
/-- A letter of a pattern. -/
def okN (r : Nat) : Bool := r == 42 || letN r
/-- The pattern's runes, unfolded; none if s is no pattern. -/
def pat (s : ByteArray) : Option (List Nat) := if 1 ≤ s.size ∧ s.size ≤ 24 then (match rs s with | some l => if l.all okN then some l else none | none => none) else none
/-- The name's folded runes; none if s is no name. -/
def nam (s : ByteArray) : Option (List Nat) := if 1 ≤ s.size ∧ s.size ≤ 24 then (match rs s with | some l => if l.all letN then some (l.map foldN) else none | none => none) else none
/-- What the program's isPattern answers. -/
def patB (s : ByteArray) : Bool := decide (1 ≤ s.size ∧ s.size ≤ 24) && (gr s).all okN
theorem pat_iff (s : ByteArray) : patB s = (pat s).isSome := by
  unfold patB pat
  by_cases h : 1 ≤ s.size ∧ s.size ≤ 24
  · rw [if_pos h, decide_eq_true h, Bool.true_and]
    cases hr : rs s with
    | some l =>
      rw [gr_some hr]
      by_cases c : l.all okN = true
      · simp only [c, if_true]; rfl
      · simp only [c]; rfl
    | none =>
      have := gr_none hr
      have c : (gr s).all okN = false := by
        rw [List.all_eq_false]; exact ⟨65533, this, by decide⟩
      rw [c]; rfl
  · rw [if_neg h, decide_eq_false h]; rfl
theorem index_byte (l : List UInt8) (c : UInt8) : decide (0 ≤ Lib.indexByte l c) = l.contains c := by
  induction l with
  | nil => rfl
  | cons b l ih =>
    rw [List.contains_cons]
    unfold Lib.indexByte
    by_cases h : b = c
    · subst h; simp
    · have hge := Lib.indexByte_ge l c
      have h1 : (b == c) = false := by simpa using h
      have h2 : (c == b) = false := by simpa using fun e => h e.symm
      rw [h1, h2, Bool.false_or, ← ih]
      by_cases k : Lib.indexByte l c = -1
      · rw [k]; rfl
      · have k' : (Lib.indexByte l c == -1) = false := by simpa using k
        rw [k']; simp only [Bool.false_eq_true, if_false]
        rw [decide_eq_true (by omega), decide_eq_true (by omega)]
theorem star_in : ∀ (l : List Nat), (∀ r ∈ l, Scal r) → ((42 : UInt8) ∈ encs l ↔ 42 ∈ l)
  | [], _ => by simp [encs]
  | a :: l, h => by
    obtain ⟨b, t, e, _, ht, h42⟩ := enc_shape (h a (by simp))
    rw [encs_cons, e]
    have ih := star_in l (fun r hr => h r (by simp [hr]))
    rcases h42 with ⟨rfl, h1, rfl⟩ | ⟨h1, h2⟩
    · obtain rfl : b = 42 := UInt8.toNat_inj.1 h1
      simp
    · have hn : (42 : UInt8) ∉ b :: t := by
        intro hm
        simp only [List.mem_cons] at hm
        rcases hm with hm | hm
        · rw [← hm] at h2; exact h2 rfl
        · have := ht 42 hm; unfold Cnt at this; have h3 : (42 : UInt8).toNat = 42 := rfl; omega
      rw [List.mem_append, ih]
      constructor
      · intro k
        rcases k with k | k
        · exact absurd k hn
        · exact List.mem_cons_of_mem _ k
      · intro k
        rcases List.mem_cons.1 k with k | k
        · exact absurd k.symm h1
        · exact Or.inr k
theorem pat_some {s : ByteArray} {l : List Nat} (h : pat s = some l) : (1 ≤ s.size ∧ s.size ≤ 24) ∧ rs s = some l ∧ (∀ r ∈ l, okN r = true) ∧ (∀ r ∈ l, Scal r) ∧ s.data.toList = encs l ∧ gr s = l ∧ l.length ≤ 24 := by
  unfold pat at h
  split at h
  · rename_i hs
    split at h
    · rename_i l' hr
      split at h
      · rename_i ha
        cases h
        obtain ⟨h1, h2, h3⟩ := rs_bytes hr
        exact ⟨hs, hr, by simpa using ha, h1, h2, gr_some hr, by omega⟩
      · cases h
    · cases h
  · cases h
theorem nam_some {s : ByteArray} {m : List Nat} (h : nam s = some m) : ∃ l, m = l.map foldN ∧ pat s = some l ∧ (∀ r ∈ l, letN r = true) := by
  unfold nam at h
  split at h
  · rename_i hs
    split at h
    · rename_i l' hr
      split at h
      · rename_i ha
        cases h
        have ha' : ∀ r ∈ l', letN r = true := by simpa using ha
        refine ⟨l', rfl, ?_, ha'⟩
        unfold pat
        rw [if_pos hs, hr]
        have hk : l'.all okN = true := by rw [List.all_eq_true]; intro r hr; unfold okN; rw [ha' r hr]; simp
        show (if l'.all okN then some l' else none) = _
        rw [if_pos hk]
      · cases h
    · cases h
  · cases h
theorem let_star : letN 42 = false := by decide
/-- What the program's Valid answers. -/
theorem valid_iff (s : ByteArray) : (patB s && !decide (0 ≤ Lib.indexByte s.data.toList 42)) = (nam s).isSome := by
  rw [pat_iff, index_byte]
  cases hp : pat s with
  | none =>
    cases hn : nam s with
    | none => rfl
    | some m => obtain ⟨l, _, h, _⟩ := nam_some hn; rw [hp] at h; cases h
  | some l =>
    obtain ⟨h1, h2, h3, h4, h5, h6, _⟩ := pat_some hp
    rw [h5]
    unfold nam
    rw [if_pos h1, h2]
    show (true && _) = (if l.all letN then some (l.map foldN) else none).isSome
    by_cases c : 42 ∈ l
    · have e : (encs l).contains 42 = true := by simpa using (star_in l h4).2 c
      have e2 : l.all letN = false := by rw [List.all_eq_false]; exact ⟨42, c, by simp [let_star]⟩
      rw [e, e2]; rfl
    · have e : (encs l).contains 42 = false := by simpa using fun k => c ((star_in l h4).1 k)
      have e2 : l.all letN = true := by
        rw [List.all_eq_true]; intro r hr
        have := h3 r hr
        unfold okN at this
        rw [Bool.or_eq_true] at this
        rcases this with k | k
        · exact absurd (by simpa using k) (fun e : r = 42 => c (e ▸ hr))
        · exact k
      rw [e, e2]; rfl
/-- Folded runes are runes. -/
theorem scal_fold {r : Nat} (h : Scal r) : Scal (foldN r) := by unfold Scal at *; unfold foldN; split <;> omega
theorem fold_star (r : Nat) : foldN r = 42 ↔ r = 42 := by unfold foldN; split <;> omega
/-- The bytes of the folded form of whatever is ranged over. -/
def fldB (s : ByteArray) : List UInt8 := encs ((gr s).map foldN)
theorem rs_size {s : ByteArray} {l : List Nat} (h : rs s = some l) : l.length ≤ s.size := (rs_bytes h).2.2
end Go.Proofs.Ytgojbomdkdlclaa

