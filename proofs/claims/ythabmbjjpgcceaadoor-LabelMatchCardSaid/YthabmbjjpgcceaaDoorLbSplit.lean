/-
  Layer 7, plain: a pattern's parts, as strings.Split at the asterisk gives them; the greedy match. No program is named.
-/
import Derived.Test.YthabmbjjpgcceaaDoorLbWild
namespace Go.Proofs.YthabmbjjpgcceaaDoor
set_option linter.unusedVariables false

/-- The asterisk. -/
def ast : ByteArray := ⟨#[42]⟩
theorem count_ast (s : ByteArray) : Lib.countB s ast = s.data.toList.count 42 := Lib.count_one 42 s.data.toList
theorem index_at : ∀ (l : List UInt8) (i : Nat), Lib.index l [42] = i → l = l.take i ++ 42 :: l.drop (i + 1) ∧ (42 : UInt8) ∉ l.take i ∧ i < l.length
  | [], i, h => by
    exfalso
    simp [Lib.index] at h
  | b :: l, i, h => by
    unfold Lib.index at h
    by_cases c : ([42] : List UInt8).isPrefixOf (b :: l) = true
    · rw [if_pos c] at h
      have c' : (42 : UInt8) = b := by simpa using c
      have : i = 0 := by omega
      subst this; subst c'
      simp
    · rw [if_neg c] at h
      have c' : b ≠ 42 := fun e => c (by simp [e])
      by_cases k : Lib.index l [42] = -1
      · rw [k] at h; simp at h
      · have k' : (Lib.index l [42] == -1) = false := by simpa using k
        rw [k'] at h
        simp only [Bool.false_eq_true, if_false] at h
        have hge := Lib.index_ge l [42]
        obtain ⟨j, rfl⟩ : ∃ j, i = j + 1 := ⟨i - 1, by omega⟩
        obtain ⟨h1, h2, h3⟩ := index_at l j (by omega)
        refine ⟨by simpa using h1, ?_, by simp; omega⟩
        simp only [List.take_succ_cons, List.mem_cons, not_or]
        exact ⟨fun e => c' e.symm, h2⟩
theorem index_no (l : List UInt8) (h : Lib.index l [42] = -1) : (42 : UInt8) ∉ l := by
  intro hm
  rcases Lib.index_spec l [42] with ⟨_, h2⟩ | ⟨i, h1, _⟩
  · obtain ⟨j, hj⟩ := List.mem_iff_getElem?.1 hm
    have hlt : j < l.length := by
      rcases Nat.lt_or_ge j l.length with x | x
      · exact x
      · rw [List.getElem?_eq_none x] at hj; cases hj
    have := h2 j (by omega)
    unfold Lib.occAt at this
    rw [List.drop_eq_getElem_cons hlt] at this
    have e : l[j] = 42 := by rw [List.getElem?_eq_getElem hlt] at hj; exact Option.some.inj hj
    rw [e] at this
    simp at this
  · rw [h] at h1; omega
/-- A string's parts: the parts behind the first, an asterisk ahead of each, make the string again. -/
theorem split_parts : ∀ (k : Nat) (s : ByteArray), Lib.countB s ast = k →
    ∃ a r, Lib.splitB ast 0 k s = a :: r ∧ r.length = k ∧ s.data.toList = a.data.toList ++ joins 42 (r.map (·.data.toList)) ∧ (42 : UInt8) ∉ a.data.toList ∧ ∀ q ∈ r, (42 : UInt8) ∉ q.data.toList
  | 0, s, h => by
    refine ⟨s, [], rfl, rfl, by simp [joins], ?_, by simp⟩
    rw [count_ast] at h
    exact List.count_eq_zero.1 h
  | k + 1, s, h => by
    rcases Lib.indexB_cases s ast with hi | ⟨i, hi, hr⟩
    · exfalso
      have hn := index_no s.data.toList hi
      rw [count_ast, List.count_eq_zero.2 hn] at h; cases h
    · obtain ⟨h1, h2, h3⟩ := index_at s.data.toList i hi
      rw [Lib.splitB_hit ast 0 k s i hi]
      have e1 : (s.extract 0 (i + 0)).data.toList = s.data.toList.take i := Lib.extract_from_zero s i
      have e2 : (s.extract (i + ast.size) s.size).data.toList = s.data.toList.drop (i + 1) := by
        have := Lib.extract_toList s (i + 1) s.size
        have e3 : (s.extract (i + ast.size) s.size).data.toList = (s.extract (i + 1) s.size).toList := by
          have t : ∀ b : ByteArray, b.data.toList = b.toList := fun b => by
            have := Lib.extract_toList b 0 b.size
            rw [ByteArray.extract_zero_size] at this
            rw [this, List.drop_zero, List.take_of_length_le (by rw [← Lib.size_eq]; omega)]
          rw [t]; rfl
        rw [e3, this]
        exact List.take_of_length_le (by rw [List.length_drop, ← Lib.size_eq]; omega)
      have hc : Lib.countB (s.extract (i + ast.size) s.size) ast = k := by
        rw [count_ast, e2]
        rw [count_ast] at h
        rw [h1, List.count_append, List.count_cons_self, List.count_eq_zero.2 h2] at h
        omega
      obtain ⟨a, r, g1, g2, g3, g4, g5⟩ := split_parts k _ hc
      refine ⟨_, _, rfl, by rw [g1]; simp [g2], ?_, by rw [e1]; exact h2, ?_⟩
      · rw [g1, e1, List.map_cons, joins, ← g3, e2]; exact h1
      · intro q hq
        rw [g1] at hq
        rcases List.mem_cons.1 hq with rfl | hq
        · exact g4
        · exact g5 q hq
/-- The parts are found one behind the other, each at its first place. -/
def gmid : List (List UInt8) → List UInt8 → Bool
  | [], _ => true
  | q :: r, t => (Lib.cut t q).2.2 && gmid r (Lib.cut t q).2.1
theorem gmid_iff : ∀ (r : List (List UInt8)) (t : List UInt8), gmid r t = true ↔ mids r t
  | [], t => by simp [gmid, mids]
  | q :: r, t => by rw [index_mids, gmid, Bool.and_eq_true, gmid_iff r]
/-- What matches answers where there is an asterisk. -/
def gB (a : ByteArray) (m : List ByteArray) (l : ByteArray) (s : ByteArray) : Bool :=
  Lib.hasPrefix s.data.toList a.data.toList && Lib.hasSuffix (Lib.trimPrefix s.data.toList a.data.toList) l.data.toList &&
    gmid (m.map (·.data.toList)) (Lib.trimSuffix (Lib.trimPrefix s.data.toList a.data.toList) l.data.toList)
theorem gB_lik (p s : ByteArray) {k : Nat} (hk : Lib.countB p ast = k + 1) : ∃ a m l, Lib.splitB ast 0 (k + 1) p = a :: (m ++ [l]) ∧ m.length = k ∧ gB a m l s = lik 42 p.data.toList s.data.toList := by
  obtain ⟨a, r, h1, h2, h3, h4, h5⟩ := split_parts (k + 1) p hk
  have hr : r ≠ [] := by intro e; rw [e] at h2; cases h2
  obtain ⟨m, l, rfl⟩ : ∃ m l, r = m ++ [l] := ⟨r.dropLast, r.getLast hr, (List.dropLast_concat_getLast hr).symm⟩
  refine ⟨a, m, l, h1, by simpa using h2, ?_⟩
  rw [Bool.eq_iff_iff, h3, List.map_append, List.map_cons, List.map_nil]
  rw [lik_parts _ _ _ h4 (by intro x hx; obtain ⟨q, hq, rfl⟩ := List.mem_map.1 hx; exact h5 q (by simp [hq])) (h5 l (by simp))]
  unfold gB Lib.hasPrefix Lib.hasSuffix
  rw [Bool.and_eq_true, Bool.and_eq_true, List.isPrefixOf_iff_prefix, List.isSuffixOf_iff_suffix, gmid_iff]
  constructor
  · rintro ⟨⟨⟨t, ht⟩, hs⟩, hm⟩
    have e : Lib.trimPrefix s.data.toList a.data.toList = t := by
      unfold Lib.trimPrefix Lib.hasPrefix; rw [if_pos (by rw [List.isPrefixOf_iff_prefix]; exact ⟨t, ht⟩), ← ht]; simp
    rw [e] at hs hm
    obtain ⟨u, rfl⟩ := hs
    have e2 : Lib.trimSuffix (u ++ l.data.toList) l.data.toList = u := by
      unfold Lib.trimSuffix Lib.hasSuffix; rw [if_pos (by rw [List.isSuffixOf_iff_suffix]; exact ⟨u, rfl⟩)]; simp
    rw [e2] at hm
    exact ⟨u, by rw [← ht]; simp, hm⟩
  · rintro ⟨u, hu, hm⟩
    have e : Lib.trimPrefix s.data.toList a.data.toList = u ++ l.data.toList := by
      unfold Lib.trimPrefix Lib.hasPrefix; rw [if_pos (by rw [List.isPrefixOf_iff_prefix]; exact ⟨u ++ l.data.toList, by rw [hu]; simp⟩), hu]; simp
    have e2 : Lib.trimSuffix (u ++ l.data.toList) l.data.toList = u := by
      unfold Lib.trimSuffix Lib.hasSuffix; rw [if_pos (by rw [List.isSuffixOf_iff_suffix]; exact ⟨u, rfl⟩)]; simp
    rw [e, e2]
    exact ⟨⟨⟨u ++ l.data.toList, by rw [hu]; simp⟩, ⟨u, rfl⟩⟩, hm⟩
theorem plain_lik (p s : ByteArray) (hk : Lib.countB p ast = 0) : (s.data.toList == p.data.toList) = lik 42 p.data.toList s.data.toList := by
  rw [count_ast] at hk
  rw [Bool.eq_iff_iff, lik_plain _ (List.count_eq_zero.1 hk), beq_iff_eq]
end Go.Proofs.YthabmbjjpgcceaaDoor

