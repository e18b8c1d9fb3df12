/-
  Layer 11, plain: the program's queue: sixty-four cells, and the places of the queue's packets in their order. No program is named.
-/
import Derived.Test.YtijdfkdfojiffaaQuPlain
namespace Go.Proofs.Ytijdfkdfojiffaa
set_option linter.unusedVariables false

/-- Sum of a function of the cells. -/
def sumF (f : Pk → Int) (M : List Pk) : Int := (M.map f).sum
theorem sumF_cons (f : Pk → Int) (p : Pk) (M : List Pk) : sumF f (p :: M) = f p + sumF f M := by unfold sumF; rw [List.map_cons, List.sum_cons]
theorem sumF_zero (f : Pk → Int) (h0 : f pk0 = 0) : ∀ M : List Pk, (∀ k, M.getD k pk0 = pk0) → sumF f M = 0
  | [], _ => rfl
  | p :: M, h => by
    have h1 : p = pk0 := h 0
    have h2 := sumF_zero f h0 M fun k => h (k + 1)
    rw [sumF_cons, h1, h0, h2]; rfl
theorem sumF_set (f : Pk → Int) : ∀ (M : List Pk) (k : Nat) (p : Pk), k < M.length → sumF f (M.set k p) = sumF f M - f (M.getD k pk0) + f p
  | x :: M, 0, p, _ => by
    rw [List.set_cons_zero, sumF_cons, sumF_cons, List.getD_cons_zero]; omega
  | x :: M, k + 1, p, h => by
    rw [List.set_cons_succ, sumF_cons, sumF_cons, List.getD_cons_succ, sumF_set f M k p (by simpa using h)]; omega
theorem getD_set (M : List Pk) (k j : Nat) (p : Pk) (hk : k < M.length) : (M.set k p).getD j pk0 = if j = k then p else M.getD j pk0 := by
  rw [List.getD_eq_getElem?_getD, List.getD_eq_getElem?_getD, List.getElem?_set]
  by_cases h : k = j
  · subst h; rw [if_pos rfl, if_pos rfl, if_pos hk]; rfl
  · rw [if_neg h, if_neg (fun e => h e.symm)]
/-- Cells M and the places P of the list L. -/
structure Pl (M : List Pk) (P : List Nat) (L : List Pk) : Prop where
  size : M.length = 64
  dup : P.Nodup
  lt : ∀ k ∈ P, k < 64
  map : P.map (fun k => M.getD k pk0) = L
  free : ∀ k, k ∉ P → M.getD k pk0 = pk0
section
variable {M : List Pk} {P : List Nat} {L : List Pk} {k : Nat} {a : Pk}
theorem Pl.new : Pl (List.replicate 64 pk0) [] [] := by
  refine ⟨List.length_replicate, List.nodup_nil, by simp, rfl, fun k _ => ?_⟩
  rw [List.getD_eq_getElem?_getD, List.getElem?_replicate]
  split <;> rfl
theorem Pl.len (h : Pl M P L) : P.length = L.length := by rw [← h.map, List.length_map]
theorem Pl.at_ (h : Pl M P L) {i : Nat} (hi : i < P.length) : M.getD P[i] pk0 = L[i]'(by rw [← h.len]; exact hi) := by
  have := h.map
  subst this
  rw [List.getElem_map]
theorem Pl.head (h : Pl M (k :: P) L) : ∃ T, L = M.getD k pk0 :: T := ⟨_, h.map.symm⟩
theorem Pl.nil (h : Pl M [] L) : L = [] := h.map.symm
theorem Pl.none_ (h : Pl M P []) : P = [] := List.length_eq_zero_iff.1 h.len
theorem Pl.cons (h : Pl M P (a :: L)) : ∃ k T, P = k :: T ∧ k < 64 ∧ M.getD k pk0 = a := by
  cases P with
  | nil => have := h.len; simp at this
  | cons k T =>
    have := h.map
    rw [List.map_cons] at this
    injection this with h1 h2
    exact ⟨k, T, rfl, h.lt k (by simp), h1⟩
/-- The first packet is taken out. -/
theorem Pl.take_ (h : Pl M (k :: P) (a :: L)) : Pl (M.set k pk0) P L := by
  have hd := List.nodup_cons.1 h.dup
  have hk : k < M.length := by rw [h.size]; exact h.lt k (by simp)
  refine ⟨by rw [List.length_set]; exact h.size, hd.2, fun j hj => h.lt j (by simp [hj]), ?_, fun j hj => ?_⟩
  · have := h.map
    rw [List.map_cons] at this
    injection this with h1 h2
    rw [← h2]
    refine List.map_congr_left fun j hj => ?_
    rw [getD_set _ _ _ _ hk, if_neg (fun e => hd.1 (by rw [← e]; exact hj))]
  · rw [getD_set _ _ _ _ hk]
    split
    · rfl
    · rename_i hne
      exact h.free j (by simp [hne, hj])
/-- The first packet goes back to the end. -/
theorem Pl.turn (h : Pl M (k :: P) (a :: L)) : Pl M (P ++ [k]) (L ++ [a]) := by
  have hd := List.nodup_cons.1 h.dup
  refine ⟨h.size, ?_, fun j hj => h.lt j (by simp at hj ⊢; exact hj.symm), ?_, fun j hj => h.free j (by simp at hj ⊢; exact ⟨hj.2, hj.1⟩)⟩
  · refine List.nodup_append.2 ⟨hd.2, by simp, fun x hx y hy e => ?_⟩
    simp only [List.mem_singleton] at hy
    subst hy; subst e
    exact hd.1 hx
  · have := h.map
    rw [List.map_cons] at this
    injection this with h1 h2
    rw [List.map_append, h2, List.map_singleton, h1]
/-- A packet is laid into a free cell. -/
theorem Pl.push (h : Pl M P L) (hk : k < 64) (hn : k ∉ P) (p : Pk) : Pl (M.set k p) (P ++ [k]) (L ++ [p]) := by
  have hk' : k < M.length := by rw [h.size]; exact hk
  refine ⟨by rw [List.length_set]; exact h.size, ?_, fun j hj => ?_, ?_, fun j hj => ?_⟩
  · refine List.nodup_append.2 ⟨h.dup, by simp, fun x hx y hy e => ?_⟩
    simp only [List.mem_singleton] at hy
    subst hy; subst e
    exact hn hx
  · rcases List.mem_append.1 hj with h1 | h1
    · exact h.lt j h1
    · simp only [List.mem_singleton] at h1; omega
  · rw [List.map_append, List.map_singleton, getD_set _ _ _ _ hk', if_pos rfl, ← h.map]
    congr 1
    refine List.map_congr_left fun j hj => ?_
    rw [getD_set _ _ _ _ hk', if_neg (fun e => hn (by rw [← e]; exact hj))]
  · simp only [List.mem_append, List.mem_singleton, not_or] at hj
    rw [getD_set _ _ _ _ hk', if_neg hj.2]
    exact h.free j hj.1
/-- What the cells add up to is what the packets add up to. -/
theorem Pl.sum (f : Pk → Int) (h0 : f pk0 = 0) : ∀ {P : List Nat} {M L : List Pk}, Pl M P L → sumF f M = sumF f L
  | [], M, L, h => by
    rw [h.nil, sumF_zero f h0 M fun k => h.free k (by simp)]; rfl
  | k :: P, M, L, h => by
    obtain ⟨T, rfl⟩ := h.head
    have h1 := Pl.sum f h0 h.take_
    have hk : k < M.length := by rw [h.size]; exact h.lt k (by simp)
    rw [sumF_set f M k pk0 hk, h0] at h1
    rw [sumF_cons]; omega
theorem Pl.bytes (h : Pl M P L) : sumB M = sumB L := h.sum (·.l) rfl
theorem Pl.mem (h : Pl M P L) (j : Nat) : M.getD j pk0 = pk0 ∨ M.getD j pk0 ∈ L := by
  by_cases hj : j ∈ P
  · right; rw [← h.map]; exact List.mem_map.2 ⟨j, hj, rfl⟩
  · exact .inl (h.free j hj)
theorem Pl.lens (h : Pl M P L) (ho : ∀ p ∈ L, pkOk p = true) : ∀ p ∈ M, 0 ≤ p.l ∧ p.l ≤ 4096 := by
  intro p hp
  obtain ⟨j, hj, e⟩ := List.getElem_of_mem hp
  have e2 : M.getD j pk0 = p := by rw [List.getD_eq_getElem?_getD, List.getElem?_eq_getElem hj]; exact e
  rcases h.mem j with e1 | e1
  · rw [e2] at e1; subst e1; decide
  · rw [e2] at e1; have := pk_len (ho p e1); omega
theorem sumF_one (f : Pk → Int) : ∀ L : List Pk, (∀ p ∈ L, f p = 1) → sumF f L = L.length
  | [], _ => rfl
  | p :: L, h => by rw [sumF_cons, h p (by simp), sumF_one f L fun q hq => h q (by simp [hq]), List.length_cons]; omega
/-- Where there are fewer packets than cells, a cell is free. -/
theorem Pl.room (h : Pl M P L) (ho : ∀ p ∈ L, pkOk p = true) (hn : L.length < 64) : ∃ j, j < 64 ∧ M.getD j pk0 = pk0 := by
  rcases Classical.em (∃ j, j < 64 ∧ M.getD j pk0 = pk0) with h1 | h1
  · exact h1
  · exfalso
    have h2 := h.sum (fun p => if 1 ≤ p.i then 1 else 0) (by decide)
    rw [sumF_one _ L fun p hp => if_pos (pk_id (ho p hp)), sumF_one _ M fun p hp => ?_, h.size] at h2
    · omega
    · obtain ⟨j, hj, e⟩ := List.getElem_of_mem hp
      have e2 : M.getD j pk0 = p := by rw [List.getD_eq_getElem?_getD, List.getElem?_eq_getElem hj]; exact e
      rcases h.mem j with e1 | e1
      · exact absurd ⟨j, by rw [← h.size]; exact hj, e1⟩ h1
      · rw [e2] at e1; exact if_pos (pk_id (ho p e1))
/-- A free cell is the place of no packet. -/
theorem Pl.not_in (h : Pl M P L) (ho : ∀ p ∈ L, pkOk p = true) (hk : M.getD k pk0 = pk0) : k ∉ P := fun hp => by
  have h1 : M.getD k pk0 ∈ L := by rw [← h.map]; exact List.mem_map.2 ⟨k, hp, rfl⟩
  rw [hk] at h1
  have := ho _ h1
  revert this; decide
theorem getD_at {j : Nat} (hj : j < M.length) : M.getD j pk0 = M[j] := by rw [List.getD_eq_getElem?_getD, List.getElem?_eq_getElem hj]; rfl
end
/-! ### Expire's rounds: the packets of the old list one after the other to the end, but the late ones -/
/-- What is in the queue behind k rounds. -/
def rndL (s : Int) (L : List Pk) (k : Nat) : List Pk := L.drop k ++ (L.take k).filter fun p => !lateB s p
theorem rnd_0 (s : Int) (L : List Pk) : rndL s L 0 = L := by unfold rndL; simp
theorem rnd_all (s : Int) (L : List Pk) : rndL s L L.length = L.filter fun p => !lateB s p := by unfold rndL; simp
theorem rnd_cons (s : Int) (L : List Pk) {k : Nat} (hk : k < L.length) : rndL s L k = L[k] :: (L.drop (k + 1) ++ (L.take k).filter fun p => !lateB s p) := by
  unfold rndL; rw [List.drop_eq_getElem_cons hk, List.cons_append]
theorem rnd_late {s : Int} {L : List Pk} {k : Nat} (hk : k < L.length) (h : lateB s L[k] = true) :
    L.drop (k + 1) ++ (L.take k).filter (fun p => !lateB s p) = rndL s L (k + 1) ∧ (L.take (k + 1)).filter (lateB s) = (L.take k).filter (lateB s) ++ [L[k]] := by
  unfold rndL
  rw [flt_take _ hk, flt_take _ hk, h]
  simp
theorem rnd_stay {s : Int} {L : List Pk} {k : Nat} (hk : k < L.length) (h : lateB s L[k] = false) :
    (L.drop (k + 1) ++ (L.take k).filter (fun p => !lateB s p)) ++ [L[k]] = rndL s L (k + 1) ∧ (L.take (k + 1)).filter (lateB s) = (L.take k).filter (lateB s) := by
  unfold rndL
  rw [flt_take _ hk, flt_take _ hk, h]
  simp
end Go.Proofs.Ytijdfkdfojiffaa

