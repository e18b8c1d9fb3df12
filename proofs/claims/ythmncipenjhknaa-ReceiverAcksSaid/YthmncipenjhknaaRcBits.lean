/-
  Layer 17, plain: the bits of an acknowledgement; a receiver whose numbers do not wrap. No program is named.
-/
import Derived.Test.YthmncipenjhknaaRcRef6
namespace Go.Proofs.Ythmncipenjhknaa
set_option linter.unusedVariables false

theorem bit_test {x : Int} (h : 0 ≤ x) (j : Nat) : decide (x / 2 ^ j % 2 = 1) = x.toNat.testBit j := by
  rw [Nat.testBit_eq_decide_div_mod_eq]
  have := toNat_bit h j
  rw [decide_eq_decide]
  omega
theorem or_test {x : Int} (h : Wd x) {k : Nat} (hk : k < 64) : Wd (bits .or .u64 x (2 ^ k)) ∧ ∀ j, (bits .or .u64 x (2 ^ k)).toNat.testBit j = (x.toNat.testBit j || decide (k = j)) := by
  obtain ⟨h0, h1⟩ := h
  have hp := pow_lt64 hk
  have hp1 := pow_pos' k
  have e : bits .or .u64 x (2 ^ k) = IntKind.u64.wrap ((BitVec.ofInt 64 x ||| BitVec.ofInt 64 (2 ^ k)).toNat : Nat) := rfl
  have ex : (BitVec.ofInt 64 x).toNat = x.toNat := by rw [BitVec.toNat_ofInt]; omega
  have ey : (BitVec.ofInt 64 ((2 : Int) ^ k)).toNat = 2 ^ k := by
    have h2 : ((2 : Int) ^ k) = ((2 ^ k : Nat) : Int) := by push_cast; rfl
    rw [BitVec.toNat_ofInt, h2]
    have : (2 : Nat) ^ k < 2 ^ 64 := Nat.pow_lt_pow_right (by omega) hk
    omega
  have el : (BitVec.ofInt 64 x ||| BitVec.ofInt 64 (2 ^ k)).toNat < 2 ^ 64 := BitVec.isLt _
  rw [BitVec.toNat_or, ex, ey] at el
  have e2 : bits .or .u64 x (2 ^ k) = ((x.toNat ||| 2 ^ k : Nat) : Int) := by
    rw [e, BitVec.toNat_or, ex, ey, IntKind.wrap_u64]
    omega
  rw [e2]
  refine ⟨⟨by omega, by omega⟩, fun j => ?_⟩
  rw [Int.toNat_natCast, Nat.testBit_or, Nat.testBit_two_pow]
theorem or_has {b x q : Int} (hx : Wd x) (hq : insB b 64 q = true) (k : Int) : hasB b (bits .or .u64 x (2 ^ dOf b q)) k = (hasB b x k || (q == k)) := by
  obtain ⟨hb, hd⟩ : both b q = true ∧ dOf b q < 64 := by
    rcases ins64_cases b q with ⟨h1, h2, _⟩ | ⟨_, _, h3⟩ | ⟨_, h3⟩
    · exact ⟨h1, h2⟩
    · rw [hq] at h3; cases h3
    · rw [hq] at h3; cases h3
  obtain ⟨hw, ht⟩ := or_test hx hd
  cases hk : insB b 64 k
  · rw [has_no hk, has_no hk]
    have : q ≠ k := by intro e; rw [e, hk] at hq; cases hq
    simp [this]
  · have hbk : both b k = true := by
      rcases ins64_cases b k with ⟨h1, h2, _⟩ | ⟨_, _, h3⟩ | ⟨_, h3⟩
      · exact h1
      · rw [hk] at h3; cases h3
      · rw [hk] at h3; cases h3
    unfold hasB
    rw [hk, bit_test hw.1, bit_test hx.1, ht, Bool.true_and, Bool.true_and]
    congr 1
    have h3 := dOf_is b q
    have h4 := dOf_is b k
    have h5 := both_bd hb
    have h6 := both_bd hbk
    by_cases e : q = k
    · simp [e]
    · have : dOf b q ≠ dOf b k := by omega
      simp [e, this]
/-- Are all numbers of the list within 64 steps from nx? -/
def RcNear (nx : Int) (l : List RcE) : Prop := ∀ x ∈ l, insB nx 64 x.q = true
theorem rcAk_spec {nx : Int} : ∀ (l : List RcE) (X : Int), RcNear nx l → Wd X → (l.foldl (fun (m : Int × Int) x => (stB m.1 x.q, stX m.1 m.2 x.q)) (nx, X)).1 = nx ∧ Wd (l.foldl (fun (m : Int × Int) x => (stB m.1 x.q, stX m.1 m.2 x.q)) (nx, X)).2 ∧
    ∀ k, hasB nx (l.foldl (fun (m : Int × Int) x => (stB m.1 x.q, stX m.1 m.2 x.q)) (nx, X)).2 k = (hasB nx X k || l.any (fun x => x.q == k))
  | [], X, _, hX => ⟨rfl, hX, fun k => by simp⟩
  | y :: l, X, hl, hX => by
    have hy := hl y (by simp)
    have e1 : stB nx y.q = nx := by unfold stB; rw [if_pos hy]
    have e2 : stX nx X y.q = bits .or .u64 X (2 ^ dOf nx y.q) := by unfold stX; rw [if_pos hy]
    have hd : dOf nx y.q < 64 := by
      rcases ins64_cases nx y.q with ⟨_, h2, _⟩ | ⟨_, _, h3⟩ | ⟨_, h3⟩
      · exact h2
      · rw [hy] at h3; cases h3
      · rw [hy] at h3; cases h3
    rw [List.foldl_cons]
    simp only [e1, e2]
    obtain ⟨h1, h2, h3⟩ := rcAk_spec l (bits .or .u64 X (2 ^ dOf nx y.q)) (fun x hx => hl x (by simp [hx])) (or_test hX hd).1
    refine ⟨h1, h2, fun k => ?_⟩
    rw [h3, or_has hX hy, List.any_cons, Bool.or_assoc]
theorem rcAk_base {nx : Int} {l : List RcE} (h : RcNear nx l) : (rcAk nx l).1 = nx := (rcAk_spec l 0 h ⟨by omega, by omega⟩).1
theorem has_zero (b k : Int) : hasB b 0 k = false := by unfold hasB; simp
theorem rcAk_has {nx : Int} {l : List RcE} (h : RcNear nx l) (k : Int) : hasB nx (rcAk nx l).2 k = l.any (fun x => x.q == k) := by
  have h3 := (rcAk_spec l 0 h ⟨by omega, by omega⟩).2.2 k
  rw [has_zero, Bool.false_or] at h3
  exact h3
/-- A word is known by its bits. -/
theorem wd_ext {x y : Int} (hx : Wd x) (hy : Wd y) (h : ∀ j, j < 64 → x.toNat.testBit j = y.toNat.testBit j) : x = y := by
  have e : x.toNat = y.toNat := Nat.eq_of_testBit_eq fun j => by
    rcases Nat.lt_or_ge j 64 with hj | hj
    · exact h j hj
    · have hp : (2 : Nat) ^ 64 ≤ 2 ^ j := Nat.pow_le_pow_right (by omega) hj
      have h1 := hx.2
      have h2 := hy.2
      rw [Nat.testBit_lt_two_pow (by omega), Nat.testBit_lt_two_pow (by omega)]
  have h1 := hx.1
  have h2 := hy.1
  omega
/-- The word of an acknowledgement does not depend on the order. -/
theorem rcAk_ext {nx : Int} {l m : List RcE} (hn : isNum nx = true) (h : RcNear nx l) (h2 : RcNear nx m) (he : ∀ k, l.any (fun x => x.q == k) = m.any (fun x => x.q == k)) : rcAk nx l = rcAk nx m := by
  have w1 : Wd (rcAk nx l).2 := (rcAk_spec l 0 h ⟨by omega, by omega⟩).2.1
  have w2 : Wd (rcAk nx m).2 := (rcAk_spec m 0 h2 ⟨by omega, by omega⟩).2.1
  refine Prod.ext ((rcAk_base h).trans (rcAk_base h2).symm) (wd_ext w1 w2 fun j hj => ?_)
  have hnb := isNum_bd hn
  have hk := isNum_yes (x := (nx + j) % 65536) (by omega) (by omega)
  have hd : dOf nx ((nx + j) % 65536) = j := by have := dOf_is nx ((nx + j) % 65536); omega
  have hi := ins64_yes (both_yes hn hk) (by rw [hd]; exact hj)
  have a1 := rcAk_has h ((nx + j) % 65536)
  have a2 := rcAk_has h2 ((nx + j) % 65536)
  rw [he, ← a2] at a1
  unfold hasB at a1
  rw [hi, hd, Bool.true_and, Bool.true_and, bit_test w1.1, bit_test w2.1] at a1
  exact a1
/-! ### numbers that do not wrap -/
theorem mem_rcRm {l : List RcE} (hd : (l.map (·.q)).Nodup) (q : Int) (x : RcE) : x ∈ rcRm l q ↔ x ∈ l ∧ x.q ≠ q := by
  unfold rcRm
  by_cases h : rcK l q < l.length
  · rw [if_pos h, ← List.eraseIdx_eq_take_drop_succ]
    have hq := rcK_at h
    have hspl : l = l.take (rcK l q) ++ l[rcK l q] :: l.drop (rcK l q + 1) := by rw [List.getElem_cons_drop, List.take_append_drop]
    rw [List.eraseIdx_eq_take_drop_succ]
    generalize rcK l q = k at *
    rw [hspl, List.map_append, List.map_cons, List.nodup_append] at hd
    obtain ⟨_, h2, h3⟩ := hd
    have h4 := (List.nodup_cons.1 h2).1
    rw [hq] at h4 h3
    constructor
    · intro hx
      rw [List.mem_append] at hx
      rcases hx with hx | hx
      · exact ⟨List.mem_of_mem_take hx, h3 x.q (List.mem_map.2 ⟨x, hx, rfl⟩) q (by simp)⟩
      · exact ⟨List.mem_of_mem_drop hx, fun e => h4 (by rw [← e]; exact List.mem_map.2 ⟨x, hx, rfl⟩)⟩
    · rintro ⟨hx, hne⟩
      rw [hspl, List.mem_append, List.mem_cons] at hx
      rw [List.mem_append]
      rcases hx with hx | rfl | hx
      · exact .inl hx
      · exact absurd hq hne
      · exact .inr hx
  · rw [if_neg h]
    refine ⟨fun hx => ⟨hx, fun e => ?_⟩, fun hx => hx.1⟩
    obtain ⟨j, hj, rfl⟩ := List.getElem_of_mem hx
    have h9 := rcK_le l q
    exact rcK_ne (l := l) (q := q) (k := j) (by omega) hj e
theorem rcRm_sub (l : List RcE) (q : Int) : (rcRm l q).Sublist l := by
  unfold rcRm
  split
  · rw [← List.eraseIdx_eq_take_drop_succ]; exact List.eraseIdx_sublist _ _
  · exact List.Sublist.refl _
theorem rcK_lt_iff (l : List RcE) (q : Int) : rcK l q < l.length ↔ ∃ x ∈ l, x.q = q := by
  constructor
  · intro h; exact ⟨_, List.getElem_mem h, rcK_at h⟩
  · rintro ⟨x, hx, e⟩
    obtain ⟨j, hj, rfl⟩ := List.getElem_of_mem hx
    rcases Nat.lt_or_ge (rcK l q) l.length with h | h
    · exact h
    · exact absurd e (rcK_ne (k := j) (by omega) hj)
/-- All numbers lie below U, and id = number + 1. -/
structure RcAs (s : RcS) (U : Int) : Prop where
  w : 1 ≤ s.w ∧ s.w ≤ 64
  nx : 0 ≤ s.nx ∧ s.nx ≤ U ∧ U ≤ 30000
  e : ∀ x ∈ s.l, s.nx ≤ x.q ∧ x.q < U ∧ x.i = x.q + 1
  d : (s.l.map (·.q)).Nodup
theorem RcAs.new {w U : Int} (hw : 1 ≤ w ∧ w ≤ 64) (hU : 0 ≤ U ∧ U ≤ 30000) : RcAs (RcS.new w) U := ⟨hw, ⟨Int.le_refl _, hU.1, hU.2⟩, (fun x hx => by cases hx), List.nodup_nil⟩
theorem RcAs.up {s : RcS} {U V : Int} (h : RcAs s U) (hV : U ≤ V) (h2 : V ≤ 30000) : RcAs s V := ⟨h.w, by have := h.nx; omega, fun x hx => by have := h.e x hx; omega, h.d⟩
theorem RcAs.tk {s : RcS} {U : Int} (h : RcAs s U) : (rcTk s.l s.nx ≠ 0 → ∃ x ∈ s.l, x.q = s.nx) ∧ ((∃ x ∈ s.l, x.q = s.nx) → rcTk s.l s.nx = s.nx + 1) := by
  refine ⟨fun h1 => (rcK_lt_iff _ _).1 (rcTk_of h1), fun h1 => ?_⟩
  have h2 := (rcK_lt_iff _ _).2 h1
  unfold rcTk
  rw [dif_pos h2, (h.e _ (List.getElem_mem h2)).2.2, rcK_at h2]
theorem RcAs.st {s : RcS} {U : Int} (h : RcAs s U) (hU : s.nx + 1 ≤ U) : RcAs (rcSt s) U ∧ (rcSt s).nx = s.nx + 1 ∧ (∀ x, x ∈ (rcSt s).l ↔ x ∈ s.l ∧ s.nx + 1 ≤ x.q) := by
  have hn := h.nx
  have e1 : (rcSt s).nx = s.nx + 1 := by show (s.nx + 1) % 65536 = s.nx + 1; omega
  have hm : ∀ x, x ∈ (rcSt s).l ↔ x ∈ s.l ∧ s.nx + 1 ≤ x.q := fun x => by
    show x ∈ rcRm s.l s.nx ↔ _
    rw [mem_rcRm h.d]
    constructor
    · rintro ⟨h1, h2⟩; exact ⟨h1, by have := h.e x h1; omega⟩
    · rintro ⟨h1, h2⟩; exact ⟨h1, by omega⟩
  refine ⟨⟨h.w, by rw [e1]; omega, fun x hx => ?_, h.d.sublist ((rcRm_sub _ _).map _)⟩, e1, hm⟩
  obtain ⟨h1, h2⟩ := (hm x).1 hx
  rw [e1]
  exact ⟨h2, (h.e x h1).2⟩
theorem RcAs.mv {s : RcS} {U : Int} (h : RcAs s U) : ∀ k : Nat, s.nx + k ≤ U → RcAs (rcMv s k) U ∧ (rcMv s k).nx = s.nx + k ∧ (∀ x, x ∈ (rcMv s k).l ↔ x ∈ s.l ∧ s.nx + k ≤ x.q) ∧ (∀ i ∈ rcMo s k, s.nx < i ∧ i ≤ s.nx + k) ∧ (rcMo s k).Pairwise (· < ·)
  | 0, _ => by
    refine ⟨h, ?_, fun x => ?_, (fun i hi => by cases hi), List.Pairwise.nil⟩
    · show s.nx = s.nx + 0; omega
    · show x ∈ s.l ↔ _
      exact ⟨fun hx => ⟨hx, by have := h.e x hx; show s.nx + 0 ≤ x.q; omega⟩, fun hx => hx.1⟩
  | k + 1, hk => by
    obtain ⟨h1, h2, h3, h4, h5⟩ := h.mv k (by omega)
    obtain ⟨g1, g2, g3⟩ := h1.st (by omega)
    have hso : ∀ i ∈ rcSo (rcMv s k), i = s.nx + k + 1 := fun i hi => by
      unfold rcSo at hi
      by_cases h0 : 0 < rcTk (rcMv s k).l (rcMv s k).nx
      · rw [if_pos h0, List.mem_singleton] at hi
        rw [hi, h1.tk.2 (h1.tk.1 (by omega)), h2]
      · rw [if_neg h0] at hi; cases hi
    refine ⟨g1, ?_, fun x => ?_, fun i hi => ?_, ?_⟩
    · show (rcSt (rcMv s k)).nx = s.nx + ((k + 1 : Nat) : Int)
      rw [g2, h2]; omega
    · show x ∈ (rcSt (rcMv s k)).l ↔ _
      rw [g3, h3, h2]
      constructor
      · rintro ⟨⟨a, b⟩, c⟩; exact ⟨a, by omega⟩
      · rintro ⟨a, b⟩; exact ⟨⟨a, by omega⟩, by omega⟩
    · rcases List.mem_append.1 (show i ∈ rcMo s k ++ rcSo (rcMv s k) from hi) with hi | hi
      · have := h4 i hi; omega
      · have := hso i hi; omega
    · show (rcMo s k ++ rcSo (rcMv s k)).Pairwise _
      rw [List.pairwise_append]
      refine ⟨h5, ?_, fun a ha b hb => ?_⟩
      · unfold rcSo; split <;> simp
      · have := h4 a ha; have := hso b hb; omega
theorem RcAs.run {s : RcS} {U : Int} (h : RcAs s U) : s.nx + rcRn s ≤ U ∧ ∀ k : Nat, k < rcRn s → ∃ x ∈ s.l, x.q = s.nx + k := by
  have key : ∀ k : Nat, k ≤ rcRn s → s.nx + k ≤ U ∧ ∀ j : Nat, j < k → ∃ x ∈ s.l, x.q = s.nx + j := by
    intro k
    induction k with
    | zero => intro _; exact ⟨by have := h.nx; show s.nx + 0 ≤ U; omega, fun j hj => absurd hj (by omega)⟩
    | succ k ih =>
      intro hk
      obtain ⟨h1, h2⟩ := ih (by omega)
      obtain ⟨g1, g2, g3, _⟩ := h.mv k h1
      obtain ⟨x, hx, hxq⟩ := g1.tk.1 (rcRn_yes s (k := k) (by omega))
      have hx2 := (g3 x).1 hx
      have hx3 := h.e x hx2.1
      refine ⟨by omega, fun j hj => ?_⟩
      rcases Nat.lt_or_ge j k with h4 | h4
      · exact h2 j h4
      · obtain rfl : j = k := by omega
        exact ⟨x, hx2.1, by omega⟩
  exact ⟨(key _ (Nat.le_refl _)).1, (key _ (Nat.le_refl _)).2⟩
theorem bef_plain {a b : Int} (ha : 0 ≤ a ∧ a ≤ 30000) (hb : 0 ≤ b ∧ b ≤ 30000) : befB a b = decide (a < b) := by
  refine bef_is (both_yes (isNum_yes ha.1 (by omega)) (isNum_yes hb.1 (by omega))) ?_
  rw [decide_eq_decide]; omega
theorem RcAs.put {s : RcS} {U q : Int} (h : RcAs s U) (hq : 0 ≤ q ∧ q < U) : RcAs (rcPut s ⟨q, q + 1⟩) U ∧ (rcPut s ⟨q, q + 1⟩).nx = s.nx ∧ (rcPut s ⟨q, q + 1⟩).w = s.w ∧ ∀ k, (k < s.nx ∨ ∃ x ∈ (rcPut s ⟨q, q + 1⟩).l, x.q = k) ↔ (k < s.nx ∨ (∃ x ∈ s.l, x.q = k) ∨ k = q) := by
  have hn := h.nx
  have hb := bef_plain (a := q) (b := s.nx) (by omega) (by omega)
  unfold rcPut
  by_cases ht : rcThere s q = true
  · rw [if_pos ht]
    refine ⟨h, rfl, rfl, fun k => ⟨fun h1 => h1.imp id .inl, fun h1 => ?_⟩⟩
    rcases h1 with h1 | h1 | rfl
    · exact .inl h1
    · exact .inr h1
    · unfold rcThere at ht
      rw [hb, Bool.or_eq_true, decide_eq_true_eq, decide_eq_true_eq] at ht
      rcases ht with ht | ht
      · exact .inl ht
      · exact .inr ((rcK_lt_iff _ _).1 ht)
  · rw [if_neg ht]
    have hnn : ¬ q < s.nx ∧ ¬ ∃ x ∈ s.l, x.q = q := by
      unfold rcThere at ht
      rw [hb, Bool.or_eq_true, decide_eq_true_eq, decide_eq_true_eq, rcK_lt_iff] at ht
      exact ⟨fun h1 => ht (.inl h1), fun h1 => ht (.inr h1)⟩
    have hm : ∀ x, x ∈ (rcIn s ⟨q, q + 1⟩).l ↔ x = ⟨q, q + 1⟩ ∨ x ∈ s.l := fun x => by
      show x ∈ s.l.take (rcIx s q) ++ ⟨q, q + 1⟩ :: s.l.drop (rcIx s q) ↔ _
      rw [List.mem_append, List.mem_cons]
      constructor
      · rintro (h1 | h1 | h1)
        · exact .inr (List.mem_of_mem_take h1)
        · exact .inl h1
        · exact .inr (List.mem_of_mem_drop h1)
      · rintro (h1 | h1)
        · exact .inr (.inl h1)
        · rw [← List.take_append_drop (rcIx s q) s.l, List.mem_append] at h1
          rcases h1 with h1 | h1
          · exact .inl h1
          · exact .inr (.inr h1)
    refine ⟨⟨h.w, h.nx, fun x hx => ?_, ?_⟩, rfl, rfl, fun k => ?_⟩
    · rcases (hm x).1 hx with rfl | hx
      · exact ⟨by show s.nx ≤ q; omega, hq.2, rfl⟩
      · exact h.e x hx
    · show ((s.l.take (rcIx s q) ++ ⟨q, q + 1⟩ :: s.l.drop (rcIx s q)).map (·.q)).Nodup
      have hp : ((s.l.take (rcIx s q) ++ ⟨q, q + 1⟩ :: s.l.drop (rcIx s q)).map (·.q)).Perm (q :: s.l.map (·.q)) := by
        have h1 : (s.l.take (rcIx s q) ++ ⟨q, q + 1⟩ :: s.l.drop (rcIx s q)).Perm (⟨q, q + 1⟩ :: (s.l.take (rcIx s q) ++ s.l.drop (rcIx s q))) := List.perm_middle
        rw [List.take_append_drop] at h1
        exact h1.map _
      rw [hp.nodup_iff, List.nodup_cons]
      refine ⟨fun h1 => ?_, h.d⟩
      obtain ⟨x, hx, e⟩ := List.mem_map.1 h1
      exact hnn.2 ⟨x, hx, e⟩
    · constructor
      · rintro (h1 | ⟨x, hx, rfl⟩)
        · exact .inl h1
        · rcases (hm x).1 hx with rfl | hx
          · exact .inr (.inr rfl)
          · exact .inr (.inl ⟨x, hx, rfl⟩)
      · rintro (h1 | ⟨x, hx, rfl⟩ | rfl)
        · exact .inl h1
        · exact .inr ⟨x, (hm x).2 (.inr hx), rfl⟩
        · exact .inr ⟨_, (hm _).2 (.inl rfl), rfl⟩
/-- What Receive does where nothing wraps. -/
theorem RcAs.rcv {s : RcS} {U b q : Int} (h : RcAs s U) (hb : 0 ≤ b ∧ b ≤ U) (hbn : s.nx - b ≤ s.w) (hq : b ≤ q ∧ q < b + s.w ∧ q < U) :
    rcRvE s b q (q + 1) = 0 ∧ RcAs (s.rcv b q (q + 1)) U ∧ (s.rcv b q (q + 1)).w = s.w ∧ b ≤ (s.rcv b q (q + 1)).nx ∧ s.nx ≤ (s.rcv b q (q + 1)).nx ∧
      (∀ i ∈ rcRvL s b q (q + 1), s.nx < i ∧ i ≤ (s.rcv b q (q + 1)).nx) ∧ (rcRvL s b q (q + 1)).Pairwise (· < ·) ∧
      ∀ k, (k < (s.rcv b q (q + 1)).nx ∨ ∃ x ∈ (s.rcv b q (q + 1)).l, x.q = k) ↔ (k < s.nx ∨ k < b ∨ (∃ x ∈ s.l, x.q = k) ∨ k = q) := by
  have hn := h.nx
  have hw := h.w
  have n1 := isNum_yes (x := s.nx) hn.1 (by omega)
  have n2 := isNum_yes (x := b) hb.1 (by omega)
  have n3 := isNum_yes (x := q) (by omega) (by omega)
  have hE : rcRvE s b q (q + 1) = 0 := by
    unfold rcRvE
    have i1 : insB b s.w q = true := ins_is (both_yes n2 n3) (by rw [decide_eq_true_eq]; omega)
    rw [(ds_yes (both_yes n1 n2)).1, (ds_yes (both_yes n1 n2)).2, (ds_yes (both_yes n2 n1)).1, (ds_yes (both_yes n2 n3)).2, if_neg (by omega), if_neg]
    rintro (h1 | h1)
    · omega
    · rw [i1] at h1; cases h1
  have hM : s.nx + (rcM s b : Int) = max s.nx b := by
    unfold rcM
    rw [bef_plain (a := s.nx) (b := b) (by omega) (by omega), (ds_yes (both_yes n1 n2)).1]
    by_cases h1 : s.nx < b
    · rw [if_pos (decide_eq_true h1)]; omega
    · rw [if_neg (by simpa using h1)]; omega
  have hM2 : ∀ k : Int, k < s.nx + (rcM s b : Int) ↔ k < s.nx ∨ k < b := fun k => by omega
  obtain ⟨g1, g2, g3, g4, g5⟩ := h.mv (rcM s b) (by omega)
  obtain ⟨p1, p2, p3, p4⟩ := g1.put (q := q) (by omega)
  obtain ⟨r1, r2⟩ := p1.run
  obtain ⟨m1, m2, m3, m4, m5⟩ := p1.mv _ r1
  have eS : s.rcv b q (q + 1) = rcMv (rcPut (rcMv s (rcM s b)) ⟨q, q + 1⟩) (rcRn (rcPut (rcMv s (rcM s b)) ⟨q, q + 1⟩)) := by unfold RcS.rcv; rw [if_pos hE]
  have eL : rcRvL s b q (q + 1) = rcMo s (rcM s b) ++ rcMo (rcPut (rcMv s (rcM s b)) ⟨q, q + 1⟩) (rcRn (rcPut (rcMv s (rcM s b)) ⟨q, q + 1⟩)) := by unfold rcRvL; rw [if_pos hE]
  rw [eS, eL]
  have hw2 := rcMv_w (rcPut (rcMv s (rcM s b)) ⟨q, q + 1⟩) (rcRn (rcPut (rcMv s (rcM s b)) ⟨q, q + 1⟩))
  have hw1 := rcMv_w s (rcM s b)
  generalize rcMv s (rcM s b) = s1 at *
  generalize rcPut s1 ⟨q, q + 1⟩ = s2 at *
  generalize rcRn s2 = n at *
  refine ⟨hE, m1, by omega, by omega, by omega, fun i hi => ?_, ?_, fun k => ?_⟩
  · rcases List.mem_append.1 hi with hi | hi
    · have := g4 i hi; omega
    · have := m4 i hi; omega
  · rw [List.pairwise_append]
    refine ⟨g5, m5, fun a ha c hc => ?_⟩
    have := g4 a ha; have := m4 c hc; omega
  · have a1 : (k < (rcMv s2 n).nx ∨ ∃ x ∈ (rcMv s2 n).l, x.q = k) ↔ (k < s2.nx ∨ ∃ x ∈ s2.l, x.q = k) := by
      rw [m2]
      constructor
      · rintro (h1 | ⟨x, hx, rfl⟩)
        · rcases Int.lt_or_le k s2.nx with h2 | h2
          · exact .inl h2
          · obtain ⟨j, rfl⟩ : ∃ j : Nat, k = s2.nx + j := ⟨(k - s2.nx).toNat, by omega⟩
            exact .inr (r2 j (by omega))
        · exact .inr ⟨x, ((m3 x).1 hx).1, rfl⟩
      · rintro (h1 | ⟨x, hx, rfl⟩)
        · exact .inl (by omega)
        · rcases Int.lt_or_le x.q (s2.nx + n) with h2 | h2
          · exact .inl h2
          · exact .inr ⟨x, (m3 x).2 ⟨hx, h2⟩, rfl⟩
    rw [a1, p2, p4, g2]
    constructor
    · rintro (h1 | ⟨x, hx, rfl⟩ | rfl)
      · rcases (hM2 k).1 h1 with h2 | h2
        · exact .inl h2
        · exact .inr (.inl h2)
      · exact .inr (.inr (.inl ⟨x, ((g3 x).1 hx).1, rfl⟩))
      · exact .inr (.inr (.inr rfl))
    · rintro (h1 | h1 | ⟨x, hx, rfl⟩ | rfl)
      · exact .inl ((hM2 k).2 (.inl h1))
      · exact .inl ((hM2 k).2 (.inr h1))
      · rcases Int.lt_or_le x.q (s.nx + (rcM s b : Nat)) with h2 | h2
        · exact .inl h2
        · exact .inr (.inl ⟨x, (g3 x).2 ⟨hx, h2⟩, rfl⟩)
      · exact .inr (.inr rfl)
/-- What an acknowledgement says is what has come. -/
theorem RcAs.seen {s : RcS} (h : RcAs s 16) {L : List Int} (hL : ∀ k : Int, 0 ≤ k → k < 16 → ((k < s.nx ∨ ∃ x ∈ s.l, x.q = k) ↔ k ∈ L)) {k : Int} (k0 : 0 ≤ k) (k1 : k < 16) :
    (befB k (rcAk s.nx s.l).1 || hasB (rcAk s.nx s.l).1 (rcAk s.nx s.l).2 k) = L.any (fun y => y == k) := by
  have hn := h.nx
  have near : RcNear s.nx s.l := fun x hx => by
    have h1 := h.e x hx
    exact ins_is (both_yes (isNum_yes hn.1 (by omega)) (isNum_yes (by omega) (by omega))) (by rw [decide_eq_true_eq]; omega)
  rw [rcAk_base near, rcAk_has near, bef_plain ⟨k0, by omega⟩ (by omega), Bool.eq_iff_iff, Bool.or_eq_true, decide_eq_true_eq, List.any_eq_true, List.any_eq_true]
  constructor
  · intro h1
    refine ⟨k, (hL k k0 k1).1 (h1.imp id fun ⟨x, hx, e⟩ => ⟨x, hx, by simpa using e⟩), by simp⟩
  · rintro ⟨y, hy, e⟩
    have e2 : y = k := by simpa using e
    rw [e2] at hy
    exact ((hL k k0 k1).2 hy).imp id fun ⟨x, hx, e3⟩ => ⟨x, hx, by simpa using e3⟩
end Go.Proofs.Ythmncipenjhknaa

