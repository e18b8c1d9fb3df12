/-
  Layer 17, plain: the held packets as a map; what the program's calls keep (ascending from the expected number on, within the window); the list of numbers; what is passed. No program is named.
-/
import Derived.Test.YthmncipenjhknaaRcRef6
import Derived.Test.YthmncipenjhknaaMpJ
namespace Go.Proofs.Ythmncipenjhknaa
set_option linter.unusedVariables false

/-! ### the list as a map -/
def rcF : List RcE → Int → Option Value
  | [] => fun _ => none
  | x :: l => fun q => if x.q = q then some (.int .i64 x.i) else rcF l q
theorem rcK_cons (x : RcE) (l : List RcE) (q : Int) : rcK (x :: l) q = if x.q = q then 0 else rcK l q + 1 := by
  unfold rcK
  rw [List.findIdx_cons]
  by_cases h : x.q = q
  · simp [h]
  · have e : (x.q == q) = false := by simpa using h
    rw [if_neg h, e]; rfl
theorem rcTk_cons (x : RcE) (l : List RcE) (q : Int) : rcTk (x :: l) q = if x.q = q then x.i else rcTk l q := by
  unfold rcTk
  have hk := rcK_cons x l q
  by_cases h : x.q = q
  · rw [if_pos h] at hk ⊢
    rw [dif_pos (by rw [hk]; simp)]
    simp [hk]
  · rw [if_neg h] at hk ⊢
    by_cases h2 : rcK l q < l.length
    · rw [dif_pos h2, dif_pos (by rw [hk, List.length_cons]; omega)]
      simp [hk]
    · rw [dif_neg h2, dif_neg (by rw [hk, List.length_cons]; omega)]
theorem rcRm_cons (x : RcE) (l : List RcE) (q : Int) : rcRm (x :: l) q = if x.q = q then l else x :: rcRm l q := by
  unfold rcRm
  have hk := rcK_cons x l q
  by_cases h : x.q = q
  · rw [if_pos h] at hk ⊢
    rw [if_pos (by rw [hk]; simp), hk]; simp
  · rw [if_neg h] at hk ⊢
    by_cases h2 : rcK l q < l.length
    · rw [if_pos h2, if_pos (by rw [hk, List.length_cons]; omega), hk]; simp
    · rw [if_neg h2, if_neg (by rw [hk, List.length_cons]; omega)]
theorem rcF_get (l : List RcE) (q : Int) : (rcF l q).getD (.int .i64 0) = .int .i64 (rcTk l q) := by
  induction l with
  | nil => simp [rcF, rcTk, rcK]
  | cons x l ih =>
    rw [rcTk_cons]
    show (if x.q = q then some (.int .i64 x.i) else rcF l q).getD (.int .i64 0) = _
    by_cases h : x.q = q
    · rw [if_pos h, if_pos h]; rfl
    · rw [if_neg h, if_neg h]; exact ih
theorem rcF_none {l : List RcE} {q : Int} (h : ∀ x ∈ l, x.q ≠ q) : rcF l q = none := by
  induction l with
  | nil => rfl
  | cons x l ih =>
    show (if x.q = q then some (.int .i64 x.i) else rcF l q) = none
    rw [if_neg (h x (by simp))]
    exact ih fun y hy => h y (by simp [hy])
theorem rcF_rm {l : List RcE} (h : l.Pairwise (fun x y => x.q ≠ y.q)) (q : Int) : jset (rcF l) q none = rcF (rcRm l q) := by
  induction l with
  | nil => funext k; simp [jset, rcF, rcRm, rcK]
  | cons x l ih =>
    obtain ⟨h1, h2⟩ := List.pairwise_cons.1 h
    rw [rcRm_cons]
    by_cases hq : x.q = q
    · rw [if_pos hq]
      funext k
      by_cases hk : k = q
      · subst hk; rw [jset_at]; exact (rcF_none fun y hy => by rw [← hq]; exact (h1 y hy).symm).symm
      · rw [jset_ne _ _ hk]
        show (if x.q = k then some (.int .i64 x.i) else rcF l k) = rcF l k
        rw [if_neg (by rw [hq]; exact fun e => hk e.symm)]
    · rw [if_neg hq]
      have ih2 := ih h2
      funext k
      show _ = (if x.q = k then some (.int .i64 x.i) else rcF (rcRm l q) k)
      rw [← ih2]
      by_cases hk : k = q
      · subst hk; rw [jset_at, jset_at, if_neg hq]
      · rw [jset_ne _ _ hk, jset_ne _ _ hk]; rfl
theorem rcF_in {l m : List RcE} {x : RcE} (h : ∀ y ∈ l, y.q ≠ x.q) : rcF (l ++ x :: m) = jset (rcF (l ++ m)) x.q (some (.int .i64 x.i)) := by
  induction l with
  | nil =>
    funext k
    show (if x.q = k then some (.int .i64 x.i) else rcF m k) = _
    by_cases hk : k = x.q
    · subst hk; rw [jset_at, if_pos rfl]
    · rw [jset_ne _ _ hk, if_neg (fun e => hk e.symm)]; rfl
  | cons y l ih =>
    have ih2 := ih fun z hz => h z (by simp [hz])
    funext k
    show (if y.q = k then some (.int .i64 y.i) else rcF (l ++ x :: m) k) = _
    rw [ih2]
    by_cases hk : k = x.q
    · subst hk; rw [jset_at, jset_at, if_neg (h y (by simp))]
    · rw [jset_ne _ _ hk, jset_ne _ _ hk]; rfl
/-! ### what the program's calls keep -/
structure RcIv (s : RcS) : Prop where
  ok : RcOk s
  p : s.l.Pairwise (fun x y => dOf s.nx x.q < dOf s.nx y.q)
  e : ∀ x ∈ s.l, (dOf s.nx x.q : Int) < s.w
theorem RcIv.new {w : Int} (h : rcB w = true) : RcIv (RcS.new w) := ⟨RcOk.new h, List.Pairwise.nil, by intro x hx; cases hx⟩
theorem RcIv.sub {s : RcS} (h : RcIv s) {l : List RcE} (hl : l.Sublist s.l) : RcIv { s with l := l } :=
  ⟨⟨h.ok.w, h.ok.nx, fun x hx => h.ok.e x (hl.subset hx)⟩, h.p.sublist hl, fun x hx => h.e x (hl.subset hx)⟩
theorem RcIv.nd {s : RcS} (h : RcIv s) : s.l.Pairwise (fun x y => x.q ≠ y.q) := h.p.imp fun {x y} hxy e => by rw [e] at hxy; omega
theorem RcIv.w {s : RcS} (h : RcIv s) : 1 ≤ s.w ∧ s.w ≤ 64 := rcB_yes h.ok.w
theorem rcRm_sub (l : List RcE) (q : Int) : (rcRm l q).Sublist l := by
  unfold rcRm
  split
  · rw [← List.eraseIdx_eq_take_drop_succ]; exact List.eraseIdx_sublist _ _
  · exact List.Sublist.refl _
theorem RcIv.rm {s : RcS} (h : RcIv s) (q : Int) : RcIv { s with l := rcRm s.l q } := h.sub (rcRm_sub _ _)
/-- At an element's number its id lies. -/
theorem RcIv.at_ {s : RcS} (h : RcIv s) {k : Nat} (hk : k < s.l.length) : rcTk s.l s.l[k].q = s.l[k].i ∧ rcRm s.l s.l[k].q = s.l.take k ++ s.l.drop (k + 1) :=
  tk_is hk rfl fun j hj hjk e => (List.pairwise_iff_getElem.1 h.nd j k hj hk hjk) e
/-- The first p elements are those less than k steps from the expected number. -/
structure RcCut (s : RcS) (k p : Nat) : Prop where
  le : p ≤ s.l.length
  a : ∀ j (h : j < s.l.length), j < p → dOf s.nx s.l[j].q < k
  b : ∀ j (h : j < s.l.length), p ≤ j → k ≤ dOf s.nx s.l[j].q
theorem RcCut.zero (s : RcS) : RcCut s 0 0 := ⟨Nat.zero_le _, fun j h hj => by omega, fun j h hj => Nat.zero_le _⟩
theorem dOf_num {nx q : Int} {k : Nat} (hq : 0 ≤ q ∧ q < 65536) (hk : k < 65536) : dOf nx q = k ↔ q = (nx + k) % 65536 := by
  have := dOf_is nx q
  constructor
  · intro e; rw [e] at this; omega
  · intro e
    have h2 := dOf_lt nx q
    omega
theorem RcCut.next {s : RcS} (h : RcIv s) {k p : Nat} (hc : RcCut s k p) (hk : k < 65536) :
    (∃ hp : p < s.l.length, s.l[p].q = (s.nx + k) % 65536 ∧ RcCut s (k + 1) (p + 1)) ∨ ((∀ x ∈ s.l, x.q ≠ (s.nx + k) % 65536) ∧ RcCut s (k + 1) p) := by
  have hpw := List.pairwise_iff_getElem.1 h.p
  by_cases hx : ∃ hp : p < s.l.length, dOf s.nx s.l[p].q = k
  · obtain ⟨hp, hd⟩ := hx
    refine .inl ⟨hp, (dOf_num (h.ok.e _ (List.getElem_mem hp)).1 hk).1 hd, by omega, fun j hj hjp => ?_, fun j hj hjp => ?_⟩
    · rcases Nat.lt_or_ge j p with h1 | h1
      · have := hc.a j hj h1; omega
      · obtain rfl : j = p := by omega
        omega
    · have := hpw p j hp hj (by omega); omega
  · have hne : ∀ j (hj : j < s.l.length), p ≤ j → k + 1 ≤ dOf s.nx s.l[j].q := fun j hj hjp => by
      have h1 := hc.b j hj hjp
      have h2 : p < s.l.length := by omega
      have h3 : dOf s.nx s.l[p].q ≠ k := fun e => hx ⟨h2, e⟩
      have h4 := hc.b p h2 (Nat.le_refl _)
      rcases Nat.lt_or_ge p j with h5 | h5
      · have := hpw p j h2 hj h5; omega
      · obtain rfl : j = p := by omega
        omega
    refine .inr ⟨fun x hxm e => ?_, hc.le, fun j hj hjp => by have := hc.a j hj hjp; omega, hne⟩
    obtain ⟨j, hj, rfl⟩ := List.getElem_of_mem hxm
    have hd := (dOf_num (h.ok.e _ (List.getElem_mem hj)).1 hk).2 e
    rcases Nat.lt_or_ge j p with h1 | h1
    · have := hc.a j hj h1; omega
    · have := hne j hj h1; omega
theorem RcCut.full {s : RcS} (h : RcIv s) {k p : Nat} (hc : RcCut s k p) (hk : s.w ≤ k) : p = s.l.length := by
  have h1 := hc.le
  rcases Nat.lt_or_ge p s.l.length with h2 | h2
  · have h3 := hc.b p h2 (Nat.le_refl _)
    have h4 := h.e _ (List.getElem_mem h2)
    omega
  · omega
/-! ### the list of numbers -/
def nuK (s : RcS) : Nat → List Int
  | 0 => []
  | k + 1 => nuK s k ++ (if rcTk s.l ((s.nx + k) % 65536) = 0 then [] else [(s.nx + k) % 65536])
theorem rcTk_no {l : List RcE} {q : Int} (h : ∀ x ∈ l, x.q ≠ q) : rcTk l q = 0 ∧ rcRm l q = l := tk_none fun j hj => h _ (List.getElem_mem hj)
theorem nu_cut {s : RcS} (h : RcIv s) : ∀ k : Nat, k ≤ 65536 → ∃ p, RcCut s k p ∧ nuK s k = (s.l.take p).map (·.q)
  | 0, _ => ⟨0, RcCut.zero s, rfl⟩
  | k + 1, hk => by
    obtain ⟨p, hc, e⟩ := nu_cut h k (by omega)
    unfold nuK
    rcases hc.next h (by omega) with ⟨hp, hq, hc2⟩ | ⟨hno, hc2⟩
    · refine ⟨p + 1, hc2, ?_⟩
      have h1 := (h.at_ hp).1
      rw [hq] at h1
      have h2 := (h.ok.e _ (List.getElem_mem hp)).2
      rw [if_neg (by rw [h1]; omega), e, List.take_succ_eq_append_getElem hp, List.map_append, List.map_singleton, hq]
    · exact ⟨p, hc2, by rw [if_pos (rcTk_no hno).1, e, List.append_nil]⟩
theorem nu_all {s : RcS} (h : RcIv s) : nuK s s.w.toNat = s.l.map (·.q) := by
  have hw := h.w
  obtain ⟨p, hc, e⟩ := nu_cut h s.w.toNat (by omega)
  rw [e, hc.full h (by omega), List.take_length]
theorem nuK_len (s : RcS) (k : Nat) : (nuK s k).length ≤ k := by
  induction k with
  | zero => exact Nat.le_refl _
  | succ k ih =>
    unfold nuK
    rw [List.length_append]
    split <;> simp <;> omega
theorem RcIv.len {s : RcS} (h : RcIv s) : s.l.length ≤ 64 := by
  have h1 := nuK_len s s.w.toNat
  have hw := h.w
  rw [nu_all h, List.length_map] at h1
  omega
/-! ### what is passed -/
theorem rcMv_cut {s : RcS} (h : RcIv s) : ∀ k : Nat, k ≤ 65536 → ∃ p, RcCut s k p ∧ (rcMv s k).l = s.l.drop p ∧ rcMo s k = (s.l.take p).map (·.i)
  | 0, _ => ⟨0, RcCut.zero s, rfl, rfl⟩
  | k + 1, hk => by
    obtain ⟨p, hc, e1, e2⟩ := rcMv_cut h k (by omega)
    have hn := rcMv_nx h.ok.nx k
    have eS : (rcMv s (k + 1)).l = rcRm (rcMv s k).l (rcMv s k).nx := rfl
    have eO : rcMo s (k + 1) = rcMo s k ++ (if 0 < rcTk (rcMv s k).l (rcMv s k).nx then [rcTk (rcMv s k).l (rcMv s k).nx] else []) := rfl
    rw [eS, eO, e1, hn, e2]
    rcases hc.next h (by omega) with ⟨hp, hq, hc2⟩ | ⟨hno, hc2⟩
    · refine ⟨p + 1, hc2, ?_, ?_⟩
      · rw [List.drop_eq_getElem_cons hp, rcRm_cons, if_pos hq]
      · have h2 := (h.ok.e _ (List.getElem_mem hp)).2
        rw [List.drop_eq_getElem_cons hp, rcTk_cons, if_pos hq, if_pos (by omega), List.take_succ_eq_append_getElem hp, List.map_append, List.map_singleton]
    · have h1 := rcTk_no (l := s.l.drop p) (q := (s.nx + k) % 65536) fun x hx => hno x (List.mem_of_mem_drop hx)
      exact ⟨p, hc2, by rw [h1.2], by rw [h1.1, if_neg (by omega), List.append_nil]⟩
theorem RcIv.mv {s : RcS} (h : RcIv s) {k : Nat} (hk : k ≤ 65536) : RcIv (rcMv s k) := by
  obtain ⟨p, hc, e1, _⟩ := rcMv_cut h k hk
  have hn := rcMv_nx h.ok.nx k
  have hd : ∀ x ∈ s.l.drop p, dOf (rcMv s k).nx x.q = dOf s.nx x.q - k ∧ k ≤ dOf s.nx x.q := fun x hx => by
    obtain ⟨j, hj, rfl⟩ := List.getElem_of_mem hx
    rw [List.getElem_drop]
    rw [List.length_drop] at hj
    have h1 := hc.b (p + j) (by omega) (by omega)
    have h2 := dOf_is s.nx s.l[p + j].q
    have h3 := dOf_lt s.nx s.l[p + j].q
    have h4 := dOf_is (rcMv s k).nx s.l[p + j].q
    have h5 := dOf_lt (rcMv s k).nx s.l[p + j].q
    rw [hn] at h4 h5 ⊢
    omega
  refine ⟨h.ok.mv k, ?_, ?_⟩
  · rw [e1]
    refine (h.p.sublist (List.drop_sublist p s.l)).imp_of_mem fun {x y} hx hy hxy => ?_
    have h1 := hd x hx
    have h2 := hd y hy
    omega
  · rw [e1, rcMv_w]
    intro x hx
    have h1 := hd x hx
    have h2 := h.e x (List.mem_of_mem_drop hx)
    omega
theorem RcIv.st {s : RcS} (h : RcIv s) : RcIv (rcSt s) := h.mv (k := 1) (by omega)
/-- Which numbers are before the base. -/
theorem RcCut.bef {s : RcS} (h : RcIv s) {b : Int} {p : Nat} (hb : befB s.nx b = true) (hc : RcCut s (rcM s b) p) {j : Nat} (hj : j < s.l.length) : befB s.l[j].q b = decide (j < p) := by
  have hbo : both s.nx b = true := by
    cases e : both s.nx b
    · rw [bef_no e] at hb; cases hb
    · rfl
  have hm : rcM s b = ((b - s.nx) % 65536).toNat := by unfold rcM; rw [if_pos hb, (ds_yes hbo).1]
  have hbd := (both_bd hbo).2
  have hd : 1 ≤ (b - s.nx) % 65536 ∧ (b - s.nx) % 65536 ≤ 32767 := by
    unfold befB at hb
    rw [hbo] at hb
    simpa using hb
  have hq := (h.ok.e _ (List.getElem_mem hj)).1
  have hw := h.w
  have he := h.e _ (List.getElem_mem hj)
  have h2 := dOf_is s.nx s.l[j].q
  refine bef_is (both_yes (isNum_yes hq.1 hq.2) (isNum_yes hbd.1 hbd.2)) ?_
  apply decide_eq_decide.2
  rcases Nat.lt_or_ge j p with h1 | h1
  · have := hc.a j hj h1
    omega
  · have := hc.b j hj h1
    omega
/-- The base is passed in one step. -/
theorem rc_pass {s : RcS} (h : RcIv s) {b : Int} (hb : befB s.nx b = true) : ∃ p, p ≤ s.l.length ∧ (∀ j (hj : j < s.l.length), befB s.l[j].q b = decide (j < p)) ∧ rcMv s (rcM s b) = ⟨s.w, b, s.l.drop p⟩ ∧ rcMo s (rcM s b) = (s.l.take p).map (·.i) := by
  have hM := rcM_le (s := s) (b := b)
  obtain ⟨p, hc, e1, e2⟩ := rcMv_cut h (rcM s b) hM
  refine ⟨p, hc.le, fun j hj => hc.bef h hb hj, ?_, e2⟩
  have hbo : both s.nx b = true := by
    cases e : both s.nx b
    · rw [bef_no e] at hb; cases hb
    · rfl
  have hm : rcM s b = ((b - s.nx) % 65536).toNat := by unfold rcM; rw [if_pos hb, (ds_yes hbo).1]
  have hbd := (both_bd hbo).2
  have hn := rcMv_nx h.ok.nx (rcM s b)
  have hw := rcMv_w s (rcM s b)
  have hn2 : (rcMv s (rcM s b)).nx = b := by rw [hn, hm]; have := h.ok.nx; omega
  cases hs : rcMv s (rcM s b)
  rw [hs] at e1 hn2 hw
  simp only at e1 hn2 hw
  rw [e1, hn2, hw]
theorem rcM_zero {s : RcS} {b : Int} (hb : befB s.nx b = false) : rcM s b = 0 := by unfold rcM; rw [hb]; rfl
/-! ### one packet more -/
theorem rcIx_pre {s : RcS} (h : RcIv s) {q : Int} (hq : 0 ≤ q ∧ q < 65536) (hn : ∀ x ∈ s.l, x.q ≠ q) : RcCut s (dOf s.nx q) (rcIx s q) := by
  have hD : ∀ x : Int, 0 ≤ x ∧ x < 65536 → dsV s.nx x = dOf s.nx x := fun x hx => by
    rw [(ds_yes (both_yes (isNum_yes h.ok.nx.1 h.ok.nx.2) (isNum_yes hx.1 hx.2))).1, dOf_is]
  have hpw := List.pairwise_iff_getElem.1 h.p
  have hne : ∀ j (hj : j < s.l.length), dOf s.nx s.l[j].q ≠ dOf s.nx q := fun j hj e => by
    have hx := (h.ok.e _ (List.getElem_mem hj)).1
    have h1 := dOf_is s.nx s.l[j].q
    have h2 := dOf_is s.nx q
    exact hn _ (List.getElem_mem hj) (by omega)
  have hlt : ∀ j (hj : j < s.l.length), j < rcIx s q → dOf s.nx s.l[j].q < dOf s.nx q := fun j hj hji => by
    have h1 := List.not_of_lt_findIdx (p := fun (x : RcE) => decide (dsV s.nx q < dsV s.nx x.q)) (xs := s.l) hji
    have h2 := hne j hj
    have h3 : ¬ (dsV s.nx q < dsV s.nx s.l[j].q) := of_decide_eq_false h1
    rw [hD q hq, hD _ (h.ok.e _ (List.getElem_mem hj)).1] at h3
    omega
  refine ⟨rcIx_le s q, hlt, fun j hj hji => ?_⟩
  have h5 : rcIx s q < s.l.length := by omega
  have h4 := List.findIdx_getElem (p := fun (x : RcE) => decide (dsV s.nx q < dsV s.nx x.q)) (xs := s.l) (w := h5)
  have h6 : dsV s.nx q < dsV s.nx (s.l[rcIx s q]'h5).q := of_decide_eq_true h4
  rw [hD q hq, hD _ (h.ok.e _ (List.getElem_mem h5)).1] at h6
  have h7 : dOf s.nx q < dOf s.nx (s.l[rcIx s q]'h5).q := by exact_mod_cast h6
  rcases Nat.lt_or_ge (rcIx s q) j with h8 | h8
  · have := hpw _ j h5 hj h8; omega
  · obtain rfl : j = rcIx s q := by omega
    omega
theorem rcThere_no {s : RcS} {q : Int} (h : rcThere s q = false) : befB q s.nx = false ∧ ∀ x ∈ s.l, x.q ≠ q := by
  unfold rcThere at h
  rw [Bool.or_eq_false_iff, decide_eq_false_iff_not] at h
  refine ⟨h.1, fun x hx e => h.2 ?_⟩
  obtain ⟨j, hj, rfl⟩ := List.getElem_of_mem hx
  rcases Nat.lt_or_ge (rcK s.l q) s.l.length with h1 | h1
  · exact h1
  · exact absurd e (rcK_ne (by omega) hj)
theorem RcIv.in_ {s : RcS} (h : RcIv s) {x : RcE} (hx : (0 ≤ x.q ∧ x.q < 65536) ∧ 1 ≤ x.i) (hn : ∀ y ∈ s.l, y.q ≠ x.q) (hd : (dOf s.nx x.q : Int) < s.w) : RcIv (rcIn s x) := by
  have hc := rcIx_pre h hx.1 hn
  refine ⟨h.ok.in_ hx, ?_, fun y hy => ?_⟩
  · show (s.l.take (rcIx s x.q) ++ x :: s.l.drop (rcIx s x.q)).Pairwise _
    rw [List.pairwise_append]
    refine ⟨h.p.sublist (List.take_sublist _ _), List.pairwise_cons.2 ⟨fun y hy => ?_, h.p.sublist (List.drop_sublist _ _)⟩, fun y hy z hz => ?_⟩
    · obtain ⟨j, hj, rfl⟩ := List.getElem_of_mem hy
      rw [List.length_drop] at hj
      rw [List.getElem_drop]
      have h1 := hc.b (rcIx s x.q + j) (by omega) (by omega)
      have h2 : dOf s.nx s.l[rcIx s x.q + j].q ≠ dOf s.nx x.q := fun e => by
        have h3 := (h.ok.e _ (List.getElem_mem (show rcIx s x.q + j < s.l.length by omega))).1
        have h4 := dOf_is s.nx s.l[rcIx s x.q + j].q
        have h5 := dOf_is s.nx x.q
        exact hn _ (List.getElem_mem (show rcIx s x.q + j < s.l.length by omega)) (by omega)
      show dOf s.nx x.q < dOf s.nx s.l[rcIx s x.q + j].q
      omega
    · obtain ⟨j, hj, rfl⟩ := List.getElem_of_mem hy
      rw [List.length_take] at hj
      rw [List.getElem_take]
      have h1 := hc.a j (by omega) (by omega)
      rw [List.mem_cons] at hz
      rcases hz with rfl | hz
      · exact h1
      · obtain ⟨i, hi, rfl⟩ := List.getElem_of_mem hz
        rw [List.length_drop] at hi
        rw [List.getElem_drop]
        have h2 := hc.b (rcIx s x.q + i) (by omega) (by omega)
        show dOf s.nx s.l[j].q < dOf s.nx s.l[rcIx s x.q + i].q
        omega
  · simp only [rcIn, List.mem_append, List.mem_cons] at hy
    rcases hy with hy | rfl | hy
    · exact h.e y (List.mem_of_mem_take hy)
    · exact hd
    · exact h.e y (List.mem_of_mem_drop hy)
theorem rcF_put {s : RcS} {x : RcE} (hn : ∀ y ∈ s.l, y.q ≠ x.q) : rcF (rcIn s x).l = jset (rcF s.l) x.q (some (.int .i64 x.i)) := by
  have h := rcF_in (l := s.l.take (rcIx s x.q)) (m := s.l.drop (rcIx s x.q)) (x := x) fun y hy => hn y (List.mem_of_mem_take hy)
  rw [List.take_append_drop] at h
  exact h
/-- A number inside the window of the base is before the expected number or inside its window. -/
theorem rc_near {w b nx q : Int} (hw : 1 ≤ w ∧ w ≤ 64) (hi : insB b w q = true) (hn : 0 ≤ nx ∧ nx < 65536) (hg : (nx - b) % 65536 ≤ w) (hbf : befB q nx = false) : (dOf nx q : Int) < w := by
  have hbo : both b q = true := by
    cases e : both b q
    · rw [ins_no e] at hi; cases hi
    · rfl
  obtain ⟨h1, h2⟩ := both_bd hbo
  unfold insB at hi
  rw [hbo] at hi
  simp at hi
  unfold befB at hbf
  rw [both_yes (isNum_yes h2.1 h2.2) (isNum_yes hn.1 hn.2)] at hbf
  simp at hbf
  have h3 := dOf_is nx q
  omega
end Go.Proofs.Ythmncipenjhknaa

