/-
  Layer 16, plain: pending packets are inside the window, in order. No program is named.
-/
import Derived.Test.YtglhaclehdkagaaSnPlain
namespace Go.Proofs.Ytglhaclehdkagaa
set_option linter.unusedVariables false

/-- nxt: the next number; c: a bound above all ids. -/
structure SnWin (wI : Int) (s : SnS) (nxt c : Int) : Prop where
  w : s.w = wI
  n : s.nx = nxt
  r : 0 ≤ nxt ∧ nxt < c ∧ c ≤ 60
  l : s.l.Pairwise (fun x y => x.q < y.q ∧ x.i < y.i)
  e : ∀ x ∈ s.l, 0 ≤ x.q ∧ x.q < nxt ∧ x.i < c
  b : nxt - snBase s ≤ wI ∧ 0 ≤ snBase s ∧ snBase s ≤ nxt
theorem SnWin.new {wI : Int} (h : 1 ≤ wI) : SnWin wI (SnS.new wI 2) 0 1 := by
  refine ⟨rfl, rfl, by omega, List.Pairwise.nil, (fun x hx => by cases hx), ?_⟩
  show (0 : Int) - 0 ≤ wI ∧ (0 : Int) ≤ 0 ∧ (0 : Int) ≤ 0
  omega
theorem SnWin.more {wI nxt c : Int} {s : SnS} (h : SnWin wI s nxt c) (hc : c + 1 ≤ 60) : SnWin wI s nxt (c + 1) :=
  ⟨h.w, h.n, by have := h.r; omega, h.l, fun x hx => by have := h.e x hx; omega, h.b⟩
theorem SnWin.sub {wI nxt c : Int} {s : SnS} (h : SnWin wI s nxt c) {l : List SnE} (hl : l.Sublist s.l) : SnWin wI { s with l := l } nxt c := by
  have hm : ∀ x ∈ l, x ∈ s.l := fun x hx => hl.subset hx
  refine ⟨h.w, h.n, h.r, h.l.sublist hl, fun x hx => h.e x (hm x hx), ?_⟩
  have hb := h.b
  have hn := h.n
  have hr := h.r
  cases l with
  | nil => show nxt - s.nx ≤ wI ∧ 0 ≤ s.nx ∧ s.nx ≤ nxt; omega
  | cons y m =>
    show nxt - y.q ≤ wI ∧ 0 ≤ y.q ∧ y.q ≤ nxt
    have hy := h.e y (hm y (by simp))
    have hbase : snBase s ≤ y.q := by
      have hmem := hm y (by simp)
      unfold snBase
      have hp := h.l
      cases hs : s.l with
      | nil => rw [hs] at hmem; cases hmem
      | cons z k =>
        rw [hs] at hmem hp
        rcases List.mem_cons.1 hmem with rfl | h2
        · exact Int.le_refl _
        · exact Int.le_of_lt ((List.pairwise_cons.1 hp).1 y h2).1
    omega
theorem SnWin.ack {wI nxt c : Int} {s : SnS} (h : SnWin wI s nxt c) (b m : Int) : SnWin wI (s.ack b m) nxt c := by
  unfold SnS.ack
  split
  · exact h.sub List.filter_sublist
  · exact h
theorem snCut_sub (l : List SnE) (k : Nat) : (snCut l k).Sublist l := by
  unfold snCut
  rw [← List.eraseIdx_eq_take_drop_succ]
  exact List.eraseIdx_sublist _ _
theorem SnWin.drp {wI nxt c : Int} {s : SnS} (h : SnWin wI s nxt c) (q : Int) : SnWin wI (s.drp q) nxt c := by
  unfold SnS.drp
  split
  · exact h.sub (snCut_sub _ _)
  · exact h
theorem SnWin.dist {wI nxt c : Int} {s : SnS} (h : SnWin wI s nxt c) : snD s = nxt - snBase s := by
  have h1 := h.b
  have h2 := h.n
  have h3 := h.r
  unfold snD
  rw [(ds_yes (both_yes (isNum_yes (by omega) (by omega)) (isNum_yes (by omega) (by omega)))).1]
  omega
/-- What Assign answers, and what it leaves. -/
theorem SnWin.asg {wI nxt c : Int} {s : SnS} (h : SnWin wI s nxt c) (hc : 1 ≤ c) (hc2 : c + 1 ≤ 60) :
    (snAsE s c = 4 ∧ snAsV s c = 0 ∧ s.asg c = s ∧ snOpen s = false) ∨ (snAsE s c = 0 ∧ snAsV s c = nxt ∧ SnWin wI (s.asg c) (nxt + 1) (c + 1)) := by
  have hd := h.dist
  cases ho : snOpen s
  · have hE : snAsE s c = 4 := by unfold snAsE; rw [if_neg (by omega), ho]; rfl
    exact .inl ⟨hE, by unfold snAsV; rw [hE]; rfl, by unfold SnS.asg; rw [if_neg (by rw [hE]; decide)], rfl⟩
  · have hE : snAsE s c = 0 := by unfold snAsE; rw [if_neg (by omega), ho]; rfl
    have hA : s.asg c = { s with nx := (s.nx + 1) % 65536, l := s.l ++ [⟨s.nx, c, 0⟩] } := by unfold SnS.asg; rw [if_pos hE]
    have hn := h.n
    have hr := h.r
    have hb := h.b
    have hw := h.w
    have hroom : nxt - snBase s < wI := by
      unfold snOpen at ho
      rw [decide_eq_true_eq, hd, hw] at ho
      omega
    refine .inr ⟨hE, by unfold snAsV; rw [if_pos hE, hn], ?_⟩
    rw [hA]
    refine ⟨hw, by show (s.nx + 1) % 65536 = nxt + 1; omega, by omega, ?_, ?_, ?_⟩
    · rw [List.pairwise_append]
      refine ⟨h.l, List.pairwise_singleton _ _, fun x hx y hy => ?_⟩
      rw [List.mem_singleton] at hy
      subst hy
      have := h.e x hx
      simp only; omega
    · intro x hx
      rw [List.mem_append, List.mem_singleton] at hx
      rcases hx with hx | rfl
      · have := h.e x hx; omega
      · simp only; omega
    · have hbase : snBase { s with nx := (s.nx + 1) % 65536, l := s.l ++ [⟨s.nx, c, 0⟩] } = snBase s := by
        unfold snBase
        cases hs : s.l with
        | nil => simp
        | cons z k => simp
      rw [hbase]; omega
theorem SnWin.at_ {wI nxt c : Int} {s : SnS} (h : SnWin wI s nxt c) {k : Nat} (hk : k < s.l.length) : 0 ≤ s.l[k].q ∧ s.l[k].q - snBase s < wI ∧ s.l[k].q < nxt := by
  have h1 := h.e _ (List.getElem_mem hk)
  have h2 := h.b
  omega
theorem SnWin.up {wI nxt c : Int} {s : SnS} (h : SnWin wI s nxt c) {k p : Nat} (hk : k < s.l.length) (hp : p < k) : s.l[p].q < s.l[k].q ∧ s.l[p].i < s.l[k].i := List.pairwise_iff_getElem.1 h.l p k (by omega) hk hp
theorem SnWin.len {wI nxt c : Int} {s : SnS} (h : SnWin wI s nxt c) : s.l.length ≤ 60 := by
  have h1 := h.r
  have key : ∀ k (hk : k < s.l.length), (k : Int) ≤ s.l[k].q := by
    intro k
    induction k with
    | zero => intro hk; have := h.e _ (List.getElem_mem hk); simp; omega
    | succ k ih =>
      intro hk
      have h2 := ih (by omega)
      have h3 := (h.up hk (Nat.lt_succ_self k)).1
      push_cast; omega
  rcases Nat.eq_zero_or_pos s.l.length with h0 | h0
  · omega
  · have h2 := key (s.l.length - 1) (by omega)
    have h3 := (h.at_ (k := s.l.length - 1) (by omega)).2.2
    omega
end Go.Proofs.Ytglhaclehdkagaa

