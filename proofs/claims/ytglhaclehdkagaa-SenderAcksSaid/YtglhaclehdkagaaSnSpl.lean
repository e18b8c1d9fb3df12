/-
  Layer 16, plain: an acknowledgement splits the pending packets in two. No program is named.
-/
import Derived.Test.YtglhaclehdkagaaSnPlain
namespace Go.Proofs.Ytglhaclehdkagaa
set_option linter.unusedVariables false

theorem ak_split (s : SnS) (b m : Int) : ∃ p : SnE → Bool, snAkL s b m = (s.l.filter p).map (·.i) ∧ (s.ack b m).l = s.l.filter (fun x => !p x) := by
  cases h : snAkB s b
  · refine ⟨fun _ => false, ?_, ?_⟩
    · unfold snAkL; rw [h]; simp
    · unfold SnS.ack; rw [h]; exact (List.filter_eq_self.2 (fun _ _ => rfl)).symm
  · refine ⟨snGone b m, ?_, ?_⟩
    · unfold snAkL; rw [h]; simp
    · unfold SnS.ack; rw [h]; simp
def eqN (y x : SnE) : Bool := (y.q == x.q) && ((y.i == x.i) && (y.t == x.t))
theorem eqN_iff (y x : SnE) : eqN y x = true ↔ y = x := by
  obtain ⟨a, b, c⟩ := y
  obtain ⟨d, e, f⟩ := x
  unfold eqN
  simp
theorem any_next {α : Type} (f : α → Bool) (l : List α) {k : Nat} (hk : k < l.length) : (l.take (k + 1)).any f = ((l.take k).any f || f l[k]) := by
  rw [List.take_succ_eq_append_getElem hk, List.any_append]; simp
theorem any_kept (X : List SnE) (p : SnE → Bool) {x : SnE} (hx : x ∈ X) : (X.filter (fun x => !p x)).any (fun y => eqN y x) = !p x := by
  cases hp : p x
  · rw [Bool.not_false, List.any_eq_true]
    exact ⟨x, List.mem_filter.2 ⟨hx, by simp [hp]⟩, (eqN_iff x x).2 rfl⟩
  · rw [Bool.not_true]
    cases hA : (X.filter (fun x => !p x)).any (fun y => eqN y x)
    · rfl
    · obtain ⟨y, hy, he⟩ := List.any_eq_true.1 hA
      have := (eqN_iff y x).1 he
      subst this
      have h2 := (List.mem_filter.1 hy).2
      rw [hp] at h2; cases h2
theorem flt_at {α : Type} (X : List α) (p : α → Bool) {i : Nat} (hi : i < X.length) (hp : p X[i] = true) : ∃ h : ((X.take i).filter p).length < (X.filter p).length, (X.filter p)[((X.take i).filter p).length] = X[i] := by
  have e : X.filter p = (X.take i).filter p ++ X[i] :: (X.drop (i + 1)).filter p := by
    have h1 : X = X.take i ++ X[i] :: X.drop (i + 1) := by
      rw [← List.drop_eq_getElem_cons hi, List.take_append_drop]
    conv => lhs; rw [h1]
    rw [List.filter_append, List.filter_cons, if_pos hp]
  have hl : ((X.take i).filter p).length < (X.filter p).length := by rw [e, List.length_append, List.length_cons]; omega
  refine ⟨hl, ?_⟩
  have h2 : (X.filter p)[((X.take i).filter p).length]? = some X[i] := by
    rw [e, List.getElem?_append_right (Nat.le_refl _), Nat.sub_self]; rfl
  rw [List.getElem?_eq_getElem hl] at h2
  exact Option.some.inj h2
theorem flt_two {α : Type} (X : List α) (p : α → Bool) : (X.filter (fun x => !p x)).length + (X.filter p).length = X.length := by
  induction X with
  | nil => rfl
  | cons x X ih => cases h : p x <;> simp [h] <;> omega
end Go.Proofs.Ytglhaclehdkagaa

