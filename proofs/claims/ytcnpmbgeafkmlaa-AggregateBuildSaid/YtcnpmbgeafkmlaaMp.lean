/-
  A region of any order in which several operations (the pivots, in a forced order) turn the objects, one after the other, and all others read or make memory of their own: the state for the law LooseS. Env k pv w: the objects once k pivots have come up, pv j the j-th pivot's value. No program is named.
-/
import Derived.Test.YtcnpmbgeafkmlaaLoose
import Derived.Test.YtcnpmbgeafkmlaaWhl
namespace Go.Proofs.Ytcnpmbgeafkmlaa
open Go.ChangeShapes Go.WideShapes Go.ChangeAt Go.RowKit
set_option linter.unusedVariables false

def cntP : List Nat → (Nat → Bool) → Nat
  | [], _ => 0
  | p :: ps, L => (if L p = true then 1 else 0) + cntP ps L
theorem cntP_ne {piv : List Nat} {L : Nat → Bool} {i : Nat} (hi : i ∉ piv) : cntP piv (setL L i) = cntP piv L := by
  induction piv with
  | nil => rfl
  | cons p ps ih =>
    simp only [List.mem_cons, not_or] at hi
    unfold cntP
    rw [setL_ne (fun e => hi.1 e.symm), ih hi.2]
theorem cntP_in {piv : List Nat} {L : Nat → Bool} {i : Nat} (hi : i ∈ piv) (hnd : piv.Nodup) (hl : L i = false) : cntP piv (setL L i) = cntP piv L + 1 := by
  induction piv with
  | nil => cases hi
  | cons p ps ih =>
    obtain ⟨h1, h2⟩ := List.nodup_cons.1 hnd
    unfold cntP
    by_cases e : p = i
    · subst e
      rw [setL_at, hl, cntP_ne h1]; simp; omega
    · rw [setL_ne e, ih (by simpa [Ne.symm e] using hi) h2]; omega
def pvP (piv : List Nat) (vals : Nat → Value) : Nat → Value := fun j => vals (piv.getD j 1000000)
theorem pvP_ne {piv : List Nat} {vals : Nat → Value} {i : Nat} {x : Value} (hi : i ∉ piv) (hb : i < 1000000) : pvP piv (setV vals i x) = pvP piv vals := by
  funext j
  unfold pvP
  refine setV_ne fun e => ?_
  rw [List.getD_eq_getElem?_getD] at e
  cases h : piv[j]? with
  | none => rw [h] at e; simp at e; omega
  | some y => rw [h] at e; simp at e; subst e; exact hi (List.mem_of_getElem? h)
theorem pvP_turn {piv : List Nat} {vals : Nat → Value} {k i : Nat} {x : Value} (hk : piv[k]? = some i) (hnd : piv.Nodup) (hb : i < 1000000) : pvP piv (setV vals i x) k = x ∧ ∀ j, j ≠ k → pvP piv (setV vals i x) j = pvP piv vals j := by
  unfold pvP
  refine ⟨by rw [List.getD_eq_getElem?_getD, hk]; exact setV_at _ _ _, fun j hj => setV_ne fun e => ?_⟩
  rw [List.getD_eq_getElem?_getD] at e
  cases h : piv[j]? with
  | none => rw [h] at e; simp at e; omega
  | some y =>
    rw [h] at e; simp at e; subst e
    obtain ⟨h1, h2⟩ := List.getElem?_eq_some_iff.1 h
    obtain ⟨h3, h4⟩ := List.getElem?_eq_some_iff.1 hk
    exact hj ((List.getElem_inj hnd).1 (h2.trans h4.symm))
theorem pvP0 (a : Nat) (l : List Nat) (vals : Nat → Value) : pvP (a :: l) vals 0 = vals a := rfl
theorem pvP1 (a b : Nat) (l : List Nat) (vals : Nat → Value) : pvP (a :: b :: l) vals 1 = vals b := rfl
theorem pvP2 (a b c : Nat) (l : List Nat) (vals : Nat → Value) : pvP (a :: b :: c :: l) vals 2 = vals c := rfl
theorem pvP3 (a b c d : Nat) (l : List Nat) (vals : Nat → Value) : pvP (a :: b :: c :: d :: l) vals 3 = vals d := rfl
theorem pvP4 (a b c d e : Nat) (l : List Nat) (vals : Nat → Value) : pvP (a :: b :: c :: d :: e :: l) vals 4 = vals e := rfl
theorem pvP5 (a b c d e f : Nat) (l : List Nat) (vals : Nat → Value) : pvP (a :: b :: c :: d :: e :: f :: l) vals 5 = vals f := rfl
structure MpC (piv : List Nat) (Env : Nat → (Nat → Value) → World → Prop) (VT : Nat → Value → Prop) (L : Nat → Bool) (vals : Nat → Value) (w : World) : Prop where
  v : ∀ i, L i = true → i ∉ piv → VT i (vals i)
  e : Env (cntP piv L) (pvP piv vals) w
section
variable {piv : List Nat} {Env : Nat → (Nat → Value) → World → Prop} {VT : Nat → Value → Prop} {L : Nat → Bool} {vals : Nat → Value} {w w' : World}
theorem cntP_none (piv : List Nat) : cntP piv (fun _ => false) = 0 := by
  induction piv with
  | nil => rfl
  | cons p ps ih => unfold cntP; rw [ih]; rfl
theorem MpC.start (he : Env 0 (fun _ => undef) w) : MpC piv Env VT (fun _ => false) (fun _ => undef) w := ⟨(fun i h => by cases h), by rw [cntP_none]; exact he⟩
theorem MpC.step (h : MpC piv Env VT L vals w) {i : Nat} {x : Value} (hi : i ∉ piv) (hb : i < 1000000) (hx : VT i x) (he : Env (cntP piv L) (pvP piv vals) w') : MpC piv Env VT (setL L i) (setV vals i x) w' := by
  refine ⟨fun j hj hp => ?_, by rw [cntP_ne hi, pvP_ne hi hb]; exact he⟩
  by_cases e : j = i
  · subst e; rw [setV_at]; exact hx
  · rw [setV_ne e]; rw [setL_ne e] at hj; exact h.v j hj hp
theorem MpC.quiet (h : MpC piv Env VT L vals w) {i : Nat} {x : Value} (hi : i ∉ piv) (hb : i < 1000000) (hx : VT i x) : MpC piv Env VT (setL L i) (setV vals i x) w := h.step hi hb hx h.e
theorem MpC.turn (h : MpC piv Env VT L vals w) {k i : Nat} {x : Value} (hk : piv[k]? = some i) (hnd : piv.Nodup) (hb : i < 1000000) (hl : L i = false) (hc : cntP piv L = k) (he : ∀ pv, pv k = x → (∀ j, j ≠ k → pv j = pvP piv vals j) → Env (k + 1) pv w') : MpC piv Env VT (setL L i) (setV vals i x) w' := by
  obtain ⟨h1, h2⟩ := pvP_turn (x := x) (vals := vals) hk hnd hb
  refine ⟨fun j hj hp => ?_, by rw [cntP_in (List.mem_of_getElem? hk) hnd hl, hc]; exact he _ h1 h2⟩
  have e : j ≠ i := fun e => hp (e ▸ List.mem_of_getElem? hk)
  rw [setV_ne e]; rw [setL_ne e] at hj; exact h.v j hj hp
end
/-! ### the same with a ghost γ (the law LooseG): all values are functions of γ; a pivot makes γ anew -/
section
universe u
variable {Γ : Type u}
def MgC (piv : List Nat) (Env : Nat → Γ → World → Prop) (γ : Γ) (L : Nat → Bool) (w : World) : Prop := Env (cntP piv L) γ w
variable {piv : List Nat} {Env : Nat → Γ → World → Prop} {γ γ' : Γ} {L : Nat → Bool} {w w' : World}
theorem MgC.start (he : Env 0 γ w) : MgC piv Env γ (fun _ => false) w := by unfold MgC; rw [cntP_none]; exact he
theorem MgC.quiet (h : MgC piv Env γ L w) {i : Nat} (hi : i ∉ piv) : MgC piv Env γ (setL L i) w := by unfold MgC; rw [cntP_ne hi]; exact h
theorem MgC.step {k : Nat} (hc : cntP piv L = k) {i : Nat} (hi : i ∉ piv) (he : Env k γ w') : MgC piv Env γ (setL L i) w' := by unfold MgC; rw [cntP_ne hi, hc]; exact he
theorem MgC.turn {k i : Nat} (hk : piv[k]? = some i) (hnd : piv.Nodup) (hl : L i = false) (hc : cntP piv L = k) (he : Env (k + 1) γ' w') : MgC piv Env γ' (setL L i) w' := by
  unfold MgC; rw [cntP_in (List.mem_of_getElem? hk) hnd hl, hc]; exact he
end
end Go.Proofs.Ytcnpmbgeafkmlaa

