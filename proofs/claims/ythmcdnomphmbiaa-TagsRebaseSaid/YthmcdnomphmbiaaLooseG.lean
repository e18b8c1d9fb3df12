/-
  The law for drawn regions with a ghost: what is known of the values and of the world may speak of something (G) that an operation makes anew. No program is named.
-/
import Derived.Test.YthmcdnomphmbiaaLooseS
namespace Go.Proofs.Ythmcdnomphmbiaa
set_option linter.unusedVariables false

section
universe u
variable {P : Program} {ops : Array Oper} {md : Region.Mode} {Γ : Type u}
theorem one_mono {o : Oper} {a : Act} {w : World} {ds : List Deferred} {d : Option Tmp} {G G' : Value → World → Prop} (hG : ∀ v w, G v w → G' v w) (H : wpList P ops (LPost ds d G) [o] a w) : wpList P ops (LPost ds d G') [o] a w := by
  simp only [wpList] at H ⊢
  split
  · rename_i hw
    simp only [hw, if_true] at H
    rcases H with H | ⟨_, a', w', hf⟩
    case inr => exact hf.elim
    refine .inl ?_
    unfold Oper.wp at *
    generalize (execOp a.eval o).run P w = r at *
    cases r with
    | ok nx w' =>
      cases nx <;> simp only [Oper.upon] at H ⊢
      case value u => exact ⟨H.1, hG _ _ H.2⟩
      case skip => exact ⟨H.1, hG _ _ H.2⟩
      case defer d => exact ⟨H.1, hG _ _ H.2⟩
      case enter f args =>
        refine Calls.mono H fun e w'' he => ?_
        cases e with
        | returned u => exact ⟨he.1, hG _ _ he.2⟩
        | panicked c => exact (he : False).elim
        | outgrown => exact he.elim fun _ h => h.elim fun _ h => (h : False).elim
      case row row args => exact Rows.mono H fun u w'' he => ⟨he.1, hG _ _ he.2⟩
    | halt x w' =>
      cases x <;> simp only [Oper.upon] at H ⊢
      case panic u => exact (H : False).elim
  · rename_i hw
    simp only [hw] at H
    exact ⟨H.1, hG _ _ H.2⟩
def OblG (P : Program) (md : Region.Mode) (ops : Array Oper) (a : Act) (C : Γ → (Nat → Bool) → World → Prop) (V : Γ → Nat → Value → World → Prop) (i : Nat) (o : Oper) : Prop :=
  ∀ (γ : Γ) (L : Nat → Bool) (w : World) (vals : Nat → Value), L i = false → UpL L (predL md o) → ClosedL md L 0 ops.toList → C γ L w → PreV (V γ) vals w (predL md o) →
    wpList P ops (LPost a.defers o.dst fun v w' => ∃ γ', C γ' (setL L i) w' ∧ V γ' i v w' ∧ ∀ j u, L j = true → V γ j u w → V γ' j u w') [o] (fillA (fun _ => true) vals 0 ops.toList a) w
def OblAllG (P : Program) (md : Region.Mode) (ops : Array Oper) (a : Act) (C : Γ → (Nat → Bool) → World → Prop) (V : Γ → Nat → Value → World → Prop) : Nat → List Oper → Prop
  | _, [] => True
  | i, o :: l => OblG P md ops a C V i o ∧ OblAllG P md ops a C V (i + 1) l
def StG (C : Γ → (Nat → Bool) → World → Prop) (V : Γ → Nat → Value → World → Prop) (L : Nat → Bool) (vals : Nat → Value) (w : World) : Prop := ∃ γ, C γ L w ∧ ∀ i, L i = true → V γ i (vals i) w
theorem PreV.of {V : Nat → Value → World → Prop} {vals : Nat → Value} {w : World} {L : Nat → Bool} (h : ∀ i, L i = true → V i (vals i) w) : ∀ {l : List Nat}, UpL L l → PreV V vals w l
  | [], _ => trivial
  | j :: l, hu => ⟨h j hu.1, PreV.of h hu.2⟩
theorem OblAllG.s {a : Act} {C : Γ → (Nat → Bool) → World → Prop} {V : Γ → Nat → Value → World → Prop} : ∀ (l : List Oper) (k : Nat), OblAllG P md ops a C V k l → OblAllS P md ops a (StG C V) k l
  | [], _, _ => trivial
  | o :: l, k, h => by
    refine ⟨fun L w vals hi hu hcl hC => ?_, OblAllG.s l (k + 1) h.2⟩
    obtain ⟨γ, h1, h2⟩ := hC
    refine one_mono (fun v w' hv => ?_) (h.1 γ L w vals hi hu hcl h1 (PreV.of h2 hu))
    obtain ⟨γ', h3, h4, h5⟩ := hv
    refine ⟨γ', h3, fun j hj => ?_⟩
    by_cases e : j = k
    · subst e; rw [setV_at]; exact h4
    · rw [setV_ne e]
      rw [setL_ne e] at hj
      exact h5 j _ hj (h2 j hj)
/-- **A region that draws its order**, with a ghost. -/
theorem wp_region_looseG {a : Act} {Q : Exit → Act → World → Prop} {id : Nat} {w : World} {l : List Oper} (n : Nat) (hm : P.follows .mixedOrders = true) (hB : looseB .any l.toArray n = true) (C : Γ → (Nat → Bool) → World → Prop) (V : Γ → Nat → Value → World → Prop) (γ0 : Γ)
    (hsz : a.tmps.size = n) (h0 : C γ0 (fun _ => false) w.drew) (hobl : OblAllG P .any l.toArray a C V 0 l)
    (hend : ∀ γ w vals L, C γ L w → (∀ j, j < l.length → L j = true) → (∀ j, j < l.length → V γ j (vals j) w) → Q .normal (fillA (fun _ => true) vals 0 l a) w) : (Code.region id l.toArray true).wp P Q a w :=
  wp_region_looseS n hm hB (StG C V) hsz ⟨γ0, h0, fun i hi => by cases hi⟩ (OblAllG.s l 0 hobl) fun w vals L ⟨γ, h1, h2⟩ hall => hend γ w vals L h1 hall fun j hj => h2 j (hall j hj)
end
end Go.Proofs.Ythmcdnomphmbiaa

