/-
  The heap's arithmetic (layer 4), plain: entries as pairs (id, key) known by their place, the order, what an exchange does to a heap. No program is named.
-/
import Derived.Test.YtlnbjmmbjhglnaaShPlain
namespace Go.Proofs.Ytlnbjmmbjhglnaa
set_option linter.unusedVariables false

/-- Entries are pairs (id, key); a comes no later than b. -/
def le2 (a b : Int × Int) : Prop := a.2 < b.2 ∨ (a.2 = b.2 ∧ a.1 ≤ b.1)
def lt2 (a b : Int × Int) : Prop := a.2 < b.2 ∨ (a.2 = b.2 ∧ a.1 < b.1)
theorem le2_refl (a : Int × Int) : le2 a a := by unfold le2; omega
theorem le2_trans {a b c : Int × Int} (h : le2 a b) (k : le2 b c) : le2 a c := by unfold le2 at *; omega
theorem le2_of_lt {a b : Int × Int} (h : lt2 a b) : le2 a b := by unfold le2 lt2 at *; omega
theorem le2_of_not {a b : Int × Int} (h : ¬ lt2 a b) : le2 b a := by unfold le2 lt2 at *; omega
theorem not_lt2 {a b : Int × Int} (h : le2 a b) : ¬ lt2 b a := by unfold le2 lt2 at *; omega
theorem lt2_trans {a b c : Int × Int} (h : lt2 a b) (k : lt2 b c) : lt2 a c := by unfold lt2 at *; omega
theorem lt2_le {a b c : Int × Int} (h : lt2 a b) (k : le2 b c) : lt2 a c := by unfold lt2 le2 at *; omega
theorem le2_lt {a b c : Int × Int} (h : le2 a b) (k : lt2 b c) : lt2 a c := by unfold lt2 le2 at *; omega
theorem le2_anti {a b : Int × Int} (h : le2 a b) (k : le2 b a) : a = b := by
  unfold le2 at *; exact Prod.ext (by omega) (by omega)
theorem lt2_tri (a b : Int × Int) : lt2 a b ∨ a = b ∨ lt2 b a := by
  by_cases h : a.1 = b.1 ∧ a.2 = b.2
  · exact .inr (.inl (Prod.ext h.1 h.2))
  · unfold lt2; omega
instance instLt2 (a b : Int × Int) : Decidable (lt2 a b) := by unfold lt2; exact inferInstance

/-- The exchange of places i and k. -/
def sw {α : Type} (E : Nat → α) (i k : Nat) : Nat → α := fun j => if j = i then E k else if j = k then E i else E j
theorem sw_l {α : Type} (E : Nat → α) (i k : Nat) : sw E i k i = E k := by unfold sw; rw [if_pos rfl]
theorem sw_r {α : Type} (E : Nat → α) (i k : Nat) : sw E i k k = E i := by
  unfold sw; by_cases h : k = i
  · rw [if_pos h, h]
  · rw [if_neg h, if_pos rfl]
theorem sw_o {α : Type} (E : Nat → α) (i k j : Nat) (h : j ≠ i) (h' : j ≠ k) : sw E i k j = E j := by unfold sw; rw [if_neg h, if_neg h']
/-- A place changed. -/
def up1 {α : Type} (E : Nat → α) (i : Nat) (x : α) : Nat → α := fun j => if j = i then x else E j
theorem up1_at {α : Type} (E : Nat → α) (i : Nat) (x : α) : up1 E i x i = x := by unfold up1; rw [if_pos rfl]
theorem up1_ne {α : Type} (E : Nat → α) (i j : Nat) (x : α) (h : j ≠ i) : up1 E i x j = E j := by unfold up1; rw [if_neg h]
theorem sw_up1 {α : Type} (E : Nat → α) (i k : Nat) : up1 (up1 E i (E k)) k (E i) = sw E i k := by
  funext j; unfold up1 sw
  by_cases h : j = k
  · subst h; rw [if_pos rfl]; by_cases h' : j = i
    · rw [if_pos h', h']
    · rw [if_neg h', if_pos rfl]
  · rw [if_neg h, if_neg h]

/-- A heap but for the entry at i, which may come before its parent or behind its children. -/
def Exc (E : Nat → Int × Int) (n i : Nat) : Prop :=
  (∀ j, 0 < j → j < n → j ≠ i → (j - 1) / 2 ≠ i → le2 (E ((j - 1) / 2)) (E j)) ∧ (0 < i → ∀ c, 0 < c → c < n → (c - 1) / 2 = i → le2 (E ((i - 1) / 2)) (E c))
def Kids (E : Nat → Int × Int) (n i : Nat) : Prop := ∀ c, 0 < c → c < n → (c - 1) / 2 = i → le2 (E i) (E c)
def Up (E : Nat → Int × Int) (i : Nat) : Prop := 0 < i → le2 (E ((i - 1) / 2)) (E i)
def Hp (E : Nat → Int × Int) (n : Nat) : Prop := ∀ j, 0 < j → j < n → le2 (E ((j - 1) / 2)) (E j)
theorem hp_of {E : Nat → Int × Int} {n i : Nat} (h : Exc E n i) (hu : Up E i) (hk : Kids E n i) : Hp E n := by
  intro j h0 hn
  by_cases h1 : j = i
  · subst h1; exact hu h0
  · by_cases h2 : (j - 1) / 2 = i
    · rw [h2]; exact hk j h0 hn h2
    · exact h.1 j h0 hn h1 h2
theorem exc_of_hp {E : Nat → Int × Int} {n : Nat} (h : Hp E n) (i : Nat) (hi : i < n) (x : Int × Int) : Exc (up1 E i x) n i := by
  refine ⟨fun j h0 hn h1 h2 => ?_, fun h0 c c0 cn hc => ?_⟩
  · rw [up1_ne _ _ _ _ h1, up1_ne _ _ _ _ h2]; exact h j h0 hn
  · rw [up1_ne _ _ _ _ (by omega), up1_ne _ _ _ _ (by omega)]
    have a := h c c0 cn
    rw [hc] at a
    exact le2_trans (h i h0 hi) a
theorem rise_step {E : Nat → Int × Int} {n i : Nat} (h : Exc E n i) (h0 : 0 < i) (hi : i < n) (hl : lt2 (E i) (E ((i - 1) / 2))) :
    Exc (sw E i ((i - 1) / 2)) n ((i - 1) / 2) ∧ Kids (sw E i ((i - 1) / 2)) n ((i - 1) / 2) := by
  have hp : (i - 1) / 2 < i := by omega
  generalize hpe : (i - 1) / 2 = p at *
  have up : 0 < p → le2 (E ((p - 1) / 2)) (E p) := fun p0 => h.1 p p0 (by omega) (by omega) (by omega)
  have kid : ∀ c, 0 < c → c < n → c ≠ i → (c - 1) / 2 = p → le2 (E p) (E c) := fun c c0 cn ci cp => by
    have := h.1 c c0 cn ci (by omega); rw [cp] at this; exact this
  have hb := h.2 h0
  rw [hpe] at hb
  refine ⟨⟨fun j j0 jn jp jq => ?_, fun p0 c c0 cn cp => ?_⟩, fun c c0 cn cp => ?_⟩
  · by_cases j1 : j = i
    · subst j1; exact absurd hpe jq
    · rw [sw_o E i p j j1 jp]
      by_cases j2 : (j - 1) / 2 = i
      · rw [j2, sw_l]; exact hb j j0 jn j2
      · rw [sw_o E i p _ j2 jq]; exact h.1 j j0 jn j1 j2
  · rw [sw_o E i p ((p - 1) / 2) (by omega) (by omega)]
    by_cases c1 : c = i
    · subst c1; rw [sw_l]; exact up p0
    · rw [sw_o E i p c c1 (by omega)]; exact le2_trans (up p0) (kid c c0 cn c1 cp)
  · rw [sw_r]
    by_cases c1 : c = i
    · subst c1; rw [sw_l]; exact le2_of_lt hl
    · rw [sw_o E i p c c1 (by omega)]; exact le2_trans (le2_of_lt hl) (kid c c0 cn c1 cp)
theorem sink_step {E : Nat → Int × Int} {n i f : Nat} (h : Exc E n i) (hu : Up E i) (f0 : 0 < f) (fn : f < n) (hf : (f - 1) / 2 = i) (hl : lt2 (E f) (E i)) (hm : ∀ c, 0 < c → c < n → (c - 1) / 2 = i → le2 (E f) (E c)) :
    Exc (sw E i f) n f ∧ Up (sw E i f) f := by
  have hif : i < f := by omega
  refine ⟨⟨fun j j0 jn jf jq => ?_, fun _ c c0 cn cf => ?_⟩, fun _ => ?_⟩
  · by_cases j1 : j = i
    · subst j1
      rw [sw_l, sw_o E j f _ (by omega) (by omega)]
      exact h.2 j0 f f0 fn hf
    · rw [sw_o E i f j j1 jf]
      by_cases j2 : (j - 1) / 2 = i
      · rw [j2, sw_l]; exact hm j j0 jn j2
      · rw [sw_o E i f _ j2 jq]; exact h.1 j j0 jn j1 j2
  · rw [hf, sw_l, sw_o E i f c (by omega) (by omega)]
    have := h.1 c c0 cn (by omega) (by omega); rw [cf] at this; exact this
  · rw [hf, sw_l, sw_r]; exact le2_of_lt hl
/-- The first entry of a heap comes before all. -/
theorem hp_least {E : Nat → Int × Int} {n : Nat} (h : Hp E n) : ∀ j, j < n → le2 (E 0) (E j) := by
  intro j
  induction j using Nat.strongRecOn with
  | _ j ih =>
    intro hj
    rcases Nat.eq_zero_or_pos j with rfl | j0
    · exact le2_refl _
    · exact le2_trans (ih _ (by omega) (by omega)) (h j j0 hj)
theorem hp_fewer {E : Nat → Int × Int} {n m : Nat} (h : Hp E n) (hm : m ≤ n) : Hp E m := fun j j0 jn => h j j0 (by omega)

/-- Positions: every entry's id leads to its place, every other id to -1. -/
def PosOk (E : Nat → Int × Int) (n : Nat) (P : Nat → Int) : Prop :=
  (∀ j, j < n → 0 ≤ (E j).1 ∧ (E j).1 < 4096 ∧ P (E j).1.toNat = j) ∧ (∀ i, i < 4096 → P i = -1 ∨ ∃ j, j < n ∧ P i = j ∧ (E j).1 = i)
/-- What is there: id to key. -/
def Cont (E : Nat → Int × Int) (n : Nat) (M : Int → Option Int) : Prop := ∀ id k, M id = some k ↔ ∃ j, j < n ∧ E j = (id, k)
def Dist (E : Nat → Int × Int) (n : Nat) : Prop := ∀ a b, a < n → b < n → (E a).1 = (E b).1 → a = b
def putM (M : Int → Option Int) (id k : Int) : Int → Option Int := fun x => if x = id then some k else M x
def delM (M : Int → Option Int) (id : Int) : Int → Option Int := fun x => if x = id then none else M x
def noM : Int → Option Int := fun _ => none
theorem PosOk.dist {E : Nat → Int × Int} {n : Nat} {P : Nat → Int} (h : PosOk E n P) : Dist E n := fun a b ha hb e => by
  have := (h.1 a ha).2.2; rw [e, (h.1 b hb).2.2] at this; omega
theorem cont_nil (E : Nat → Int × Int) : Cont E 0 noM := fun id k => ⟨(fun h => by cases h), (fun ⟨j, h, _⟩ => by omega)⟩
theorem Cont.at_ {E : Nat → Int × Int} {n : Nat} {M : Int → Option Int} (h : Cont E n M) {j : Nat} (hj : j < n) : M (E j).1 = some (E j).2 := (h _ _).2 ⟨j, hj, rfl⟩
theorem Cont.no {E : Nat → Int × Int} {n : Nat} {M : Int → Option Int} (h : Cont E n M) {id : Int} (hn : ∀ j, j < n → (E j).1 ≠ id) : M id = none := by
  cases e : M id with
  | none => rfl
  | some k => obtain ⟨j, hj, he⟩ := (h id k).1 e; exact absurd (by rw [he]) (hn j hj)
theorem Cont.swap_ {E : Nat → Int × Int} {n : Nat} {M : Int → Option Int} (h : Cont E n M) {i k : Nat} (hi : i < n) (hk : k < n) : Cont (sw E i k) n M := by
  intro id x
  rw [h id x]
  constructor
  · rintro ⟨j, hj, e⟩
    by_cases j1 : j = i
    · exact ⟨k, hk, by rw [sw_r, ← j1]; exact e⟩
    · by_cases j2 : j = k
      · exact ⟨i, hi, by rw [sw_l, ← j2]; exact e⟩
      · exact ⟨j, hj, by rw [sw_o E i k j j1 j2]; exact e⟩
  · rintro ⟨j, hj, e⟩
    by_cases j1 : j = i
    · subst j1; rw [sw_l] at e; exact ⟨k, hk, e⟩
    · by_cases j2 : j = k
      · subst j2; rw [sw_r] at e; exact ⟨i, hi, e⟩
      · rw [sw_o E i k j j1 j2] at e; exact ⟨j, hj, e⟩
theorem PosOk.swap_ {E : Nat → Int × Int} {n : Nat} {P : Nat → Int} (h : PosOk E n P) {i k : Nat} (hi : i < n) (hk : k < n) :
    PosOk (sw E i k) n (up1 (up1 P (E k).1.toNat i) (E i).1.toNat k) := by
  have hd := h.dist
  have ei := h.1 i hi
  have ek := h.1 k hk
  refine ⟨fun j hj => ?_, fun x hx => ?_⟩
  · by_cases j1 : j = k
    · subst j1; rw [sw_r, up1_at]; exact ⟨ei.1, ei.2.1, rfl⟩
    · by_cases j2 : j = i
      · subst j2; rw [sw_l]
        have : (E k).1.toNat ≠ (E j).1.toNat := fun e => j1 (hd _ _ hk hj (by omega)).symm
        rw [up1_ne _ _ _ _ this, up1_at]; exact ⟨ek.1, ek.2.1, rfl⟩
      · have ej := h.1 j hj
        rw [sw_o E i k j j2 j1]
        have a1 : (E j).1.toNat ≠ (E i).1.toNat := fun e => j2 (hd _ _ hj hi (by omega))
        have a2 : (E j).1.toNat ≠ (E k).1.toNat := fun e => j1 (hd _ _ hj hk (by omega))
        rw [up1_ne _ _ _ _ a1, up1_ne _ _ _ _ a2]; exact ej
  · by_cases x1 : x = (E i).1.toNat
    · right; refine ⟨k, hk, ?_, ?_⟩
      · rw [x1, up1_at]
      · rw [sw_r]; omega
    · rw [up1_ne _ _ _ _ x1]
      by_cases x2 : x = (E k).1.toNat
      · right; refine ⟨i, hi, ?_, ?_⟩
        · rw [x2, up1_at]
        · rw [sw_l]; omega
      · rw [up1_ne _ _ _ _ x2]
        rcases h.2 x hx with e | ⟨j, hj, e, e'⟩
        · exact .inl e
        · have j1 : j ≠ i := fun c => x1 (by rw [← c]; omega)
          have j2 : j ≠ k := fun c => x2 (by rw [← c]; omega)
          exact .inr ⟨j, hj, e, by rw [sw_o E i k j j1 j2]; exact e'⟩
theorem Cont.push {E : Nat → Int × Int} {n : Nat} {M : Int → Option Int} (h : Cont E n M) {id x : Int} (hn : M id = none) : Cont (up1 E n (id, x)) (n + 1) (putM M id x) := by
  intro a b
  unfold putM
  constructor
  · intro e
    by_cases h1 : a = id
    · rw [if_pos h1] at e; cases e; exact ⟨n, by omega, by rw [up1_at, h1]⟩
    · rw [if_neg h1] at e
      obtain ⟨j, hj, he⟩ := (h a b).1 e
      exact ⟨j, by omega, by rw [up1_ne _ _ _ _ (by omega)]; exact he⟩
  · rintro ⟨j, hj, e⟩
    by_cases h1 : j = n
    · subst h1; rw [up1_at] at e; cases e; rw [if_pos rfl]
    · rw [up1_ne _ _ _ _ h1] at e
      have h2 := (h a b).2 ⟨j, by omega, e⟩
      by_cases h3 : a = id
      · rw [h3, hn] at h2; cases h2
      · rw [if_neg h3]; exact h2
theorem PosOk.push {E : Nat → Int × Int} {n : Nat} {P : Nat → Int} (h : PosOk E n P) {id x : Int} (i0 : 0 ≤ id) (i1 : id < 4096) (hn : P id.toNat = -1) :
    PosOk (up1 E n (id, x)) (n + 1) (up1 P id.toNat n) := by
  refine ⟨fun j hj => ?_, fun y hy => ?_⟩
  · by_cases h1 : j = n
    · subst h1; rw [up1_at]; exact ⟨i0, i1, up1_at _ _ _⟩
    · rw [up1_ne _ _ _ _ h1]
      have ej := h.1 j (by omega)
      have : (E j).1.toNat ≠ id.toNat := fun e => by have := ej.2.2; rw [e, hn] at this; omega
      rw [up1_ne _ _ _ _ this]; exact ej
  · by_cases h1 : y = id.toNat
    · right; exact ⟨n, by omega, by rw [h1, up1_at], by rw [up1_at]; omega⟩
    · rw [up1_ne _ _ _ _ h1]
      rcases h.2 y hy with e | ⟨j, hj, e, e'⟩
      · exact .inl e
      · exact .inr ⟨j, by omega, e, by rw [up1_ne _ _ _ _ (by omega)]; exact e'⟩
theorem Dist.push {E : Nat → Int × Int} {n : Nat} (h : Dist E n) {id x : Int} (hn : ∀ j, j < n → (E j).1 ≠ id) : Dist (up1 E n (id, x)) (n + 1) := by
  intro a b ha hb e
  by_cases h1 : a = n
  · by_cases h2 : b = n
    · omega
    · subst h1; rw [up1_at, up1_ne _ _ _ _ h2] at e; exact absurd e.symm (hn b (by omega))
  · by_cases h2 : b = n
    · subst h2; rw [up1_at, up1_ne _ _ _ _ h1] at e; exact absurd e (hn a (by omega))
    · rw [up1_ne _ _ _ _ h1, up1_ne _ _ _ _ h2] at e; exact h a b (by omega) (by omega) e
theorem Cont.upd {E : Nat → Int × Int} {n : Nat} {M : Int → Option Int} (h : Cont E n M) (hd : Dist E n) {i : Nat} (hi : i < n) (x : Int) : Cont (up1 E i ((E i).1, x)) n (putM M (E i).1 x) := by
  intro a b
  unfold putM
  constructor
  · intro e
    by_cases h1 : a = (E i).1
    · rw [if_pos h1] at e; cases e; exact ⟨i, hi, by rw [up1_at, h1]⟩
    · rw [if_neg h1] at e
      obtain ⟨j, hj, he⟩ := (h a b).1 e
      exact ⟨j, hj, by rw [up1_ne _ _ _ _ (fun c => h1 (by rw [← c, he]))]; exact he⟩
  · rintro ⟨j, hj, e⟩
    by_cases h1 : j = i
    · subst h1; rw [up1_at] at e; cases e; rw [if_pos rfl]
    · rw [up1_ne _ _ _ _ h1] at e
      have h2 := (h a b).2 ⟨j, hj, e⟩
      have h3 : a ≠ (E i).1 := fun c => h1 (hd _ _ hj hi (by rw [e]; exact c))
      rw [if_neg h3]; exact h2
theorem PosOk.upd {E : Nat → Int × Int} {n : Nat} {P : Nat → Int} (h : PosOk E n P) {i : Nat} (hi : i < n) (x : Int) : PosOk (up1 E i ((E i).1, x)) n P := by
  have e1 : ∀ j, (up1 E i ((E i).1, x) j).1 = (E j).1 := fun j => by
    by_cases h1 : j = i
    · subst h1; rw [up1_at]
    · rw [up1_ne _ _ _ _ h1]
  refine ⟨fun j hj => by rw [e1]; exact h.1 j hj, fun y hy => ?_⟩
  rcases h.2 y hy with e | ⟨j, hj, e, e'⟩
  · exact .inl e
  · exact .inr ⟨j, hj, e, by rw [e1]; exact e'⟩
theorem Dist.upd {E : Nat → Int × Int} {n : Nat} (h : Dist E n) (i : Nat) (x : Int) : Dist (up1 E i ((E i).1, x)) n := by
  have e1 : ∀ j, (up1 E i ((E i).1, x) j).1 = (E j).1 := fun j => by
    by_cases h1 : j = i
    · subst h1; rw [up1_at]
    · rw [up1_ne _ _ _ _ h1]
  intro a b ha hb e
  rw [e1, e1] at e; exact h a b ha hb e
theorem Dist.swap_ {E : Nat → Int × Int} {n : Nat} (h : Dist E n) {i k : Nat} (hi : i < n) (hk : k < n) : Dist (sw E i k) n := by
  have key : ∀ a, a < n → ∃ a', a' < n ∧ sw E i k a = E a' ∧ (a' = if a = i then k else if a = k then i else a) := by
    intro a ha
    unfold sw
    by_cases h1 : a = i
    · exact ⟨k, hk, by rw [if_pos h1], by rw [if_pos h1]⟩
    · by_cases h2 : a = k
      · exact ⟨i, hi, by rw [if_neg h1, if_pos h2], by rw [if_neg h1, if_pos h2]⟩
      · exact ⟨a, ha, by rw [if_neg h1, if_neg h2], by rw [if_neg h1, if_neg h2]⟩
  intro a b ha hb e
  obtain ⟨a', ha', ea, eb⟩ := key a ha
  obtain ⟨b', hb', fa, fb⟩ := key b hb
  rw [ea, fa] at e
  have := h a' b' ha' hb' e
  split at eb <;> split at fb <;> (try split at eb) <;> (try split at fb) <;> omega
/-- The last entry is taken away. -/
theorem Cont.drop {E : Nat → Int × Int} {n : Nat} {M : Int → Option Int} (h : Cont E (n + 1) M) (hd : Dist E (n + 1)) : Cont E n (delM M (E n).1) := by
  intro a b
  unfold delM
  constructor
  · intro e
    by_cases h1 : a = (E n).1
    · rw [if_pos h1] at e; cases e
    · rw [if_neg h1] at e
      obtain ⟨j, hj, he⟩ := (h a b).1 e
      have : j ≠ n := fun c => h1 (by rw [← c, he])
      exact ⟨j, by omega, he⟩
  · rintro ⟨j, hj, e⟩
    have h3 : a ≠ (E n).1 := fun c => by have := hd j n (by omega) (by omega) (by rw [e]; exact c); omega
    rw [if_neg h3]; exact (h a b).2 ⟨j, by omega, e⟩
theorem PosOk.drop {E : Nat → Int × Int} {n : Nat} {P : Nat → Int} (h : PosOk E (n + 1) P) : PosOk E n (up1 P (E n).1.toNat (-1)) := by
  have hd := h.dist
  have en := h.1 n (by omega)
  refine ⟨fun j hj => ?_, fun y hy => ?_⟩
  · have ej := h.1 j (by omega)
    have : (E j).1.toNat ≠ (E n).1.toNat := fun e => by have := hd j n (by omega) (by omega) (by omega); omega
    rw [up1_ne _ _ _ _ this]; exact ej
  · by_cases h1 : y = (E n).1.toNat
    · left; rw [h1, up1_at]
    · rw [up1_ne _ _ _ _ h1]
      rcases h.2 y hy with e | ⟨j, hj, e, e'⟩
      · exact .inl e
      · have : j ≠ n := fun c => h1 (by rw [← c]; omega)
        exact .inr ⟨j, by omega, e, e'⟩
theorem Dist.fewer {E : Nat → Int × Int} {n m : Nat} (h : Dist E n) (hm : m ≤ n) : Dist E m := fun a b ha hb e => h a b (by omega) (by omega) e
theorem exc_fewer {E : Nat → Int × Int} {n m i : Nat} (h : Exc E n i) (hm : m ≤ n) : Exc E m i :=
  ⟨fun j a b c d => h.1 j a (by omega) c d, fun a c b d e => h.2 a c b (by omega) e⟩
/-- The last entry put into the gap at i. -/
theorem exc_gap {E : Nat → Int × Int} {n i : Nat} (h : Hp E (n + 1)) (hi : i < n) : Exc (sw E i n) n i := by
  have := exc_fewer (exc_of_hp h i (by omega) (E n)) (show n ≤ n + 1 by omega)
  have e : ∀ j, j < n → sw E i n j = up1 E i (E n) j := fun j hj => by
    unfold sw up1; by_cases h1 : j = i
    · rw [if_pos h1, if_pos h1]
    · rw [if_neg h1, if_neg h1, if_neg (by omega)]
  refine ⟨fun j a b c d => ?_, fun a c b d e' => ?_⟩
  · rw [e _ (by omega), e _ (by omega)]; exact this.1 j a b c d
  · rw [e _ (by omega), e _ (by omega)]; exact this.2 a c b d e'

/-! ### What is the same of all that hold the same -/
/-- The entry x is the least of what M holds. -/
def LeastM (M : Int → Option Int) (x : Int × Int) : Prop := M x.1 = some x.2 ∧ ∀ id k, M id = some k → le2 x (id, k)
theorem LeastM.one {M : Int → Option Int} {x y : Int × Int} (h : LeastM M x) (k : LeastM M y) : x = y := le2_anti (h.2 _ _ k.1) (k.2 _ _ h.1)
theorem least_of {E : Nat → Int × Int} {n : Nat} {M : Int → Option Int} (h : Cont E n M) {j : Nat} (hj : j < n) (hl : ∀ i, i < n → le2 (E j) (E i)) : LeastM M (E j) :=
  ⟨h.at_ hj, fun id k e => by obtain ⟨i, hi, he⟩ := (h id k).1 e; rw [← he]; exact hl i hi⟩
/-- Strictly ascending. -/
def Asc (E : Nat → Int × Int) (n : Nat) : Prop := ∀ a b, a < b → b < n → lt2 (E a) (E b)
theorem lt2_irrefl (a : Int × Int) : ¬ lt2 a a := by unfold lt2; omega
/-- Two strictly ascending lists of the same entries are one. -/
theorem asc_one {E F : Nat → Int × Int} {M : Int → Option Int} (n m : Nat) (he : Asc E n) (hf : Asc F m) (ce : Cont E n M) (cf : Cont F m M) : n = m ∧ ∀ j, j < n → E j = F j := by
  have half : ∀ (E F : Nat → Int × Int) (n m : Nat), Asc E n → Asc F m → Cont E n M → Cont F m M → ∀ j, j < n → j < m → (∀ i, i < j → E i = F i) → ¬ lt2 (E j) (F j) := by
    intro E F n m he hf ce cf j hn hm hi hlt
    obtain ⟨i, him, hi2⟩ := (cf _ _).1 (ce.at_ hn)
    have hi2 : F i = E j := hi2
    rcases Nat.lt_trichotomy i j with h | h | h
    · have := hi i h; rw [hi2] at this; exact lt2_irrefl _ (this ▸ he i j h hn)
    · subst h; rw [hi2] at hlt; exact lt2_irrefl _ hlt
    · have := hf j i h him; rw [hi2] at this; exact lt2_irrefl _ (lt2_trans hlt this)
  have same : ∀ j, j < n → j < m → E j = F j := by
    intro j
    induction j using Nat.strongRecOn with
    | _ j ih =>
      intro hn hm
      have hi : ∀ i, i < j → E i = F i := fun i h => ih i h (by omega) (by omega)
      rcases lt2_tri (E j) (F j) with h | h | h
      · exact absurd h (half E F n m he hf ce cf j hn hm hi)
      · exact h
      · exact absurd h (half F E m n hf he cf ce j hm hn (fun i h => (hi i h).symm))
  have le : ∀ (E F : Nat → Int × Int) (n m : Nat), Asc E n → Asc F m → Cont E n M → Cont F m M → (∀ j, j < n → j < m → E j = F j) → n ≤ m := by
    intro E F n m he hf ce cf hs
    rcases Nat.lt_or_ge m n with h | h
    · obtain ⟨i, hi, e⟩ := (cf _ _).1 (ce.at_ h)
      have e : F i = E m := e
      have := hs i (by omega) hi
      rw [e] at this
      exact absurd (this ▸ he i m hi h) (lt2_irrefl _)
    · exact h
  have e1 := le E F n m he hf ce cf same
  have e2 := le F E m n hf he cf ce (fun j a b => (same j b a).symm)
  exact ⟨by omega, fun j hj => same j hj (by omega)⟩
end Go.Proofs.Ytlnbjmmbjhglnaa
