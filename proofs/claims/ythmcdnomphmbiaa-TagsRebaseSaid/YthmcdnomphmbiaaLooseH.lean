/-
  The laws LooseS and LooseG once more, for regions in which an operation assigns a slot that an earlier one has read ('out = append(out, ..)'): an operation is walked from the frame in which those ahead of it in the text have put their values. No program is named.
-/
import Derived.Test.YthmcdnomphmbiaaLooseG
namespace Go.Proofs.Ythmcdnomphmbiaa
set_option linter.unusedVariables false

section
variable {P : Program} {ops : Array Oper} {md : Region.Mode}
/-- Which operations wait for i, whatever lies between. -/
def waitsL (md : Region.Mode) (i : Nat) : List Oper → Nat → List Nat → List Nat
  | [], _, acc => acc
  | o :: l, k, acc => waitsL md i l (k + 1) (if (predL md o).any (fun p => p == i || acc.contains p) then k :: acc else acc)
theorem waitsL_sound {L : Nat → Bool} {i : Nat} : ∀ (l : List Oper) (k : Nat) (acc : List Nat), (∀ j ∈ acc, L j = true → L i = true) → (∀ j o, l[j]? = some o → L (k + j) = true → ∀ p ∈ predL md o, L p = true) → ∀ j ∈ waitsL md i l k acc, L j = true → L i = true
  | [], _, acc, h, _ => h
  | o :: l, k, acc, h, hc => by
    rw [waitsL]
    refine waitsL_sound l (k + 1) _ ?_ (fun j o' hj => by rw [show k + 1 + j = k + (j + 1) by omega]; exact hc (j + 1) o' (by simpa using hj))
    split
    · rename_i hany
      intro j hj hL
      rcases List.mem_cons.1 hj with rfl | hj
      · obtain ⟨p, hp, hpe⟩ := List.any_eq_true.1 hany
        have hLp := hc 0 o (by simp) (by simpa using hL) p hp
        rcases Bool.or_eq_true_iff.1 hpe with e | e
        · rw [← eq_of_beq e]; exact hLp
        · exact h p (by simpa using e) hLp
      · exact h j hj hL
    · exact h
theorem fillA_eval2 (L L' : Nat → Bool) (vals : Nat → Value) (x : Operand) : ∀ (l : List Oper) (k : Nat) (a a' : Act), a.eval x = a'.eval x → a.tmps.size = a'.tmps.size →
    (∀ j o, l[j]? = some o → ∀ t, o.dst = some t → x = .tmp t → L (k + j) = L' (k + j)) → (fillA L vals k l a).eval x = (fillA L' vals k l a').eval x
  | [], _, _, _, h, _, _ => h
  | o :: l, k, a, a', h, hs, hj => by
    rw [fillA, fillA]
    have hrec : ∀ j o', l[j]? = some o' → ∀ t, o'.dst = some t → x = .tmp t → L (k + 1 + j) = L' (k + 1 + j) := fun j o' ho' t ht hx => by
      have := hj (j + 1) o' (by simpa using ho') t ht hx
      rwa [show k + (j + 1) = k + 1 + j by omega] at this
    have off : L k ≠ L' k → ∀ d, o.dst = some d → x ≠ .tmp d := fun hne d hd hx => hne (by have := hj 0 o (by simp) d hd hx; simpa using this)
    cases hl : L k <;> cases hl' : L' k <;> simp only [if_true, Bool.false_eq_true, if_false]
    · exact fillA_eval2 L L' vals x l (k + 1) _ _ h hs hrec
    · refine fillA_eval2 L L' vals x l (k + 1) _ _ ?_ (by rw [put_size]; exact hs) hrec
      rw [h]
      exact (Act.eval_put fun d hd hx => off (by rw [hl, hl']; decide) d hd hx).symm
    · refine fillA_eval2 L L' vals x l (k + 1) _ _ ?_ (by rw [put_size]; exact hs) hrec
      rw [← h]
      exact Act.eval_put fun d hd hx => off (by rw [hl, hl']; decide) d hd hx
    · exact fillA_eval2 L L' vals x l (k + 1) _ _ (eval_put_both h hs _ _) (by rw [put_size, put_size]; exact hs) hrec
/-- Operation number i waits for earlier ones alone; what it looks at has been put by those that it waits for, or will be put by those that wait for it. -/
def looseAt2 (md : Region.Mode) (ops : Array Oper) (n i : Nat) (o : Oper) : Bool :=
  (predL md o).all (fun j => decide (j < i)) &&
  (o.looksAt ops).all (fun t => (List.range ops.size).all fun j => match ops[j]? with | some oj => oj.dst != some t || (predL md o).contains j || (decide (i < j) && (waitsL md i ops.toList 0 []).contains j) | none => true) &&
  (match o.dst with | some d => decide (d < n) | none => true)
def looseB2 (md : Region.Mode) (ops : Array Oper) (n : Nat) : Bool :=
  Region.noSelect ops && distB ops.toList && (List.range ops.size).all fun i => match ops[i]? with | some o => looseAt2 md ops n i o | none => true
def OblH (P : Program) (md : Region.Mode) (ops : Array Oper) (a : Act) (C : (Nat → Bool) → (Nat → Value) → World → Prop) (i : Nat) (o : Oper) : Prop :=
  ∀ (L : Nat → Bool) (w : World) (vals : Nat → Value), L i = false → UpL L (predL md o) → ClosedL md L 0 ops.toList → C L vals w →
    wpList P ops (LPost a.defers o.dst fun v w' => C (setL L i) (setV vals i v) w') [o] (fillA (fun j => decide (j < i)) vals 0 ops.toList a) w
def OblAllH (P : Program) (md : Region.Mode) (ops : Array Oper) (a : Act) (C : (Nat → Bool) → (Nat → Value) → World → Prop) : Nat → List Oper → Prop
  | _, [] => True
  | i, o :: l => OblH P md ops a C i o ∧ OblAllH P md ops a C (i + 1) l
theorem OblAllH.get {a : Act} {C : (Nat → Bool) → (Nat → Value) → World → Prop} : ∀ {l : List Oper} {k : Nat}, OblAllH P md ops a C k l → ∀ {i : Nat} {o : Oper}, l[i]? = some o → OblH P md ops a C (k + i) o
  | [], _, _, _, _, h => by simp at h
  | o' :: l, k, h, 0, o, ho => by
    simp only [List.getElem?_cons_zero, Option.some.injEq] at ho
    subst ho; exact h.1
  | o' :: l, k, h, i + 1, o, ho => by
    rw [show k + (i + 1) = k + 1 + i by omega]
    exact OblAllH.get h.2 (by simpa using ho)

variable {a : Act} {C : (Nat → Bool) → (Nat → Value) → World → Prop} {Q : Exit → Act → World → Prop}
theorem wpAny_looseH {n : Nat} (hB : looseB2 md ops n = true) (hsz : a.tmps.size = n) (hobl : OblAllH P md ops a C 0 ops.toList)
    (hend : ∀ w vals L, C L vals w → (∀ j, j < ops.size → L j = true) → Q .normal (fillA (fun _ => true) vals 0 ops.toList a) w) :
    ∀ (fuel : Nat) (listed : Array Bool) (w : World) (vals : Nat → Value), listed.size = ops.size → leftN listed = fuel → C (fun j => listed.getD j false) vals w → (∀ i o, ops[i]? = some o → listed.getD i false = true → ∀ j ∈ predL md o, listed.getD j false = true) →
      wpAny P md ops Q fuel listed (fillA (fun j => listed.getD j false) vals 0 ops.toList a) w := by
  simp only [looseB2, Bool.and_eq_true] at hB
  obtain ⟨⟨hsel, hdist⟩, hat⟩ := hB
  have hat' : ∀ i o, ops[i]? = some o → looseAt2 md ops n i o = true := fun i o ho => by
    have := List.all_eq_true.1 hat i (by simpa using (Array.getElem?_eq_some_iff.1 ho).1)
    simpa [ho] using this
  intro fuel
  induction fuel with
  | zero =>
    intro listed w vals hls hlf hC hcl
    have hall := left_zero hlf
    constructor
    · rw [List.eq_nil_iff_forall_not_mem]
      intro j hj
      obtain ⟨h1, o, ho, _⟩ := mem_ready.1 hj
      have hlt : j < listed.size := by rw [hls]; exact (Array.getElem?_eq_some_iff.1 ho).1
      have h2 := hall j hlt
      simp [hlt] at h1 h2
      rw [h1] at h2; cases h2
    · have := hend w vals _ hC (fun j hj => hall j (by omega))
      rw [fillA_congr (L' := fun _ => true) (v' := vals) ops.toList 0 a fun j _ hj => ⟨hall j (by rw [hls]; simpa using hj), rfl⟩]
      exact this
  | succ fuel ih =>
    intro listed w vals hls hlf hC hcl
    refine ⟨fun h0 => ?_, fun i hi => ?_⟩
    · exfalso
      obtain ⟨i, hi, hil⟩ := left_some (listed := listed) (by omega)
      have : ∀ m i, i ≤ m → i < listed.size → listed.getD i true = false → False := by
        intro m
        induction m with
        | zero =>
          intro i him hi hil
          obtain rfl : i = 0 := by omega
          have : 0 ∈ Region.ready md ops listed := mem_ready.2 ⟨hil, ops[0]'(by omega), by simp [show 0 < ops.size by omega], fun e he hb => by
            have h3 := hat' 0 (ops[0]'(by omega)) (by simp [show 0 < ops.size by omega])
            simp only [looseAt2, Bool.and_eq_true] at h3
            have := List.all_eq_true.1 h3.1.1 e.on (mem_predE.2 ⟨e, by simpa using he, hb, rfl⟩)
            simp at this⟩
          rw [h0] at this; cases this
        | succ m ihm =>
          intro i him hi hil
          have : i ∈ Region.ready md ops listed := mem_ready.2 ⟨hil, ops[i]'(by omega), by simp [show i < ops.size by omega], fun e he hb => by
            have h3 := hat' i (ops[i]'(by omega)) (by simp [show i < ops.size by omega])
            simp only [looseAt2, Bool.and_eq_true] at h3
            have := List.all_eq_true.1 h3.1.1 e.on (mem_predE.2 ⟨e, by simpa using he, hb, rfl⟩)
            have hlt : e.on < i := by simpa using this
            cases hv : listed.getD e.on false with
            | true => rfl
            | false =>
              exfalso
              refine ihm e.on (by omega) (by omega) ?_
              have : e.on < listed.size := by omega
              simp [this] at hv ⊢
              exact hv⟩
          rw [h0] at this; cases this
      exact this i i (Nat.le_refl _) hi hil
    · obtain ⟨hun, o, ho, hall⟩ := mem_ready.1 hi
      have hA := hat' i o ho
      simp only [looseAt2, Bool.and_eq_true] at hA
      obtain ⟨⟨hAll, hlook⟩, hdst⟩ := hA
      have hunF : (fun j => listed.getD j false) i = false := by
        have hi' : i < listed.size := by rw [hls]; exact (Array.getElem?_eq_some_iff.1 ho).1
        simp [hi'] at hun ⊢; exact hun
      have hol : ops.toList[i]? = some o := by simpa using ho
      have hpre : ∀ j ∈ predL md o, listed.getD j false = true := fun j hj => by
        obtain ⟨e, he1, he2, rfl⟩ := mem_predE.1 hj
        exact hall e (by simpa using he1) he2
      have H := hobl.get hol (fun j => listed.getD j false) w vals (by rw [Nat.zero_add]; exact hunF) (UpL.of hpre) (ClosedL.of fun k ok hok h1 => hcl k ok (by simpa using hok) (by rw [Nat.zero_add] at h1; exact h1)) hC
      rw [Nat.zero_add] at H
      have hearly : ∀ j ∈ predL md o, j < i := fun j hj => by
        have := List.all_eq_true.1 hAll j hj
        simpa using this
      have hlooks : ∀ t ∈ o.looksAt ops, (fillA (fun j => listed.getD j false) vals 0 ops.toList a).eval (.tmp t) = (fillA (fun j => decide (j < i)) vals 0 ops.toList a).eval (.tmp t) := fun t ht => by
        refine fillA_eval2 _ _ vals (.tmp t) ops.toList 0 a a rfl rfl fun j oj hoj t' ht' hx => ?_
        rw [Nat.zero_add]
        cases hx
        have h3 := List.all_eq_true.1 hlook t ht
        have hjo : ops[j]? = some oj := by simpa using hoj
        have h4 := List.all_eq_true.1 h3 j (by simpa using (Array.getElem?_eq_some_iff.1 hjo).1)
        simp only [hjo, ht', bne_self_eq_false, Bool.false_or, Bool.or_eq_true, Bool.and_eq_true, List.contains_iff_mem, decide_eq_true_eq] at h4
        rcases h4 with h4 | ⟨h4, h5⟩
        · rw [hpre j h4]
          exact (decide_eq_true (hearly j h4)).symm
        · have h6 : listed.getD j false = false := by
            cases e : listed.getD j false with
            | false => rfl
            | true =>
              have h7 := waitsL_sound (md := md) (L := fun j => listed.getD j false) (i := i) ops.toList 0 [] (by simp) (fun j' o' hj' hL' => by
                rw [Nat.zero_add] at hL'
                exact hcl j' o' (by simpa using hj') hL') j h5 e
              have h8 : listed.getD i false = false := hunF
              rw [h8] at h7; cases h7
          rw [h6]
          exact (decide_eq_false (by omega)).symm
      generalize hA1 : fillA (fun j => listed.getD j false) vals 0 ops.toList a = A1 at *
      generalize hA2 : fillA (fun j => decide (j < i)) vals 0 ops.toList a = A2 at *
      have hs1 : A1.tmps.size = n := by rw [← hA1, fillA_size, hsz]
      have hs2 : A2.tmps.size = n := by rw [← hA2, fillA_size, hsz]
      have hd2 : A2.defers = a.defers := by rw [← hA2, fillA_defers]
      have hex : execOp A1.eval o = execOp A2.eval o := execOp_congr o (fun cs b => Region.noSelect_spec hsel i o cs b ho) fun x hx => by
        cases x with
        | tmp t => exact hlooks t (List.mem_append_left _ (List.mem_filterMap.2 ⟨.tmp t, by simpa using hx, rfl⟩))
        | _ => rfl
      have hwa : Region.wanted o (yielded ops A1.tmps) = Region.wanted o (yielded ops A2.tmps) := by
        unfold Region.wanted
        cases hg : o.guard with
        | none => rfl
        | some gw =>
          obtain ⟨g, want⟩ := gw
          have := yielded_congr (ops := ops) (g := g) (hs1.trans hs2.symm) fun d hd => hlooks d (by simp [Oper.looksAt, hg, hd])
          simp only [this]
      have next : ∀ u w', (LPost a.defers o.dst (fun v w' => C (setL (fun j => listed.getD j false) i) (setV vals i v) w')) .normal (A2.put o.dst u) w' → wpAny P md ops Q fuel (listed.setIfInBounds i true) (A1.put o.dst u) w' := fun u w' hp => by
        obtain ⟨_, hC'⟩ := hp
        rw [← getV_put A1 o.dst u hs1 hdst, getV_same o.dst u (hs1.trans hs2.symm) hs1 hdst]
        generalize getV (A2.put o.dst u) o.dst = v at *
        have e1 := fillA_set (fun j => listed.getD j false) vals i v o ops.toList 0 a hdist (Nat.zero_le _) (by simpa using ho) hunF
        rw [hA1, ← set_listed hun] at e1
        rw [← e1]
        rw [← set_listed hun] at hC'
        have hset : ∀ j, (listed.setIfInBounds i true).getD j false = true → j = i ∨ listed.getD j false = true := fun j hj => by
          have hj' : setL (fun j => listed.getD j false) i j = true := by rw [← set_listed hun]; exact hj
          unfold setL at hj'
          by_cases e : j = i
          · exact .inl e
          · rw [if_neg e] at hj'; exact .inr hj'
        refine ih (listed.setIfInBounds i true) w' (setV vals i v) (by simpa using hls) (left_set hun hlf) hC' (fun j oj hoj hj k hk => ?_)
        have hup : ∀ k, listed.getD k false = true → (listed.setIfInBounds i true).getD k false = true := fun k hk => getD_set_true hk
        rcases hset j hj with e | e
        · subst e
          rw [ho] at hoj
          cases hoj
          exact hup k (hpre k hk)
        · exact hup k (hcl j oj hoj e k hk)
      unfold wpOp
      simp only [ho]
      simp only [wpList] at H
      rw [hwa]
      split
      · rename_i hw
        simp only [hw, if_true] at H
        rcases H with H | ⟨_, a', w', hf⟩
        case inr => exact hf.elim
        refine .inl ?_
        unfold Oper.wp at *
        rw [hex]
        generalize (execOp A2.eval o).run P w = r at *
        cases r with
        | ok nx w' =>
          cases nx <;> simp only [Oper.upon] at H ⊢
          case value u => exact next u w' H
          case skip => exact next undef w' H
          case defer d =>
            exfalso
            have := H.1
            rw [put_defers] at this
            simp [hd2] at this
          case enter f args =>
            refine Calls.mono H fun e w'' he => ?_
            cases e with
            | returned u => exact next u w'' he
            | panicked c => exact (he : False).elim
            | outgrown => exact he.elim fun _ h => h.elim fun _ h => (h : False).elim
          case row row args => exact Rows.mono H fun u w'' he => next u w'' he
        | halt x w' =>
          cases x <;> simp only [Oper.upon] at H ⊢
          case panic u => exact (H : False).elim
      · rename_i hw
        simp only [hw] at H
        exact next undef w H
/-- **A region that draws its order**, its state told by what has come up. -/
theorem wp_region_looseH {id : Nat} {w : World} {l : List Oper} (n : Nat) (hm : P.follows .mixedOrders = true) (hB : looseB2 .any l.toArray n = true) (C : (Nat → Bool) → (Nat → Value) → World → Prop)
    (hsz : a.tmps.size = n) (h0 : C (fun _ => false) (fun _ => undef) w.drew) (hobl : OblAllH P .any l.toArray a C 0 l)
    (hend : ∀ w vals L, C L vals w → (∀ j, j < l.length → L j = true) → Q .normal (fillA (fun _ => true) vals 0 l a) w) : (Code.region id l.toArray true).wp P Q a w := by
  refine wp_region_any hm ?_
  have hl : leftN (Array.replicate l.toArray.size false) = l.length := by simp [leftN]
  have e0 : (fun j => (Array.replicate l.toArray.size false).getD j false) = fun _ => false := by funext j; exact getD_replicate_false _ _
  have H := wpAny_looseH (Q := Q) hB hsz (by simpa using hobl) (fun w vals L h1 h2 => by simpa using hend w vals L h1 (by simpa using h2)) l.length (Array.replicate l.toArray.size false) w.drew (fun _ => undef)
    (by simp) hl (by rw [e0]; exact h0) (fun i o _ hi => by rw [getD_replicate_false] at hi; cases hi)
  have e : fillA (fun j => (Array.replicate l.toArray.size false).getD j false) (fun _ => undef) 0 l.toArray.toList a = a := by
    rw [e0]
    have : ∀ (l : List Oper) (k : Nat) (a : Act), fillA (fun _ => false) (fun _ => undef) k l a = a := by
      intro l
      induction l with
      | nil => intros; rfl
      | cons o l ih => intro k a; rw [fillA]; exact ih _ _
    exact this _ _ _
  rw [e] at H
  simpa using H
end
section
universe u
variable {P : Program} {ops : Array Oper} {md : Region.Mode} {Γ : Type u}
def OblI (P : Program) (md : Region.Mode) (ops : Array Oper) (a : Act) (C : Γ → (Nat → Bool) → World → Prop) (V : Γ → Nat → Value → World → Prop) (i : Nat) (o : Oper) : Prop :=
  ∀ (γ : Γ) (L : Nat → Bool) (w : World) (vals : Nat → Value), L i = false → UpL L (predL md o) → ClosedL md L 0 ops.toList → C γ L w → PreV (V γ) vals w (predL md o) →
    wpList P ops (LPost a.defers o.dst fun v w' => ∃ γ', C γ' (setL L i) w' ∧ V γ' i v w' ∧ ∀ j u, L j = true → V γ j u w → V γ' j u w') [o] (fillA (fun j => decide (j < i)) vals 0 ops.toList a) w
def OblAllI (P : Program) (md : Region.Mode) (ops : Array Oper) (a : Act) (C : Γ → (Nat → Bool) → World → Prop) (V : Γ → Nat → Value → World → Prop) : Nat → List Oper → Prop
  | _, [] => True
  | i, o :: l => OblI P md ops a C V i o ∧ OblAllI P md ops a C V (i + 1) l
theorem OblAllI.s {a : Act} {C : Γ → (Nat → Bool) → World → Prop} {V : Γ → Nat → Value → World → Prop} : ∀ (l : List Oper) (k : Nat), OblAllI P md ops a C V k l → OblAllH P md ops a (StG C V) k l
  | [], _, _ => trivial
  | o :: l, k, h => by
    refine ⟨fun L w vals hi hu hcl hC => ?_, OblAllI.s l (k + 1) h.2⟩
    obtain ⟨γ, h1, h2⟩ := hC
    refine one_mono (fun v w' hv => ?_) (h.1 γ L w vals hi hu hcl h1 (PreV.of h2 hu))
    obtain ⟨γ', h3, h4, h5⟩ := hv
    refine ⟨γ', h3, fun j hj => ?_⟩
    by_cases e : j = k
    · subst e; rw [setV_at]; exact h4
    · rw [setV_ne e]
      rw [setL_ne e] at hj
      exact h5 j _ hj (h2 j hj)
/-- **A region that draws its order**, with a ghost. -/
theorem wp_region_looseI {a : Act} {Q : Exit → Act → World → Prop} {id : Nat} {w : World} {l : List Oper} (n : Nat) (hm : P.follows .mixedOrders = true) (hB : looseB2 .any l.toArray n = true) (C : Γ → (Nat → Bool) → World → Prop) (V : Γ → Nat → Value → World → Prop) (γ0 : Γ)
    (hsz : a.tmps.size = n) (h0 : C γ0 (fun _ => false) w.drew) (hobl : OblAllI P .any l.toArray a C V 0 l)
    (hend : ∀ γ w vals L, C γ L w → (∀ j, j < l.length → L j = true) → (∀ j, j < l.length → V γ j (vals j) w) → Q .normal (fillA (fun _ => true) vals 0 l a) w) : (Code.region id l.toArray true).wp P Q a w :=
  wp_region_looseH n hm hB (StG C V) hsz ⟨γ0, h0, fun i hi => by cases hi⟩ (OblAllI.s l 0 hobl) fun w vals L ⟨γ, h1, h2⟩ hall => hend γ w vals L h1 hall fun j hj => h2 j (hall j hj)
end
end Go.Proofs.Ythmcdnomphmbiaa

