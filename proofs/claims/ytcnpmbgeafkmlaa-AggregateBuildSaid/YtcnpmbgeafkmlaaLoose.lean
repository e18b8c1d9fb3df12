/-
  A region that draws its order, walked operation by operation, whatever the order: of each operation's value a predicate is named (kept by what the others do to the world), and each operation is walked once, from whatever state in which those that it waits for are done. One walk an operation, none an order. No program is named.
-/
import Derived.Orders
import Derived.StillTail
import Derived.WalkKit
import Derived.Deep.Draws
namespace Go.Proofs.Ytcnpmbgeafkmlaa
set_option linter.unusedVariables false

section
variable {P : Program} {ops : Array Oper} {md : Region.Mode}

/-- The operations that have come up (L) have put their values. -/
def fillA (L : Nat → Bool) (vals : Nat → Value) : Nat → List Oper → Act → Act
  | _, [], a => a
  | k, o :: l, a => fillA L vals (k + 1) l (if L k then a.put o.dst (vals k) else a)
def setL (L : Nat → Bool) (i : Nat) : Nat → Bool := fun j => if j = i then true else L j
def setV (v : Nat → Value) (i : Nat) (u : Value) : Nat → Value := fun j => if j = i then u else v j
theorem put_size (a : Act) (d : Option Tmp) (v : Value) : (a.put d v).tmps.size = a.tmps.size := by cases d <;> simp [Act.put]
theorem put_defers (a : Act) (d : Option Tmp) (v : Value) : (a.put d v).defers = a.defers := by cases d <;> rfl
theorem fillA_size (L : Nat → Bool) (vals : Nat → Value) : ∀ (l : List Oper) (k : Nat) (a : Act), (fillA L vals k l a).tmps.size = a.tmps.size
  | [], _, _ => rfl
  | o :: l, k, a => by
    rw [fillA, fillA_size L vals l]
    split
    · exact put_size _ _ _
    · rfl
theorem fillA_defers (L : Nat → Bool) (vals : Nat → Value) : ∀ (l : List Oper) (k : Nat) (a : Act), (fillA L vals k l a).defers = a.defers
  | [], _, _ => rfl
  | o :: l, k, a => by
    rw [fillA, fillA_defers L vals l]
    split
    · exact put_defers _ _ _
    · rfl
theorem fillA_congr {L L' : Nat → Bool} {v v' : Nat → Value} : ∀ (l : List Oper) (k : Nat) (a : Act), (∀ j, k ≤ j → j < k + l.length → L j = L' j ∧ v j = v' j) → fillA L v k l a = fillA L' v' k l a
  | [], _, _, _ => rfl
  | o :: l, k, a, h => by
    rw [fillA, fillA, (h k (Nat.le_refl _) (by simp)).1, (h k (Nat.le_refl _) (by simp)).2]
    exact fillA_congr l (k + 1) _ fun j h1 h2 => h j (by omega) (by simp only [List.length_cons]; omega)
theorem fillA_put (L : Nat → Bool) (vals : Nat → Value) (d : Option Tmp) (v : Value) : ∀ (l : List Oper) (k : Nat) (a : Act), (∀ o ∈ l, ∀ t, d = some t → o.dst ≠ some t) →
    fillA L vals k l (a.put d v) = (fillA L vals k l a).put d v
  | [], _, _, _ => rfl
  | o :: l, k, a, h => by
    rw [fillA, fillA]
    split
    · rw [Act.put_comm a v _ (fun t ht => h o (by simp) t ht)]
      exact fillA_put L vals d v l (k + 1) _ fun o' ho' => h o' (by simp [ho'])
    · exact fillA_put L vals d v l (k + 1) _ fun o' ho' => h o' (by simp [ho'])
/-- No two operations put their values in one place. -/
def distB : List Oper → Bool
  | [] => true
  | o :: l => (match o.dst with | some d => l.all (fun o' => o'.dst != some d) | none => true) && distB l
theorem distB_cons {o : Oper} {l : List Oper} (h : distB (o :: l) = true) : (∀ o' ∈ l, ∀ t, o.dst = some t → o'.dst ≠ some t) ∧ distB l = true := by
  rw [distB, Bool.and_eq_true] at h
  refine ⟨fun o' ho' t ht => ?_, h.2⟩
  have h1 := h.1
  rw [ht] at h1
  have := List.all_eq_true.1 h1 o' ho'
  simpa using this
theorem fillA_set (L : Nat → Bool) (vals : Nat → Value) (i : Nat) (v : Value) (o : Oper) : ∀ (l : List Oper) (k : Nat) (a : Act), distB l = true → k ≤ i → l[i - k]? = some o → L i = false →
    fillA (setL L i) (setV vals i v) k l a = (fillA L vals k l a).put o.dst v
  | [], _, _, _, _, h, _ => by simp at h
  | o' :: l, k, a, hd, hk, ho, hl => by
    obtain ⟨h1, h2⟩ := distB_cons hd
    by_cases e : k = i
    · subst e
      simp only [Nat.sub_self, List.getElem?_cons_zero, Option.some.injEq] at ho
      subst ho
      rw [fillA, fillA]
      have e1 : setL L k k = true := by simp [setL]
      have e2 : setV vals k v k = v := by simp [setV]
      rw [e1, e2, hl]
      simp only [if_true, Bool.false_eq_true, if_false]
      rw [← fillA_put L vals _ v l (k + 1) a h1]
      refine fillA_congr l (k + 1) _ fun j hj _ => ?_
      unfold setL setV
      rw [if_neg (by omega), if_neg (by omega)]
      exact ⟨rfl, rfl⟩
    · have e1 : setL L i k = L k := by unfold setL; rw [if_neg e]
      have e2 : setV vals i v k = vals k := by unfold setV; rw [if_neg e]
      rw [fillA, fillA, e1, e2]
      refine fillA_set L vals i v o l (k + 1) _ h2 (by omega) ?_ hl
      rw [show i - k = i - (k + 1) + 1 by omega, List.getElem?_cons_succ] at ho
      exact ho
theorem eval_put_both {a a' : Act} {x : Operand} (h : a.eval x = a'.eval x) (hs : a.tmps.size = a'.tmps.size) (d : Option Tmp) (v : Value) : (a.put d v).eval x = (a'.put d v).eval x := by
  cases d with
  | none => exact h
  | some d =>
    cases x with
    | tmp t =>
      simp only [Act.eval, Act.put] at h ⊢
      by_cases e : d = t
      · subst e
        by_cases hlt : d < a.tmps.size
        · simp [hlt, hs ▸ hlt]
        · simp [hlt, hs ▸ hlt]
      · simpa [Array.getElem?_setIfInBounds_ne e] using h
    | _ => rfl
theorem fillA_eval (L : Nat → Bool) (vals : Nat → Value) (x : Operand) : ∀ (l : List Oper) (k : Nat) (a a' : Act), a.eval x = a'.eval x → a.tmps.size = a'.tmps.size →
    (∀ j o, l[j]? = some o → ∀ t, o.dst = some t → x = .tmp t → L (k + j) = true) → (fillA L vals k l a).eval x = (fillA (fun _ => true) vals k l a').eval x
  | [], _, _, _, h, _, _ => h
  | o :: l, k, a, a', h, hs, hj => by
    rw [fillA, fillA]
    have hrec : ∀ j o', l[j]? = some o' → ∀ t, o'.dst = some t → x = .tmp t → L (k + 1 + j) = true := fun j o' ho' t ht hx => by
      have := hj (j + 1) o' (by simpa using ho') t ht hx
      rwa [show k + (j + 1) = k + 1 + j by omega] at this
    cases hl : L k with
    | true =>
      simp only [if_true]
      exact fillA_eval L vals x l (k + 1) _ _ (eval_put_both h hs _ _) (by rw [put_size, put_size]; exact hs) hrec
    | false =>
      simp only [Bool.false_eq_true, if_false, if_true]
      refine fillA_eval L vals x l (k + 1) _ _ ?_ (by rw [put_size]; exact hs) hrec
      rw [h]
      refine (Act.eval_put fun d hd hx => ?_).symm
      have := hj 0 o (by simp) d hd hx
      rw [Nat.add_zero, hl] at this
      cases this

/-- What operation o waits for. -/
def predE (md : Region.Mode) : List Edge → List Nat
  | [] => []
  | e :: l => if Region.binds md e then e.on :: predE md l else predE md l
def predL (md : Region.Mode) (o : Oper) : List Nat := predE md o.after.toList
theorem mem_predE {md : Region.Mode} {j : Nat} : ∀ {l : List Edge}, j ∈ predE md l ↔ ∃ e ∈ l, Region.binds md e = true ∧ e.on = j
  | [] => by simp [predE]
  | e :: l => by
    rw [predE]
    split
    · rename_i h
      rw [List.mem_cons, mem_predE]
      constructor
      · rintro (rfl | ⟨e', h1, h2⟩)
        · exact ⟨e, by simp, h, rfl⟩
        · exact ⟨e', by simp [h1], h2⟩
      · rintro ⟨e', h1, h2, rfl⟩
        rcases List.mem_cons.1 h1 with rfl | h1
        · exact .inl rfl
        · exact .inr ⟨e', h1, h2, rfl⟩
    · rename_i h
      rw [mem_predE]
      constructor
      · rintro ⟨e', h1, h2⟩; exact ⟨e', by simp [h1], h2⟩
      · rintro ⟨e', h1, h2, rfl⟩
        rcases List.mem_cons.1 h1 with rfl | h1
        · exact absurd h2 h
        · exact ⟨e', h1, h2, rfl⟩
/-- Operation number i waits for earlier ones alone, and for each whose value it looks at; its own place is there. -/
def looseAt (md : Region.Mode) (ops : Array Oper) (n i : Nat) (o : Oper) : Bool :=
  (predL md o).all (fun j => decide (j < i)) &&
  (o.looksAt ops).all (fun t => (List.range ops.size).all fun j => match ops[j]? with | some oj => oj.dst != some t || (predL md o).contains j | none => true) &&
  (match o.dst with | some d => decide (d < n) | none => true)
def looseB (md : Region.Mode) (ops : Array Oper) (n : Nat) : Bool :=
  Region.noSelect ops && distB ops.toList && (List.range ops.size).all fun i => match ops[i]? with | some o => looseAt md ops n i o | none => true

/-- What an operation leaves: no defer, G of its value and the world; no other way out. -/
def getV (a : Act) : Option Tmp → Value
  | some d => a.tmps.getD d undef
  | none => undef
def LPost (ds : List Deferred) (d : Option Tmp) (G : Value → World → Prop) : Exit → Act → World → Prop
  | .normal, a, w => a.defers = ds ∧ G (getV a d) w
  | _, _, _ => False
/-- What is known of those that it waits for. -/
def PreR (V : Nat → (Nat → Value) → World → Prop) (vals : Nat → Value) (w : World) : List Nat → Prop
  | [] => True
  | j :: l => V j vals w ∧ PreR V vals w l
theorem PreR.of {V : Nat → (Nat → Value) → World → Prop} {vals : Nat → Value} {w : World} : ∀ {l : List Nat}, (∀ j ∈ l, V j vals w) → PreR V vals w l
  | [], _ => trivial
  | j :: l, h => ⟨h j (by simp), PreR.of fun k hk => h k (by simp [hk])⟩
/-- What is to be shown of operation number i: V i may speak of its own value and of those that it waits for. -/
def OblR (P : Program) (md : Region.Mode) (ops : Array Oper) (a : Act) (C : Nat → World → Prop) (R : World → World → Prop) (V : Nat → (Nat → Value) → World → Prop) (i : Nat) (o : Oper) : Prop :=
  ∀ (f : Nat) (w : World) (vals : Nat → Value), C (f + 1) w → PreR V vals w (predL md o) →
    wpList P ops (LPost a.defers o.dst fun v w' => C f w' ∧ R w w' ∧ V i (setV vals i v) w') [o] (fillA (fun _ => true) vals 0 ops.toList a) w
def OblAllR (P : Program) (md : Region.Mode) (ops : Array Oper) (a : Act) (C : Nat → World → Prop) (R : World → World → Prop) (V : Nat → (Nat → Value) → World → Prop) : Nat → List Oper → Prop
  | _, [] => True
  | i, o :: l => OblR P md ops a C R V i o ∧ OblAllR P md ops a C R V (i + 1) l
theorem OblAllR.get {a : Act} {C : Nat → World → Prop} {R : World → World → Prop} {V : Nat → (Nat → Value) → World → Prop} : ∀ {l : List Oper} {k : Nat}, OblAllR P md ops a C R V k l → ∀ {i : Nat} {o : Oper}, l[i]? = some o → OblR P md ops a C R V (k + i) o
  | [], _, _, _, _, h => by simp at h
  | o' :: l, k, h, 0, o, ho => by
    simp only [List.getElem?_cons_zero, Option.some.injEq] at ho
    subst ho; exact h.1
  | o' :: l, k, h, i + 1, o, ho => by
    rw [show k + (i + 1) = k + 1 + i by omega]
    exact OblAllR.get h.2 (by simpa using ho)
/-- V speaks of nothing else. -/
def EqV (v v' : Nat → Value) : List Nat → Prop
  | [] => True
  | j :: l => v j = v' j ∧ EqV v v' l
theorem EqV.of {v v' : Nat → Value} : ∀ {l : List Nat}, (∀ j ∈ l, v j = v' j) → EqV v v' l
  | [], _ => trivial
  | j :: l, h => ⟨h j (by simp), EqV.of fun k hk => h k (by simp [hk])⟩
def LocAll (md : Region.Mode) (V : Nat → (Nat → Value) → World → Prop) : Nat → List Oper → Prop
  | _, [] => True
  | i, o :: l => (∀ (v v' : Nat → Value) (w : World), v i = v' i → EqV v v' (predL md o) → V i v w → V i v' w) ∧ LocAll md V (i + 1) l
theorem LocAll.get {V : Nat → (Nat → Value) → World → Prop} : ∀ {l : List Oper} {k : Nat}, LocAll md V k l → ∀ {i : Nat} {o : Oper}, l[i]? = some o → ∀ (v v' : Nat → Value) (w : World), v (k + i) = v' (k + i) → EqV v v' (predL md o) → V (k + i) v w → V (k + i) v' w
  | [], _, _, _, _, h => by simp at h
  | o' :: l, k, h, 0, o, ho => by
    simp only [List.getElem?_cons_zero, Option.some.injEq] at ho
    subst ho; exact h.1
  | o' :: l, k, h, i + 1, o, ho => by
    rw [show k + (i + 1) = k + 1 + i by omega]
    exact LocAll.get h.2 (by simpa using ho)
/-- How many have not come up. -/
def leftN (listed : Array Bool) : Nat := listed.toList.count false
theorem left_set {listed : Array Bool} {i f : Nat} (h : listed.getD i true = false) (hf : leftN listed = f + 1) : leftN (listed.setIfInBounds i true) = f := by
  have hi : i < listed.size := by
    rcases Nat.lt_or_ge i listed.size with h' | h'
    · exact h'
    · simp [Array.getElem?_eq_none h'] at h
  have hv : listed.toList[i]'(by simpa using hi) = false := by simpa [hi] using h
  unfold leftN at *
  rw [Array.toList_setIfInBounds, List.count_set (by simpa using hi), hv, hf]
  simp
theorem left_zero {listed : Array Bool} (h : leftN listed = 0) (i : Nat) (hi : i < listed.size) : listed.getD i false = true := by
  unfold leftN at h
  rw [List.count_eq_zero] at h
  have : listed[i] ≠ false := fun e => h (e ▸ (by simp))
  simpa [hi] using this
theorem left_some {listed : Array Bool} (h : leftN listed ≠ 0) : ∃ i, i < listed.size ∧ listed.getD i true = false := by
  unfold leftN at h
  have : false ∈ listed.toList := by
    rcases Decidable.em (false ∈ listed.toList) with h' | h'
    · exact h'
    · exact absurd (List.count_eq_zero.2 h') h
  obtain ⟨i, hi, e⟩ := List.getElem_of_mem this
  exact ⟨i, by simpa using hi, by simp at hi; simp [hi]; simpa using e⟩
theorem set_listed {listed : Array Bool} {i : Nat} (h : listed.getD i true = false) : (fun j => (listed.setIfInBounds i true).getD j false) = setL (fun j => listed.getD j false) i := by
  have hi : i < listed.size := by
    rcases Nat.lt_or_ge i listed.size with h' | h'
    · exact h'
    · simp [Array.getElem?_eq_none h'] at h
  funext j
  unfold setL
  by_cases e : j = i
  · subst e; simp [hi]
  · rw [if_neg e]; simp [Array.getElem?_setIfInBounds_ne (Ne.symm e)]
theorem yielded_congr {t t' : Array Value} {g : Nat} (hs : t.size = t'.size) (h : ∀ d, (ops[g]?).bind (·.dst) = some d → t.getD d undef = t'.getD d undef) : yielded ops t g = yielded ops t' g := by
  unfold yielded
  cases hd : (ops[g]?).bind (·.dst) with
  | none => rfl
  | some d =>
    have := h d hd
    simp only [Option.bind_some]
    by_cases hlt : d < t.size
    · have hlt' : d < t'.size := hs ▸ hlt
      simp [hlt, hlt'] at this ⊢
      rw [this]
    · have hlt' : ¬ d < t'.size := hs ▸ hlt
      simp [hlt, hlt']
theorem getV_put (a : Act) (d : Option Tmp) (v : Value) {n : Nat} (hn : a.tmps.size = n) (hd : (match d with | some d => decide (d < n) | none => true) = true) : a.put d (getV (a.put d v) d) = a.put d v := by
  cases d with
  | none => rfl
  | some d =>
    have : d < a.tmps.size := by rw [hn]; simpa using hd
    simp [getV, Act.put, this]
theorem getV_same {a a' : Act} (d : Option Tmp) (v : Value) (hs : a.tmps.size = a'.tmps.size) {n : Nat} (hn : a.tmps.size = n) (hd : (match d with | some d => decide (d < n) | none => true) = true) : getV (a.put d v) d = getV (a'.put d v) d := by
  cases d with
  | none => rfl
  | some d =>
    have h1 : d < a.tmps.size := by rw [hn]; simpa using hd
    have h2 : d < a'.tmps.size := by rw [← hs]; exact h1
    simp [getV, Act.put, h1, h2]

variable {a : Act} {C : Nat → World → Prop} {R : World → World → Prop} {V : Nat → (Nat → Value) → World → Prop} {Q : Exit → Act → World → Prop}
theorem wpAny_loose {n : Nat} (hB : looseB md ops n = true) (hsz : a.tmps.size = n) (hR : ∀ i v w w', R w w' → V i v w → V i v w') (hloc : LocAll md V 0 ops.toList) (hobl : OblAllR P md ops a C R V 0 ops.toList)
    (hend : ∀ w vals, C 0 w → (∀ j, j < ops.size → V j vals w) → Q .normal (fillA (fun _ => true) vals 0 ops.toList a) w) :
    ∀ (fuel : Nat) (listed : Array Bool) (w : World) (vals : Nat → Value), listed.size = ops.size → leftN listed = fuel → C fuel w → (∀ i, listed.getD i false = true → V i vals w) → (∀ i o, ops[i]? = some o → listed.getD i false = true → ∀ j ∈ predL md o, listed.getD j false = true) →
      wpAny P md ops Q fuel listed (fillA (fun j => listed.getD j false) vals 0 ops.toList a) w := by
  simp only [looseB, Bool.and_eq_true] at hB
  obtain ⟨⟨hsel, hdist⟩, hat⟩ := hB
  have hat' : ∀ i o, ops[i]? = some o → looseAt md ops n i o = true := fun i o ho => by
    have := List.all_eq_true.1 hat i (by simpa using (Array.getElem?_eq_some_iff.1 ho).1)
    simpa [ho] using this
  intro fuel
  induction fuel with
  | zero =>
    intro listed w vals hls hlf hC hV hcl
    have hall := left_zero hlf
    constructor
    · rw [List.eq_nil_iff_forall_not_mem]
      intro j hj
      obtain ⟨h1, o, ho, _⟩ := mem_ready.1 hj
      have hlt : j < listed.size := by rw [hls]; exact (Array.getElem?_eq_some_iff.1 ho).1
      have h2 := hall j hlt
      simp [hlt] at h1 h2
      rw [h1] at h2; cases h2
    · have := hend w vals hC (fun j hj => hV j (hall j (by omega)))
      rw [fillA_congr (L' := fun _ => true) (v' := vals) ops.toList 0 a fun j _ hj => ⟨hall j (by rw [hls]; simpa using hj), rfl⟩]
      exact this
  | succ fuel ih =>
    intro listed w vals hls hlf hC hV hcl
    refine ⟨fun h0 => ?_, fun i hi => ?_⟩
    · exfalso
      obtain ⟨i, hi, hil⟩ := left_some (listed := listed) (by omega)
      have : ∀ m i, i ≤ m → i < listed.size → listed.getD i true = false → False := by
        intro m
        induction m with
        | zero =>
          intro i him hi hil
          obtain rfl : i = 0 := by omega
          have : 0 ∈ Region.ready md ops listed := mem_ready.2 ⟨hil, ops[0]'(by omega), by simp [show 0 < ops.size by omega], fun e he hb => by
            have h3 := hat' 0 (ops[0]'(by omega)) (by simp [show 0 < ops.size by omega])
            simp only [looseAt, Bool.and_eq_true] at h3
            have := List.all_eq_true.1 h3.1.1 e.on (mem_predE.2 ⟨e, by simpa using he, hb, rfl⟩)
            simp at this⟩
          rw [h0] at this; cases this
        | succ m ihm =>
          intro i him hi hil
          have : i ∈ Region.ready md ops listed := mem_ready.2 ⟨hil, ops[i]'(by omega), by simp [show i < ops.size by omega], fun e he hb => by
            have h3 := hat' i (ops[i]'(by omega)) (by simp [show i < ops.size by omega])
            simp only [looseAt, Bool.and_eq_true] at h3
            have := List.all_eq_true.1 h3.1.1 e.on (mem_predE.2 ⟨e, by simpa using he, hb, rfl⟩)
            have hlt : e.on < i := by simpa using this
            cases hv : listed.getD e.on false with
            | true => rfl
            | false =>
              exfalso
              refine ihm e.on (by omega) (by omega) ?_
              have : e.on < listed.size := by omega
              simp [this] at hv ⊢
              exact hv⟩
          rw [h0] at this; cases this
      exact this i i (Nat.le_refl _) hi hil
    · obtain ⟨hun, o, ho, hall⟩ := mem_ready.1 hi
      have hA := hat' i o ho
      simp only [looseAt, Bool.and_eq_true] at hA
      obtain ⟨⟨_, hlook⟩, hdst⟩ := hA
      have hunF : (fun j => listed.getD j false) i = false := by
        have hi' : i < listed.size := by rw [hls]; exact (Array.getElem?_eq_some_iff.1 ho).1
        simp [hi'] at hun ⊢; exact hun
      have hol : ops.toList[i]? = some o := by simpa using ho
      have hpre : ∀ j ∈ predL md o, listed.getD j false = true := fun j hj => by
        obtain ⟨e, he1, he2, rfl⟩ := mem_predE.1 hj
        exact hall e (by simpa using he1) he2
      have H := hobl.get hol fuel w vals hC (PreR.of fun j hj => hV j (hpre j hj))
      rw [Nat.zero_add] at H
      -- the operation looks at what has been put
      have hlooks : ∀ t ∈ o.looksAt ops, (fillA (fun j => listed.getD j false) vals 0 ops.toList a).eval (.tmp t) = (fillA (fun _ => true) vals 0 ops.toList a).eval (.tmp t) := fun t ht => by
        refine fillA_eval _ vals (.tmp t) ops.toList 0 a a rfl rfl fun j oj hoj t' ht' hx => ?_
        rw [Nat.zero_add]
        cases hx
        have h3 := List.all_eq_true.1 hlook t ht
        have hjo : ops[j]? = some oj := by simpa using hoj
        have h4 := List.all_eq_true.1 h3 j (by simpa using (Array.getElem?_eq_some_iff.1 hjo).1)
        simp only [hjo, ht', bne_self_eq_false, Bool.false_or] at h4
        exact hpre j (by simpa using h4)
      generalize hA1 : fillA (fun j => listed.getD j false) vals 0 ops.toList a = A1 at *
      generalize hA2 : fillA (fun _ => true) vals 0 ops.toList a = A2 at *
      have hs1 : A1.tmps.size = n := by rw [← hA1, fillA_size, hsz]
      have hs2 : A2.tmps.size = n := by rw [← hA2, fillA_size, hsz]
      have hd2 : A2.defers = a.defers := by rw [← hA2, fillA_defers]
      have hex : execOp A1.eval o = execOp A2.eval o := execOp_congr o (fun cs b => Region.noSelect_spec hsel i o cs b ho) fun x hx => by
        cases x with
        | tmp t => exact hlooks t (List.mem_append_left _ (List.mem_filterMap.2 ⟨.tmp t, by simpa using hx, rfl⟩))
        | _ => rfl
      have hwa : Region.wanted o (yielded ops A1.tmps) = Region.wanted o (yielded ops A2.tmps) := by
        unfold Region.wanted
        cases hg : o.guard with
        | none => rfl
        | some gw =>
          obtain ⟨g, want⟩ := gw
          have := yielded_congr (ops := ops) (g := g) (hs1.trans hs2.symm) fun d hd => hlooks d (by simp [Oper.looksAt, hg, hd])
          simp only [this]
      -- behind it
      have next : ∀ u w', (LPost a.defers o.dst (fun v w' => C fuel w' ∧ R w w' ∧ V i (setV vals i v) w')) .normal (A2.put o.dst u) w' → wpAny P md ops Q fuel (listed.setIfInBounds i true) (A1.put o.dst u) w' := fun u w' hp => by
        obtain ⟨_, hC', hRw, hVi⟩ := hp
        rw [← getV_put A1 o.dst u hs1 hdst, getV_same o.dst u (hs1.trans hs2.symm) hs1 hdst]
        generalize getV (A2.put o.dst u) o.dst = v at *
        have e1 := fillA_set (fun j => listed.getD j false) vals i v o ops.toList 0 a hdist (Nat.zero_le _) (by simpa using ho) hunF
        rw [hA1, ← set_listed hun] at e1
        rw [← e1]
        have hset : ∀ j, (listed.setIfInBounds i true).getD j false = true → j = i ∨ listed.getD j false = true := fun j hj => by
          have hj' : setL (fun j => listed.getD j false) i j = true := by rw [← set_listed hun]; exact hj
          unfold setL at hj'
          by_cases e : j = i
          · exact .inl e
          · rw [if_neg e] at hj'; exact .inr hj'
        refine ih (listed.setIfInBounds i true) w' (setV vals i v) (by simpa using hls) (left_set hun hlf) hC' (fun j hj => ?_) (fun j oj hoj hj k hk => ?_)
        · by_cases e : j = i
          · subst e; exact hVi
          · have hlj := (hset j hj).resolve_left e
            have hjn : j < listed.size := by
              rcases Nat.lt_or_ge j listed.size with h' | h'
              · exact h'
              · simp [Array.getElem?_eq_none h'] at hlj
            have hoj : ops[j]? = some (ops[j]'(by omega)) := by simp [show j < ops.size by omega]
            have hl := hloc.get (i := j) (by rw [Array.getElem?_toList]; exact hoj) vals (setV vals i v) w' (by unfold setV; rw [Nat.zero_add, if_neg e]) (EqV.of fun k hk => by
              have hk1 := hcl j _ hoj hlj k hk
              unfold setV
              rw [if_neg]
              intro ek
              have h9 : listed.getD i false = false := hunF
              rw [← ek, hk1] at h9
              cases h9)
            rw [Nat.zero_add] at hl
            exact hl (hR _ _ _ _ hRw (hV j hlj))
        · have hup : ∀ k, listed.getD k false = true → (listed.setIfInBounds i true).getD k false = true := fun k hk => getD_set_true hk
          rcases hset j hj with e | e
          · subst e
            rw [ho] at hoj
            cases hoj
            exact hup k (hpre k hk)
          · exact hup k (hcl j oj hoj e k hk)
      unfold wpOp
      simp only [ho]
      simp only [wpList] at H
      rw [hwa]
      split
      · rename_i hw
        simp only [hw, if_true] at H
        rcases H with H | ⟨_, a', w', hf⟩
        case inr => exact hf.elim
        refine .inl ?_
        unfold Oper.wp at *
        rw [hex]
        generalize (execOp A2.eval o).run P w = r at *
        cases r with
        | ok nx w' =>
          cases nx <;> simp only [Oper.upon] at H ⊢
          case value u => exact next u w' H
          case skip => exact next undef w' H
          case defer d =>
            exfalso
            have := H.1
            rw [put_defers] at this
            simp [hd2] at this
          case enter f args =>
            refine Calls.mono H fun e w'' he => ?_
            cases e with
            | returned u => exact next u w'' he
            | panicked c => exact (he : False).elim
            | outgrown => exact he.elim fun _ h => h.elim fun _ h => (h : False).elim
          case row row args => exact Rows.mono H fun u w'' he => next u w'' he
        | halt x w' =>
          cases x <;> simp only [Oper.upon] at H ⊢
          case panic u => exact (H : False).elim
      · rename_i hw
        simp only [hw] at H
        exact next undef w H
/-- **A region that draws its order**: each operation walked once. What is said of an operation's value may speak of the values of those that it waits for. -/
theorem wp_region_looseR {id : Nat} {w : World} {l : List Oper} (n : Nat) (hm : P.follows .mixedOrders = true) (hB : looseB .any l.toArray n = true) (C : Nat → World → Prop) (R : World → World → Prop) (V : Nat → (Nat → Value) → World → Prop)
    (hsz : a.tmps.size = n) (hR : ∀ i v w w', R w w' → V i v w → V i v w') (hloc : LocAll .any V 0 l) (h0 : C l.length w.drew) (hobl : OblAllR P .any l.toArray a C R V 0 l)
    (hend : ∀ w vals, C 0 w → (∀ j, j < l.length → V j vals w) → Q .normal (fillA (fun _ => true) vals 0 l a) w) : (Code.region id l.toArray true).wp P Q a w := by
  refine wp_region_any hm ?_
  have hl : leftN (Array.replicate l.toArray.size false) = l.length := by simp [leftN]
  have H := wpAny_loose (Q := Q) (vals := fun _ => undef) hB hsz hR (by simpa using hloc) (by simpa using hobl) (fun w vals h1 h2 => by simpa using hend w vals h1 (by simpa using h2)) l.length (Array.replicate l.toArray.size false) w.drew
    (by simp) hl h0 (fun i hi => by rw [getD_replicate_false] at hi; cases hi) (fun i o _ hi => by rw [getD_replicate_false] at hi; cases hi)
  have e : fillA (fun j => (Array.replicate l.toArray.size false).getD j false) (fun _ => undef) 0 l.toArray.toList a = a := by
    have : (fun j => (Array.replicate l.toArray.size false).getD j false) = fun _ => false := by funext j; exact getD_replicate_false _ _
    rw [this]
    have : ∀ (l : List Oper) (k : Nat) (a : Act), fillA (fun _ => false) (fun _ => undef) k l a = a := by
      intro l
      induction l with
      | nil => intros; rfl
      | cons o l ih => intro k a; rw [fillA]; exact ih _ _
    exact this _ _ _
  rw [e] at H
  simpa using H
/-- The same where V speaks of the own value alone. -/
def PreV (V : Nat → Value → World → Prop) (vals : Nat → Value) (w : World) : List Nat → Prop
  | [] => True
  | j :: l => V j (vals j) w ∧ PreV V vals w l
def Obl (P : Program) (md : Region.Mode) (ops : Array Oper) (a : Act) (C : Nat → World → Prop) (R : World → World → Prop) (V : Nat → Value → World → Prop) (i : Nat) (o : Oper) : Prop :=
  ∀ (f : Nat) (w : World) (vals : Nat → Value), C (f + 1) w → PreV V vals w (predL md o) →
    wpList P ops (LPost a.defers o.dst fun v w' => C f w' ∧ R w w' ∧ V i v w') [o] (fillA (fun _ => true) vals 0 ops.toList a) w
def OblAll (P : Program) (md : Region.Mode) (ops : Array Oper) (a : Act) (C : Nat → World → Prop) (R : World → World → Prop) (V : Nat → Value → World → Prop) : Nat → List Oper → Prop
  | _, [] => True
  | i, o :: l => Obl P md ops a C R V i o ∧ OblAll P md ops a C R V (i + 1) l
theorem PreV.eq (V : Nat → Value → World → Prop) (vals : Nat → Value) (w : World) : ∀ l, PreV V vals w l = PreR (fun i v w => V i (v i) w) vals w l
  | [] => rfl
  | j :: l => by rw [PreV, PreR, PreV.eq V vals w l]
theorem OblAll.r {C : Nat → World → Prop} {R : World → World → Prop} {V : Nat → Value → World → Prop} : ∀ (l : List Oper) (k : Nat), OblAll P md ops a C R V k l → OblAllR P md ops a C R (fun i v w => V i (v i) w) k l
  | [], _, _ => trivial
  | o :: l, k, h => by
    refine ⟨fun f w vals hC hp => ?_, OblAll.r l (k + 1) h.2⟩
    have := h.1 f w vals hC (by rw [PreV.eq]; exact hp)
    have e : (fun v w' => C f w' ∧ R w w' ∧ V k (setV vals k v k) w') = fun v w' => C f w' ∧ R w w' ∧ V k v w' := by funext v w'; unfold setV; rw [if_pos rfl]
    show wpList P ops (LPost a.defers o.dst (fun v w' => C f w' ∧ R w w' ∧ V k (setV vals k v k) w')) [o] _ w
    rw [e]; exact this
theorem loc_own {V : Nat → Value → World → Prop} : ∀ (l : List Oper) (k : Nat), LocAll md (fun i v w => V i (v i) w) k l
  | [], _ => trivial
  | o :: l, k => ⟨fun v v' w h _ hv => by show V k (v' k) w; rw [← h]; exact hv, loc_own l (k + 1)⟩
theorem wp_region_loose {id : Nat} {w : World} {l : List Oper} (n : Nat) (hm : P.follows .mixedOrders = true) (hB : looseB .any l.toArray n = true) (C : Nat → World → Prop) (R : World → World → Prop) (V : Nat → Value → World → Prop)
    (hsz : a.tmps.size = n) (hR : ∀ i v w w', R w w' → V i v w → V i v w') (h0 : C l.length w.drew) (hobl : OblAll P .any l.toArray a C R V 0 l)
    (hend : ∀ w vals, C 0 w → (∀ j, j < l.length → V j (vals j) w) → Q .normal (fillA (fun _ => true) vals 0 l a) w) : (Code.region id l.toArray true).wp P Q a w :=
  wp_region_looseR n hm hB C R (fun i v w => V i (v i) w) hsz (fun i v w w' h1 h2 => hR i (v i) w w' h1 h2) (loc_own l 0) h0 (OblAll.r l 0 hobl) hend
end
/-! ### (LooseS) The law for drawn regions once more, where the state may speak of which operations have come up (L) and of their values: for regions in which one operation writes what another one reads, or grows a row in place. No program is named. -/
section
variable {P : Program} {ops : Array Oper} {md : Region.Mode}
/-- All of these have come up. -/
def UpL (L : Nat → Bool) : List Nat → Prop
  | [] => True
  | j :: l => L j = true ∧ UpL L l
theorem UpL.of {L : Nat → Bool} : ∀ {l : List Nat}, (∀ j ∈ l, L j = true) → UpL L l
  | [], _ => trivial
  | j :: l, h => ⟨h j (by simp), UpL.of fun k hk => h k (by simp [hk])⟩
/-- What has come up has come up behind what it waits for. -/
def ClosedL (md : Region.Mode) (L : Nat → Bool) : Nat → List Oper → Prop
  | _, [] => True
  | i, o :: l => (L i = true → UpL L (predL md o)) ∧ ClosedL md L (i + 1) l
theorem ClosedL.of {L : Nat → Bool} : ∀ {l : List Oper} {k : Nat}, (∀ i o, l[i]? = some o → L (k + i) = true → ∀ j ∈ predL md o, L j = true) → ClosedL md L k l
  | [], _, _ => trivial
  | o :: l, k, h => ⟨fun h0 => UpL.of (h 0 o (by simp) (by simpa using h0)), ClosedL.of fun i o' ho h1 => h (i + 1) o' (by simpa using ho) (by rw [show k + (i + 1) = k + 1 + i by omega]; exact h1)⟩
def OblS (P : Program) (md : Region.Mode) (ops : Array Oper) (a : Act) (C : (Nat → Bool) → (Nat → Value) → World → Prop) (i : Nat) (o : Oper) : Prop :=
  ∀ (L : Nat → Bool) (w : World) (vals : Nat → Value), L i = false → UpL L (predL md o) → ClosedL md L 0 ops.toList → C L vals w →
    wpList P ops (LPost a.defers o.dst fun v w' => C (setL L i) (setV vals i v) w') [o] (fillA (fun _ => true) vals 0 ops.toList a) w
def OblAllS (P : Program) (md : Region.Mode) (ops : Array Oper) (a : Act) (C : (Nat → Bool) → (Nat → Value) → World → Prop) : Nat → List Oper → Prop
  | _, [] => True
  | i, o :: l => OblS P md ops a C i o ∧ OblAllS P md ops a C (i + 1) l
theorem OblAllS.get {a : Act} {C : (Nat → Bool) → (Nat → Value) → World → Prop} : ∀ {l : List Oper} {k : Nat}, OblAllS P md ops a C k l → ∀ {i : Nat} {o : Oper}, l[i]? = some o → OblS P md ops a C (k + i) o
  | [], _, _, _, _, h => by simp at h
  | o' :: l, k, h, 0, o, ho => by
    simp only [List.getElem?_cons_zero, Option.some.injEq] at ho
    subst ho; exact h.1
  | o' :: l, k, h, i + 1, o, ho => by
    rw [show k + (i + 1) = k + 1 + i by omega]
    exact OblAllS.get h.2 (by simpa using ho)

variable {a : Act} {C : (Nat → Bool) → (Nat → Value) → World → Prop} {Q : Exit → Act → World → Prop}
theorem wpAny_looseS {n : Nat} (hB : looseB md ops n = true) (hsz : a.tmps.size = n) (hobl : OblAllS P md ops a C 0 ops.toList)
    (hend : ∀ w vals L, C L vals w → (∀ j, j < ops.size → L j = true) → Q .normal (fillA (fun _ => true) vals 0 ops.toList a) w) :
    ∀ (fuel : Nat) (listed : Array Bool) (w : World) (vals : Nat → Value), listed.size = ops.size → leftN listed = fuel → C (fun j => listed.getD j false) vals w → (∀ i o, ops[i]? = some o → listed.getD i false = true → ∀ j ∈ predL md o, listed.getD j false = true) →
      wpAny P md ops Q fuel listed (fillA (fun j => listed.getD j false) vals 0 ops.toList a) w := by
  simp only [looseB, Bool.and_eq_true] at hB
  obtain ⟨⟨hsel, hdist⟩, hat⟩ := hB
  have hat' : ∀ i o, ops[i]? = some o → looseAt md ops n i o = true := fun i o ho => by
    have := List.all_eq_true.1 hat i (by simpa using (Array.getElem?_eq_some_iff.1 ho).1)
    simpa [ho] using this
  intro fuel
  induction fuel with
  | zero =>
    intro listed w vals hls hlf hC hcl
    have hall := left_zero hlf
    constructor
    · rw [List.eq_nil_iff_forall_not_mem]
      intro j hj
      obtain ⟨h1, o, ho, _⟩ := mem_ready.1 hj
      have hlt : j < listed.size := by rw [hls]; exact (Array.getElem?_eq_some_iff.1 ho).1
      have h2 := hall j hlt
      simp [hlt] at h1 h2
      rw [h1] at h2; cases h2
    · have := hend w vals _ hC (fun j hj => hall j (by omega))
      rw [fillA_congr (L' := fun _ => true) (v' := vals) ops.toList 0 a fun j _ hj => ⟨hall j (by rw [hls]; simpa using hj), rfl⟩]
      exact this
  | succ fuel ih =>
    intro listed w vals hls hlf hC hcl
    refine ⟨fun h0 => ?_, fun i hi => ?_⟩
    · exfalso
      obtain ⟨i, hi, hil⟩ := left_some (listed := listed) (by omega)
      have : ∀ m i, i ≤ m → i < listed.size → listed.getD i true = false → False := by
        intro m
        induction m with
        | zero =>
          intro i him hi hil
          obtain rfl : i = 0 := by omega
          have : 0 ∈ Region.ready md ops listed := mem_ready.2 ⟨hil, ops[0]'(by omega), by simp [show 0 < ops.size by omega], fun e he hb => by
            have h3 := hat' 0 (ops[0]'(by omega)) (by simp [show 0 < ops.size by omega])
            simp only [looseAt, Bool.and_eq_true] at h3
            have := List.all_eq_true.1 h3.1.1 e.on (mem_predE.2 ⟨e, by simpa using he, hb, rfl⟩)
            simp at this⟩
          rw [h0] at this; cases this
        | succ m ihm =>
          intro i him hi hil
          have : i ∈ Region.ready md ops listed := mem_ready.2 ⟨hil, ops[i]'(by omega), by simp [show i < ops.size by omega], fun e he hb => by
            have h3 := hat' i (ops[i]'(by omega)) (by simp [show i < ops.size by omega])
            simp only [looseAt, Bool.and_eq_true] at h3
            have := List.all_eq_true.1 h3.1.1 e.on (mem_predE.2 ⟨e, by simpa using he, hb, rfl⟩)
            have hlt : e.on < i := by simpa using this
            cases hv : listed.getD e.on false with
            | true => rfl
            | false =>
              exfalso
              refine ihm e.on (by omega) (by omega) ?_
              have : e.on < listed.size := by omega
              simp [this] at hv ⊢
              exact hv⟩
          rw [h0] at this; cases this
      exact this i i (Nat.le_refl _) hi hil
    · obtain ⟨hun, o, ho, hall⟩ := mem_ready.1 hi
      have hA := hat' i o ho
      simp only [looseAt, Bool.and_eq_true] at hA
      obtain ⟨⟨_, hlook⟩, hdst⟩ := hA
      have hunF : (fun j => listed.getD j false) i = false := by
        have hi' : i < listed.size := by rw [hls]; exact (Array.getElem?_eq_some_iff.1 ho).1
        simp [hi'] at hun ⊢; exact hun
      have hol : ops.toList[i]? = some o := by simpa using ho
      have hpre : ∀ j ∈ predL md o, listed.getD j false = true := fun j hj => by
        obtain ⟨e, he1, he2, rfl⟩ := mem_predE.1 hj
        exact hall e (by simpa using he1) he2
      have H := hobl.get hol (fun j => listed.getD j false) w vals (by rw [Nat.zero_add]; exact hunF) (UpL.of hpre) (ClosedL.of fun k ok hok h1 => hcl k ok (by simpa using hok) (by rw [Nat.zero_add] at h1; exact h1)) hC
      rw [Nat.zero_add] at H
      have hlooks : ∀ t ∈ o.looksAt ops, (fillA (fun j => listed.getD j false) vals 0 ops.toList a).eval (.tmp t) = (fillA (fun _ => true) vals 0 ops.toList a).eval (.tmp t) := fun t ht => by
        refine fillA_eval _ vals (.tmp t) ops.toList 0 a a rfl rfl fun j oj hoj t' ht' hx => ?_
        rw [Nat.zero_add]
        cases hx
        have h3 := List.all_eq_true.1 hlook t ht
        have hjo : ops[j]? = some oj := by simpa using hoj
        have h4 := List.all_eq_true.1 h3 j (by simpa using (Array.getElem?_eq_some_iff.1 hjo).1)
        simp only [hjo, ht', bne_self_eq_false, Bool.false_or] at h4
        exact hpre j (by simpa using h4)
      generalize hA1 : fillA (fun j => listed.getD j false) vals 0 ops.toList a = A1 at *
      generalize hA2 : fillA (fun _ => true) vals 0 ops.toList a = A2 at *
      have hs1 : A1.tmps.size = n := by rw [← hA1, fillA_size, hsz]
      have hs2 : A2.tmps.size = n := by rw [← hA2, fillA_size, hsz]
      have hd2 : A2.defers = a.defers := by rw [← hA2, fillA_defers]
      have hex : execOp A1.eval o = execOp A2.eval o := execOp_congr o (fun cs b => Region.noSelect_spec hsel i o cs b ho) fun x hx => by
        cases x with
        | tmp t => exact hlooks t (List.mem_append_left _ (List.mem_filterMap.2 ⟨.tmp t, by simpa using hx, rfl⟩))
        | _ => rfl
      have hwa : Region.wanted o (yielded ops A1.tmps) = Region.wanted o (yielded ops A2.tmps) := by
        unfold Region.wanted
        cases hg : o.guard with
        | none => rfl
        | some gw =>
          obtain ⟨g, want⟩ := gw
          have := yielded_congr (ops := ops) (g := g) (hs1.trans hs2.symm) fun d hd => hlooks d (by simp [Oper.looksAt, hg, hd])
          simp only [this]
      have next : ∀ u w', (LPost a.defers o.dst (fun v w' => C (setL (fun j => listed.getD j false) i) (setV vals i v) w')) .normal (A2.put o.dst u) w' → wpAny P md ops Q fuel (listed.setIfInBounds i true) (A1.put o.dst u) w' := fun u w' hp => by
        obtain ⟨_, hC'⟩ := hp
        rw [← getV_put A1 o.dst u hs1 hdst, getV_same o.dst u (hs1.trans hs2.symm) hs1 hdst]
        generalize getV (A2.put o.dst u) o.dst = v at *
        have e1 := fillA_set (fun j => listed.getD j false) vals i v o ops.toList 0 a hdist (Nat.zero_le _) (by simpa using ho) hunF
        rw [hA1, ← set_listed hun] at e1
        rw [← e1]
        rw [← set_listed hun] at hC'
        have hset : ∀ j, (listed.setIfInBounds i true).getD j false = true → j = i ∨ listed.getD j false = true := fun j hj => by
          have hj' : setL (fun j => listed.getD j false) i j = true := by rw [← set_listed hun]; exact hj
          unfold setL at hj'
          by_cases e : j = i
          · exact .inl e
          · rw [if_neg e] at hj'; exact .inr hj'
        refine ih (listed.setIfInBounds i true) w' (setV vals i v) (by simpa using hls) (left_set hun hlf) hC' (fun j oj hoj hj k hk => ?_)
        have hup : ∀ k, listed.getD k false = true → (listed.setIfInBounds i true).getD k false = true := fun k hk => getD_set_true hk
        rcases hset j hj with e | e
        · subst e
          rw [ho] at hoj
          cases hoj
          exact hup k (hpre k hk)
        · exact hup k (hcl j oj hoj e k hk)
      unfold wpOp
      simp only [ho]
      simp only [wpList] at H
      rw [hwa]
      split
      · rename_i hw
        simp only [hw, if_true] at H
        rcases H with H | ⟨_, a', w', hf⟩
        case inr => exact hf.elim
        refine .inl ?_
        unfold Oper.wp at *
        rw [hex]
        generalize (execOp A2.eval o).run P w = r at *
        cases r with
        | ok nx w' =>
          cases nx <;> simp only [Oper.upon] at H ⊢
          case value u => exact next u w' H
          case skip => exact next undef w' H
          case defer d =>
            exfalso
            have := H.1
            rw [put_defers] at this
            simp [hd2] at this
          case enter f args =>
            refine Calls.mono H fun e w'' he => ?_
            cases e with
            | returned u => exact next u w'' he
            | panicked c => exact (he : False).elim
            | outgrown => exact he.elim fun _ h => h.elim fun _ h => (h : False).elim
          case row row args => exact Rows.mono H fun u w'' he => next u w'' he
        | halt x w' =>
          cases x <;> simp only [Oper.upon] at H ⊢
          case panic u => exact (H : False).elim
      · rename_i hw
        simp only [hw] at H
        exact next undef w H
/-- **A region that draws its order**, its state told by what has come up. -/
theorem wp_region_looseS {id : Nat} {w : World} {l : List Oper} (n : Nat) (hm : P.follows .mixedOrders = true) (hB : looseB .any l.toArray n = true) (C : (Nat → Bool) → (Nat → Value) → World → Prop)
    (hsz : a.tmps.size = n) (h0 : C (fun _ => false) (fun _ => undef) w.drew) (hobl : OblAllS P .any l.toArray a C 0 l)
    (hend : ∀ w vals L, C L vals w → (∀ j, j < l.length → L j = true) → Q .normal (fillA (fun _ => true) vals 0 l a) w) : (Code.region id l.toArray true).wp P Q a w := by
  refine wp_region_any hm ?_
  have hl : leftN (Array.replicate l.toArray.size false) = l.length := by simp [leftN]
  have e0 : (fun j => (Array.replicate l.toArray.size false).getD j false) = fun _ => false := by funext j; exact getD_replicate_false _ _
  have H := wpAny_looseS (Q := Q) hB hsz (by simpa using hobl) (fun w vals L h1 h2 => by simpa using hend w vals L h1 (by simpa using h2)) l.length (Array.replicate l.toArray.size false) w.drew (fun _ => undef)
    (by simp) hl (by rw [e0]; exact h0) (fun i o _ hi => by rw [getD_replicate_false] at hi; cases hi)
  have e : fillA (fun j => (Array.replicate l.toArray.size false).getD j false) (fun _ => undef) 0 l.toArray.toList a = a := by
    rw [e0]
    have : ∀ (l : List Oper) (k : Nat) (a : Act), fillA (fun _ => false) (fun _ => undef) k l a = a := by
      intro l
      induction l with
      | nil => intros; rfl
      | cons o l ih => intro k a; rw [fillA]; exact ih _ _
    exact this _ _ _
  rw [e] at H
  simpa using H
end
theorem setL_at (L : Nat → Bool) (i : Nat) : setL L i i = true := by simp [setL]
theorem setL_ne {L : Nat → Bool} {i j : Nat} (h : j ≠ i) : setL L i j = L j := by simp [setL, h]
theorem setV_at (v : Nat → Value) (i : Nat) (u : Value) : setV v i u i = u := by simp [setV]
theorem setV_ne {v : Nat → Value} {i j : Nat} {u : Value} (h : j ≠ i) : setV v i u j = v j := by simp [setV, h]
/-! ### (LooseG) The law for drawn regions with a ghost: what is known of the values and of the world may speak of something (G) that an operation makes anew. No program is named. -/
section
universe u
variable {P : Program} {ops : Array Oper} {md : Region.Mode} {Γ : Type u}
theorem one_mono {o : Oper} {a : Act} {w : World} {ds : List Deferred} {d : Option Tmp} {G G' : Value → World → Prop} (hG : ∀ v w, G v w → G' v w) (H : wpList P ops (LPost ds d G) [o] a w) : wpList P ops (LPost ds d G') [o] a w := by
  simp only [wpList] at H ⊢
  split
  · rename_i hw
    simp only [hw, if_true] at H
    rcases H with H | ⟨_, a', w', hf⟩
    case inr => exact hf.elim
    refine .inl ?_
    unfold Oper.wp at *
    generalize (execOp a.eval o).run P w = r at *
    cases r with
    | ok nx w' =>
      cases nx <;> simp only [Oper.upon] at H ⊢
      case value u => exact ⟨H.1, hG _ _ H.2⟩
      case skip => exact ⟨H.1, hG _ _ H.2⟩
      case defer d => exact ⟨H.1, hG _ _ H.2⟩
      case enter f args =>
        refine Calls.mono H fun e w'' he => ?_
        cases e with
        | returned u => exact ⟨he.1, hG _ _ he.2⟩
        | panicked c => exact (he : False).elim
        | outgrown => exact he.elim fun _ h => h.elim fun _ h => (h : False).elim
      case row row args => exact Rows.mono H fun u w'' he => ⟨he.1, hG _ _ he.2⟩
    | halt x w' =>
      cases x <;> simp only [Oper.upon] at H ⊢
      case panic u => exact (H : False).elim
  · rename_i hw
    simp only [hw] at H
    exact ⟨H.1, hG _ _ H.2⟩
def OblG (P : Program) (md : Region.Mode) (ops : Array Oper) (a : Act) (C : Γ → (Nat → Bool) → World → Prop) (V : Γ → Nat → Value → World → Prop) (i : Nat) (o : Oper) : Prop :=
  ∀ (γ : Γ) (L : Nat → Bool) (w : World) (vals : Nat → Value), L i = false → UpL L (predL md o) → ClosedL md L 0 ops.toList → C γ L w → PreV (V γ) vals w (predL md o) →
    wpList P ops (LPost a.defers o.dst fun v w' => ∃ γ', C γ' (setL L i) w' ∧ V γ' i v w' ∧ ∀ j u, L j = true → V γ j u w → V γ' j u w') [o] (fillA (fun _ => true) vals 0 ops.toList a) w
def OblAllG (P : Program) (md : Region.Mode) (ops : Array Oper) (a : Act) (C : Γ → (Nat → Bool) → World → Prop) (V : Γ → Nat → Value → World → Prop) : Nat → List Oper → Prop
  | _, [] => True
  | i, o :: l => OblG P md ops a C V i o ∧ OblAllG P md ops a C V (i + 1) l
def StG (C : Γ → (Nat → Bool) → World → Prop) (V : Γ → Nat → Value → World → Prop) (L : Nat → Bool) (vals : Nat → Value) (w : World) : Prop := ∃ γ, C γ L w ∧ ∀ i, L i = true → V γ i (vals i) w
theorem PreV.of {V : Nat → Value → World → Prop} {vals : Nat → Value} {w : World} {L : Nat → Bool} (h : ∀ i, L i = true → V i (vals i) w) : ∀ {l : List Nat}, UpL L l → PreV V vals w l
  | [], _ => trivial
  | j :: l, hu => ⟨h j hu.1, PreV.of h hu.2⟩
theorem OblAllG.s {a : Act} {C : Γ → (Nat → Bool) → World → Prop} {V : Γ → Nat → Value → World → Prop} : ∀ (l : List Oper) (k : Nat), OblAllG P md ops a C V k l → OblAllS P md ops a (StG C V) k l
  | [], _, _ => trivial
  | o :: l, k, h => by
    refine ⟨fun L w vals hi hu hcl hC => ?_, OblAllG.s l (k + 1) h.2⟩
    obtain ⟨γ, h1, h2⟩ := hC
    refine one_mono (fun v w' hv => ?_) (h.1 γ L w vals hi hu hcl h1 (PreV.of h2 hu))
    obtain ⟨γ', h3, h4, h5⟩ := hv
    refine ⟨γ', h3, fun j hj => ?_⟩
    by_cases e : j = k
    · subst e; rw [setV_at]; exact h4
    · rw [setV_ne e]
      rw [setL_ne e] at hj
      exact h5 j _ hj (h2 j hj)
/-- **A region that draws its order**, with a ghost. -/
theorem wp_region_looseG {a : Act} {Q : Exit → Act → World → Prop} {id : Nat} {w : World} {l : List Oper} (n : Nat) (hm : P.follows .mixedOrders = true) (hB : looseB .any l.toArray n = true) (C : Γ → (Nat → Bool) → World → Prop) (V : Γ → Nat → Value → World → Prop) (γ0 : Γ)
    (hsz : a.tmps.size = n) (h0 : C γ0 (fun _ => false) w.drew) (hobl : OblAllG P .any l.toArray a C V 0 l)
    (hend : ∀ γ w vals L, C γ L w → (∀ j, j < l.length → L j = true) → (∀ j, j < l.length → V γ j (vals j) w) → Q .normal (fillA (fun _ => true) vals 0 l a) w) : (Code.region id l.toArray true).wp P Q a w :=
  wp_region_looseS n hm hB (StG C V) hsz ⟨γ0, h0, fun i hi => by cases hi⟩ (OblAllG.s l 0 hobl) fun w vals L ⟨γ, h1, h2⟩ hall => hend γ w vals L h1 hall fun j hj => h2 j (hall j hj)
end
/-! ### (LooseH) The laws LooseS and LooseG once more, for regions in which an operation assigns a slot that an earlier one has read ('out = append(out, ..)'): an operation is walked from the frame in which those ahead of it in the text have put their values. No program is named. -/
section
variable {P : Program} {ops : Array Oper} {md : Region.Mode}
/-- Which operations wait for i, whatever lies between. -/
def waitsL (md : Region.Mode) (i : Nat) : List Oper → Nat → List Nat → List Nat
  | [], _, acc => acc
  | o :: l, k, acc => waitsL md i l (k + 1) (if (predL md o).any (fun p => p == i || acc.contains p) then k :: acc else acc)
theorem waitsL_sound {L : Nat → Bool} {i : Nat} : ∀ (l : List Oper) (k : Nat) (acc : List Nat), (∀ j ∈ acc, L j = true → L i = true) → (∀ j o, l[j]? = some o → L (k + j) = true → ∀ p ∈ predL md o, L p = true) → ∀ j ∈ waitsL md i l k acc, L j = true → L i = true
  | [], _, acc, h, _ => h
  | o :: l, k, acc, h, hc => by
    rw [waitsL]
    refine waitsL_sound l (k + 1) _ ?_ (fun j o' hj => by rw [show k + 1 + j = k + (j + 1) by omega]; exact hc (j + 1) o' (by simpa using hj))
    split
    · rename_i hany
      intro j hj hL
      rcases List.mem_cons.1 hj with rfl | hj
      · obtain ⟨p, hp, hpe⟩ := List.any_eq_true.1 hany
        have hLp := hc 0 o (by simp) (by simpa using hL) p hp
        rcases Bool.or_eq_true_iff.1 hpe with e | e
        · rw [← eq_of_beq e]; exact hLp
        · exact h p (by simpa using e) hLp
      · exact h j hj hL
    · exact h
theorem fillA_eval2 (L L' : Nat → Bool) (vals : Nat → Value) (x : Operand) : ∀ (l : List Oper) (k : Nat) (a a' : Act), a.eval x = a'.eval x → a.tmps.size = a'.tmps.size →
    (∀ j o, l[j]? = some o → ∀ t, o.dst = some t → x = .tmp t → L (k + j) = L' (k + j)) → (fillA L vals k l a).eval x = (fillA L' vals k l a').eval x
  | [], _, _, _, h, _, _ => h
  | o :: l, k, a, a', h, hs, hj => by
    rw [fillA, fillA]
    have hrec : ∀ j o', l[j]? = some o' → ∀ t, o'.dst = some t → x = .tmp t → L (k + 1 + j) = L' (k + 1 + j) := fun j o' ho' t ht hx => by
      have := hj (j + 1) o' (by simpa using ho') t ht hx
      rwa [show k + (j + 1) = k + 1 + j by omega] at this
    have off : L k ≠ L' k → ∀ d, o.dst = some d → x ≠ .tmp d := fun hne d hd hx => hne (by have := hj 0 o (by simp) d hd hx; simpa using this)
    cases hl : L k <;> cases hl' : L' k <;> simp only [if_true, Bool.false_eq_true, if_false]
    · exact fillA_eval2 L L' vals x l (k + 1) _ _ h hs hrec
    · refine fillA_eval2 L L' vals x l (k + 1) _ _ ?_ (by rw [put_size]; exact hs) hrec
      rw [h]
      exact (Act.eval_put fun d hd hx => off (by rw [hl, hl']; decide) d hd hx).symm
    · refine fillA_eval2 L L' vals x l (k + 1) _ _ ?_ (by rw [put_size]; exact hs) hrec
      rw [← h]
      exact Act.eval_put fun d hd hx => off (by rw [hl, hl']; decide) d hd hx
    · exact fillA_eval2 L L' vals x l (k + 1) _ _ (eval_put_both h hs _ _) (by rw [put_size, put_size]; exact hs) hrec
/-- Operation number i waits for earlier ones alone; what it looks at has been put by those that it waits for, or will be put by those that wait for it. -/
def looseAt2 (md : Region.Mode) (ops : Array Oper) (n i : Nat) (o : Oper) : Bool :=
  (predL md o).all (fun j => decide (j < i)) &&
  (o.looksAt ops).all (fun t => (List.range ops.size).all fun j => match ops[j]? with | some oj => oj.dst != some t || (predL md o).contains j || (decide (i < j) && (waitsL md i ops.toList 0 []).contains j) | none => true) &&
  (match o.dst with | some d => decide (d < n) | none => true)
def looseB2 (md : Region.Mode) (ops : Array Oper) (n : Nat) : Bool :=
  Region.noSelect ops && distB ops.toList && (List.range ops.size).all fun i => match ops[i]? with | some o => looseAt2 md ops n i o | none => true
def OblH (P : Program) (md : Region.Mode) (ops : Array Oper) (a : Act) (C : (Nat → Bool) → (Nat → Value) → World → Prop) (i : Nat) (o : Oper) : Prop :=
  ∀ (L : Nat → Bool) (w : World) (vals : Nat → Value), L i = false → UpL L (predL md o) → ClosedL md L 0 ops.toList → C L vals w →
    wpList P ops (LPost a.defers o.dst fun v w' => C (setL L i) (setV vals i v) w') [o] (fillA (fun j => decide (j < i)) vals 0 ops.toList a) w
def OblAllH (P : Program) (md : Region.Mode) (ops : Array Oper) (a : Act) (C : (Nat → Bool) → (Nat → Value) → World → Prop) : Nat → List Oper → Prop
  | _, [] => True
  | i, o :: l => OblH P md ops a C i o ∧ OblAllH P md ops a C (i + 1) l
theorem OblAllH.get {a : Act} {C : (Nat → Bool) → (Nat → Value) → World → Prop} : ∀ {l : List Oper} {k : Nat}, OblAllH P md ops a C k l → ∀ {i : Nat} {o : Oper}, l[i]? = some o → OblH P md ops a C (k + i) o
  | [], _, _, _, _, h => by simp at h
  | o' :: l, k, h, 0, o, ho => by
    simp only [List.getElem?_cons_zero, Option.some.injEq] at ho
    subst ho; exact h.1
  | o' :: l, k, h, i + 1, o, ho => by
    rw [show k + (i + 1) = k + 1 + i by omega]
    exact OblAllH.get h.2 (by simpa using ho)

variable {a : Act} {C : (Nat → Bool) → (Nat → Value) → World → Prop} {Q : Exit → Act → World → Prop}
theorem wpAny_looseH {n : Nat} (hB : looseB2 md ops n = true) (hsz : a.tmps.size = n) (hobl : OblAllH P md ops a C 0 ops.toList)
    (hend : ∀ w vals L, C L vals w → (∀ j, j < ops.size → L j = true) → Q .normal (fillA (fun _ => true) vals 0 ops.toList a) w) :
    ∀ (fuel : Nat) (listed : Array Bool) (w : World) (vals : Nat → Value), listed.size = ops.size → leftN listed = fuel → C (fun j => listed.getD j false) vals w → (∀ i o, ops[i]? = some o → listed.getD i false = true → ∀ j ∈ predL md o, listed.getD j false = true) →
      wpAny P md ops Q fuel listed (fillA (fun j => listed.getD j false) vals 0 ops.toList a) w := by
  simp only [looseB2, Bool.and_eq_true] at hB
  obtain ⟨⟨hsel, hdist⟩, hat⟩ := hB
  have hat' : ∀ i o, ops[i]? = some o → looseAt2 md ops n i o = true := fun i o ho => by
    have := List.all_eq_true.1 hat i (by simpa using (Array.getElem?_eq_some_iff.1 ho).1)
    simpa [ho] using this
  intro fuel
  induction fuel with
  | zero =>
    intro listed w vals hls hlf hC hcl
    have hall := left_zero hlf
    constructor
    · rw [List.eq_nil_iff_forall_not_mem]
      intro j hj
      obtain ⟨h1, o, ho, _⟩ := mem_ready.1 hj
      have hlt : j < listed.size := by rw [hls]; exact (Array.getElem?_eq_some_iff.1 ho).1
      have h2 := hall j hlt
      simp [hlt] at h1 h2
      rw [h1] at h2; cases h2
    · have := hend w vals _ hC (fun j hj => hall j (by omega))
      rw [fillA_congr (L' := fun _ => true) (v' := vals) ops.toList 0 a fun j _ hj => ⟨hall j (by rw [hls]; simpa using hj), rfl⟩]
      exact this
  | succ fuel ih =>
    intro listed w vals hls hlf hC hcl
    refine ⟨fun h0 => ?_, fun i hi => ?_⟩
    · exfalso
      obtain ⟨i, hi, hil⟩ := left_some (listed := listed) (by omega)
      have : ∀ m i, i ≤ m → i < listed.size → listed.getD i true = false → False := by
        intro m
        induction m with
        | zero =>
          intro i him hi hil
          obtain rfl : i = 0 := by omega
          have : 0 ∈ Region.ready md ops listed := mem_ready.2 ⟨hil, ops[0]'(by omega), by simp [show 0 < ops.size by omega], fun e he hb => by
            have h3 := hat' 0 (ops[0]'(by omega)) (by simp [show 0 < ops.size by omega])
            simp only [looseAt2, Bool.and_eq_true] at h3
            have := List.all_eq_true.1 h3.1.1 e.on (mem_predE.2 ⟨e, by simpa using he, hb, rfl⟩)
            simp at this⟩
          rw [h0] at this; cases this
        | succ m ihm =>
          intro i him hi hil
          have : i ∈ Region.ready md ops listed := mem_ready.2 ⟨hil, ops[i]'(by omega), by simp [show i < ops.size by omega], fun e he hb => by
            have h3 := hat' i (ops[i]'(by omega)) (by simp [show i < ops.size by omega])
            simp only [looseAt2, Bool.and_eq_true] at h3
            have := List.all_eq_true.1 h3.1.1 e.on (mem_predE.2 ⟨e, by simpa using he, hb, rfl⟩)
            have hlt : e.on < i := by simpa using this
            cases hv : listed.getD e.on false with
            | true => rfl
            | false =>
              exfalso
              refine ihm e.on (by omega) (by omega) ?_
              have : e.on < listed.size := by omega
              simp [this] at hv ⊢
              exact hv⟩
          rw [h0] at this; cases this
      exact this i i (Nat.le_refl _) hi hil
    · obtain ⟨hun, o, ho, hall⟩ := mem_ready.1 hi
      have hA := hat' i o ho
      simp only [looseAt2, Bool.and_eq_true] at hA
      obtain ⟨⟨hAll, hlook⟩, hdst⟩ := hA
      have hunF : (fun j => listed.getD j false) i = false := by
        have hi' : i < listed.size := by rw [hls]; exact (Array.getElem?_eq_some_iff.1 ho).1
        simp [hi'] at hun ⊢; exact hun
      have hol : ops.toList[i]? = some o := by simpa using ho
      have hpre : ∀ j ∈ predL md o, listed.getD j false = true := fun j hj => by
        obtain ⟨e, he1, he2, rfl⟩ := mem_predE.1 hj
        exact hall e (by simpa using he1) he2
      have H := hobl.get hol (fun j => listed.getD j false) w vals (by rw [Nat.zero_add]; exact hunF) (UpL.of hpre) (ClosedL.of fun k ok hok h1 => hcl k ok (by simpa using hok) (by rw [Nat.zero_add] at h1; exact h1)) hC
      rw [Nat.zero_add] at H
      have hearly : ∀ j ∈ predL md o, j < i := fun j hj => by
        have := List.all_eq_true.1 hAll j hj
        simpa using this
      have hlooks : ∀ t ∈ o.looksAt ops, (fillA (fun j => listed.getD j false) vals 0 ops.toList a).eval (.tmp t) = (fillA (fun j => decide (j < i)) vals 0 ops.toList a).eval (.tmp t) := fun t ht => by
        refine fillA_eval2 _ _ vals (.tmp t) ops.toList 0 a a rfl rfl fun j oj hoj t' ht' hx => ?_
        rw [Nat.zero_add]
        cases hx
        have h3 := List.all_eq_true.1 hlook t ht
        have hjo : ops[j]? = some oj := by simpa using hoj
        have h4 := List.all_eq_true.1 h3 j (by simpa using (Array.getElem?_eq_some_iff.1 hjo).1)
        simp only [hjo, ht', bne_self_eq_false, Bool.false_or, Bool.or_eq_true, Bool.and_eq_true, List.contains_iff_mem, decide_eq_true_eq] at h4
        rcases h4 with h4 | ⟨h4, h5⟩
        · rw [hpre j h4]
          exact (decide_eq_true (hearly j h4)).symm
        · have h6 : listed.getD j false = false := by
            cases e : listed.getD j false with
            | false => rfl
            | true =>
              have h7 := waitsL_sound (md := md) (L := fun j => listed.getD j false) (i := i) ops.toList 0 [] (by simp) (fun j' o' hj' hL' => by
                rw [Nat.zero_add] at hL'
                exact hcl j' o' (by simpa using hj') hL') j h5 e
              have h8 : listed.getD i false = false := hunF
              rw [h8] at h7; cases h7
          rw [h6]
          exact (decide_eq_false (by omega)).symm
      generalize hA1 : fillA (fun j => listed.getD j false) vals 0 ops.toList a = A1 at *
      generalize hA2 : fillA (fun j => decide (j < i)) vals 0 ops.toList a = A2 at *
      have hs1 : A1.tmps.size = n := by rw [← hA1, fillA_size, hsz]
      have hs2 : A2.tmps.size = n := by rw [← hA2, fillA_size, hsz]
      have hd2 : A2.defers = a.defers := by rw [← hA2, fillA_defers]
      have hex : execOp A1.eval o = execOp A2.eval o := execOp_congr o (fun cs b => Region.noSelect_spec hsel i o cs b ho) fun x hx => by
        cases x with
        | tmp t => exact hlooks t (List.mem_append_left _ (List.mem_filterMap.2 ⟨.tmp t, by simpa using hx, rfl⟩))
        | _ => rfl
      have hwa : Region.wanted o (yielded ops A1.tmps) = Region.wanted o (yielded ops A2.tmps) := by
        unfold Region.wanted
        cases hg : o.guard with
        | none => rfl
        | some gw =>
          obtain ⟨g, want⟩ := gw
          have := yielded_congr (ops := ops) (g := g) (hs1.trans hs2.symm) fun d hd => hlooks d (by simp [Oper.looksAt, hg, hd])
          simp only [this]
      have next : ∀ u w', (LPost a.defers o.dst (fun v w' => C (setL (fun j => listed.getD j false) i) (setV vals i v) w')) .normal (A2.put o.dst u) w' → wpAny P md ops Q fuel (listed.setIfInBounds i true) (A1.put o.dst u) w' := fun u w' hp => by
        obtain ⟨_, hC'⟩ := hp
        rw [← getV_put A1 o.dst u hs1 hdst, getV_same o.dst u (hs1.trans hs2.symm) hs1 hdst]
        generalize getV (A2.put o.dst u) o.dst = v at *
        have e1 := fillA_set (fun j => listed.getD j false) vals i v o ops.toList 0 a hdist (Nat.zero_le _) (by simpa using ho) hunF
        rw [hA1, ← set_listed hun] at e1
        rw [← e1]
        rw [← set_listed hun] at hC'
        have hset : ∀ j, (listed.setIfInBounds i true).getD j false = true → j = i ∨ listed.getD j false = true := fun j hj => by
          have hj' : setL (fun j => listed.getD j false) i j = true := by rw [← set_listed hun]; exact hj
          unfold setL at hj'
          by_cases e : j = i
          · exact .inl e
          · rw [if_neg e] at hj'; exact .inr hj'
        refine ih (listed.setIfInBounds i true) w' (setV vals i v) (by simpa using hls) (left_set hun hlf) hC' (fun j oj hoj hj k hk => ?_)
        have hup : ∀ k, listed.getD k false = true → (listed.setIfInBounds i true).getD k false = true := fun k hk => getD_set_true hk
        rcases hset j hj with e | e
        · subst e
          rw [ho] at hoj
          cases hoj
          exact hup k (hpre k hk)
        · exact hup k (hcl j oj hoj e k hk)
      unfold wpOp
      simp only [ho]
      simp only [wpList] at H
      rw [hwa]
      split
      · rename_i hw
        simp only [hw, if_true] at H
        rcases H with H | ⟨_, a', w', hf⟩
        case inr => exact hf.elim
        refine .inl ?_
        unfold Oper.wp at *
        rw [hex]
        generalize (execOp A2.eval o).run P w = r at *
        cases r with
        | ok nx w' =>
          cases nx <;> simp only [Oper.upon] at H ⊢
          case value u => exact next u w' H
          case skip => exact next undef w' H
          case defer d =>
            exfalso
            have := H.1
            rw [put_defers] at this
            simp [hd2] at this
          case enter f args =>
            refine Calls.mono H fun e w'' he => ?_
            cases e with
            | returned u => exact next u w'' he
            | panicked c => exact (he : False).elim
            | outgrown => exact he.elim fun _ h => h.elim fun _ h => (h : False).elim
          case row row args => exact Rows.mono H fun u w'' he => next u w'' he
        | halt x w' =>
          cases x <;> simp only [Oper.upon] at H ⊢
          case panic u => exact (H : False).elim
      · rename_i hw
        simp only [hw] at H
        exact next undef w H
/-- **A region that draws its order**, its state told by what has come up. -/
theorem wp_region_looseH {id : Nat} {w : World} {l : List Oper} (n : Nat) (hm : P.follows .mixedOrders = true) (hB : looseB2 .any l.toArray n = true) (C : (Nat → Bool) → (Nat → Value) → World → Prop)
    (hsz : a.tmps.size = n) (h0 : C (fun _ => false) (fun _ => undef) w.drew) (hobl : OblAllH P .any l.toArray a C 0 l)
    (hend : ∀ w vals L, C L vals w → (∀ j, j < l.length → L j = true) → Q .normal (fillA (fun _ => true) vals 0 l a) w) : (Code.region id l.toArray true).wp P Q a w := by
  refine wp_region_any hm ?_
  have hl : leftN (Array.replicate l.toArray.size false) = l.length := by simp [leftN]
  have e0 : (fun j => (Array.replicate l.toArray.size false).getD j false) = fun _ => false := by funext j; exact getD_replicate_false _ _
  have H := wpAny_looseH (Q := Q) hB hsz (by simpa using hobl) (fun w vals L h1 h2 => by simpa using hend w vals L h1 (by simpa using h2)) l.length (Array.replicate l.toArray.size false) w.drew (fun _ => undef)
    (by simp) hl (by rw [e0]; exact h0) (fun i o _ hi => by rw [getD_replicate_false] at hi; cases hi)
  have e : fillA (fun j => (Array.replicate l.toArray.size false).getD j false) (fun _ => undef) 0 l.toArray.toList a = a := by
    rw [e0]
    have : ∀ (l : List Oper) (k : Nat) (a : Act), fillA (fun _ => false) (fun _ => undef) k l a = a := by
      intro l
      induction l with
      | nil => intros; rfl
      | cons o l ih => intro k a; rw [fillA]; exact ih _ _
    exact this _ _ _
  rw [e] at H
  simpa using H
end
section
universe u
variable {P : Program} {ops : Array Oper} {md : Region.Mode} {Γ : Type u}
def OblI (P : Program) (md : Region.Mode) (ops : Array Oper) (a : Act) (C : Γ → (Nat → Bool) → World → Prop) (V : Γ → Nat → Value → World → Prop) (i : Nat) (o : Oper) : Prop :=
  ∀ (γ : Γ) (L : Nat → Bool) (w : World) (vals : Nat → Value), L i = false → UpL L (predL md o) → ClosedL md L 0 ops.toList → C γ L w → PreV (V γ) vals w (predL md o) →
    wpList P ops (LPost a.defers o.dst fun v w' => ∃ γ', C γ' (setL L i) w' ∧ V γ' i v w' ∧ ∀ j u, L j = true → V γ j u w → V γ' j u w') [o] (fillA (fun j => decide (j < i)) vals 0 ops.toList a) w
def OblAllI (P : Program) (md : Region.Mode) (ops : Array Oper) (a : Act) (C : Γ → (Nat → Bool) → World → Prop) (V : Γ → Nat → Value → World → Prop) : Nat → List Oper → Prop
  | _, [] => True
  | i, o :: l => OblI P md ops a C V i o ∧ OblAllI P md ops a C V (i + 1) l
theorem OblAllI.s {a : Act} {C : Γ → (Nat → Bool) → World → Prop} {V : Γ → Nat → Value → World → Prop} : ∀ (l : List Oper) (k : Nat), OblAllI P md ops a C V k l → OblAllH P md ops a (StG C V) k l
  | [], _, _ => trivial
  | o :: l, k, h => by
    refine ⟨fun L w vals hi hu hcl hC => ?_, OblAllI.s l (k + 1) h.2⟩
    obtain ⟨γ, h1, h2⟩ := hC
    refine one_mono (fun v w' hv => ?_) (h.1 γ L w vals hi hu hcl h1 (PreV.of h2 hu))
    obtain ⟨γ', h3, h4, h5⟩ := hv
    refine ⟨γ', h3, fun j hj => ?_⟩
    by_cases e : j = k
    · subst e; rw [setV_at]; exact h4
    · rw [setV_ne e]
      rw [setL_ne e] at hj
      exact h5 j _ hj (h2 j hj)
/-- **A region that draws its order**, with a ghost. -/
theorem wp_region_looseI {a : Act} {Q : Exit → Act → World → Prop} {id : Nat} {w : World} {l : List Oper} (n : Nat) (hm : P.follows .mixedOrders = true) (hB : looseB2 .any l.toArray n = true) (C : Γ → (Nat → Bool) → World → Prop) (V : Γ → Nat → Value → World → Prop) (γ0 : Γ)
    (hsz : a.tmps.size = n) (h0 : C γ0 (fun _ => false) w.drew) (hobl : OblAllI P .any l.toArray a C V 0 l)
    (hend : ∀ γ w vals L, C γ L w → (∀ j, j < l.length → L j = true) → (∀ j, j < l.length → V γ j (vals j) w) → Q .normal (fillA (fun _ => true) vals 0 l a) w) : (Code.region id l.toArray true).wp P Q a w :=
  wp_region_looseH n hm hB (StG C V) hsz ⟨γ0, h0, fun i hi => by cases hi⟩ (OblAllI.s l 0 hobl) fun w vals L ⟨γ, h1, h2⟩ hall => hend γ w vals L h1 hall fun j hj => h2 j (hall j hj)
end
end Go.Proofs.Ytcnpmbgeafkmlaa

