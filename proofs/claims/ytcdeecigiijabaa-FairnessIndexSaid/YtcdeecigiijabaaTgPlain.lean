/-
  Layer 12, plain: costs, finish tags, lists of tags: which are valid, the least one, rebased ones, normalized numbers. No program is named.
-/
import Derived.Test.YtcdeecigiijabaaPlain
namespace Go.Proofs.Ytcdeecigiijabaa
set_option linter.unusedVariables false

structure Tg where
  f : Int
  w : Int
  s : Int
def wtB (w : Int) : Bool := decide (1 ≤ w) && decide (w ≤ 16)
theorem wt_yes {w : Int} (h : wtB w = true) : 1 ≤ w ∧ w ≤ 16 := by unfold wtB at h; simpa using h
theorem wt_of {w : Int} (h : 1 ≤ w ∧ w ≤ 16) : wtB w = true := by unfold wtB; simp; exact h
theorem wt_not {w : Int} (h : ¬ (1 ≤ w ∧ w ≤ 16)) : wtB w = false := by
  cases e : wtB w with
  | false => rfl
  | true => exact absurd (wt_yes e) h
theorem wt_sixteen {w : Int} (h : wtB w = true) : w = 1 ∨ w = 2 ∨ w = 3 ∨ w = 4 ∨ w = 5 ∨ w = 6 ∨ w = 7 ∨ w = 8 ∨ w = 9 ∨ w = 10 ∨ w = 11 ∨ w = 12 ∨ w = 13 ∨ w = 14 ∨ w = 15 ∨ w = 16 := by
  have := wt_yes h; omega
/-- What one byte costs. -/
def unC (w : Int) : Int := 720720 / w
theorem un_bd {w : Int} (h : wtB w = true) : 45045 ≤ unC w ∧ unC w ≤ 720720 := by
  rcases wt_sixteen h with rfl | rfl | rfl | rfl | rfl | rfl | rfl | rfl | rfl | rfl | rfl | rfl | rfl | rfl | rfl | rfl <;> decide
theorem un_mul {w : Int} (h : wtB w = true) : unC w * w = 720720 := by
  rcases wt_sixteen h with rfl | rfl | rfl | rfl | rfl | rfl | rfl | rfl | rfl | rfl | rfl | rfl | rfl | rfl | rfl | rfl <;> decide
/-- Scale is a multiple of every weight, so a product may be divided in either order. -/
theorem un_div {w : Int} (h : wtB w = true) (x : Int) : x * 720720 / w = x * unC w := by
  have e := un_mul h
  have hw := wt_yes h
  rw [← e, ← Int.mul_assoc]
  exact Int.mul_ediv_cancel _ (by omega)
def leB (l : Int) : Bool := decide (1 ≤ l) && decide (l ≤ 4096)
theorem le_yes {l : Int} (h : leB l = true) : 1 ≤ l ∧ l ≤ 4096 := by unfold leB at h; simpa using h
theorem le_of {l : Int} (h : 1 ≤ l ∧ l ≤ 4096) : leB l = true := by unfold leB; simp; exact h
theorem le_not {l : Int} (h : ¬ (1 ≤ l ∧ l ≤ 4096)) : leB l = false := by
  cases e : leB l with
  | false => rfl
  | true => exact absurd (le_yes e) h
/-- Cost. -/
def coE (l w : Int) : Int := if leB l = true ∧ wtB w = true then 0 else 1
def coV (l w : Int) : Int := if leB l = true ∧ wtB w = true then l * unC w else 0
theorem co_no {l w : Int} (h : ¬ (leB l = true ∧ wtB w = true)) : coE l w = 1 ∧ coV l w = 0 := by unfold coE coV; rw [if_neg h, if_neg h]; exact ⟨rfl, rfl⟩
theorem co_yes {l w : Int} (h1 : leB l = true) (h2 : wtB w = true) : coE l w = 0 ∧ coV l w = l * unC w := by unfold coE coV; rw [if_pos ⟨h1, h2⟩, if_pos ⟨h1, h2⟩]; exact ⟨rfl, rfl⟩
theorem mul_bd {l u : Int} {A B : Int} (l0 : 0 ≤ l) (l1 : l ≤ A) (u0 : 0 ≤ u) (u1 : u ≤ B) : 0 ≤ l * u ∧ l * u ≤ A * B :=
  ⟨Int.mul_nonneg l0 u0, Int.le_trans (Int.mul_le_mul_of_nonneg_right l1 u0) (Int.mul_le_mul_of_nonneg_left u1 (by omega))⟩
theorem co_bd {l w : Int} (h1 : leB l = true) (h2 : wtB w = true) : 0 ≤ l * unC w ∧ l * unC w ≤ 2952069120 := by
  have a := le_yes h1
  have b := un_bd h2
  exact mul_bd (A := 4096) (B := 720720) (by omega) a.2 (by omega) b.2
def tgMax : Int := 1099511627776
def stB (s : Int) : Bool := decide (0 ≤ s) && decide (s ≤ 1099511627776)
theorem st_yes {s : Int} (h : stB s = true) : 0 ≤ s ∧ s ≤ 1099511627776 := by unfold stB at h; simpa using h
theorem st_of {s : Int} (h : 0 ≤ s ∧ s ≤ 1099511627776) : stB s = true := by unfold stB; simp; exact h
theorem st_not {s : Int} (h : ¬ (0 ≤ s ∧ s ≤ 1099511627776)) : stB s = false := by
  cases e : stB s with
  | false => rfl
  | true => exact absurd (st_yes e) h
/-- Finish. -/
def fiE (s l w : Int) : Int := if leB l = true ∧ wtB w = true ∧ stB s = true then (if s + l * unC w ≤ 1099511627776 then 0 else 2) else 1
def fiV (s l w : Int) : Int := if leB l = true ∧ wtB w = true ∧ stB s = true then (if s + l * unC w ≤ 1099511627776 then s + l * unC w else 0) else 0
theorem fi_1 {s l w : Int} (h : ¬ (leB l = true ∧ wtB w = true ∧ stB s = true)) : fiE s l w = 1 ∧ fiV s l w = 0 := by unfold fiE fiV; rw [if_neg h, if_neg h]; exact ⟨rfl, rfl⟩
theorem fi_2 {s l w : Int} (h1 : leB l = true) (h2 : wtB w = true) (h3 : stB s = true) (h : ¬ s + l * unC w ≤ 1099511627776) : fiE s l w = 2 ∧ fiV s l w = 0 := by
  have hc := And.intro h1 (And.intro h2 h3)
  unfold fiE fiV; simp only [if_pos hc, if_neg h]; exact ⟨trivial, trivial⟩
theorem fi_0 {s l w : Int} (h1 : leB l = true) (h2 : wtB w = true) (h3 : stB s = true) (h : s + l * unC w ≤ 1099511627776) : fiE s l w = 0 ∧ fiV s l w = s + l * unC w := by
  have hc := And.intro h1 (And.intro h2 h3)
  unfold fiE fiV; simp only [if_pos hc, if_pos h]; exact ⟨trivial, trivial⟩
/-- Normalized. -/
def bdN (b : Int) : Bool := decide (-1099511627776 ≤ b) && decide (b ≤ 1099511627776)
theorem bdN_yes {b : Int} (h : bdN b = true) : -1099511627776 ≤ b ∧ b ≤ 1099511627776 := by unfold bdN at h; simpa using h
theorem bdN_of {b : Int} (h : -1099511627776 ≤ b ∧ b ≤ 1099511627776) : bdN b = true := by unfold bdN; simp; exact h
theorem bdN_not {b : Int} (h : ¬ (-1099511627776 ≤ b ∧ b ≤ 1099511627776)) : bdN b = false := by
  cases e : bdN b with
  | false => rfl
  | true => exact absurd (bdN_yes e) h
def noE (b w : Int) : Int := if bdN b = true ∧ wtB w = true then 0 else 1
def noV (b w : Int) : Int := if bdN b = true ∧ wtB w = true then b * unC w else 0
theorem no_no {b w : Int} (h : ¬ (bdN b = true ∧ wtB w = true)) : noE b w = 1 ∧ noV b w = 0 := by unfold noE noV; rw [if_neg h, if_neg h]; exact ⟨rfl, rfl⟩
theorem no_yes {b w : Int} (h1 : bdN b = true) (h2 : wtB w = true) : noE b w = 0 ∧ noV b w = b * unC w := by unfold noE noV; rw [if_pos ⟨h1, h2⟩, if_pos ⟨h1, h2⟩]; exact ⟨rfl, rfl⟩
theorem no_bd {b w : Int} (h1 : bdN b = true) (h2 : wtB w = true) : -792440020370718720 ≤ b * unC w ∧ b * unC w ≤ 792440020370718720 := by
  have a := bdN_yes h1
  have c := un_bd h2
  rcases Int.le_total 0 b with h | h
  · have := mul_bd (A := 1099511627776) (B := 720720) h a.2 (by omega) c.2
    omega
  · have := mul_bd (A := 1099511627776) (B := 720720) (l := -b) (by omega) (by omega) (by omega) c.2
    rw [Int.neg_mul] at this
    omega
/-! ### lists of tags -/
/-- The tag at place i is as a valid list wants it. -/
def OkAt (L : List Tg) (i : Nat) : Prop := ∀ h : i < L.length, (0 ≤ L[i].f ∧ L[i].f < 32) ∧ (∀ h0 : 0 < i, (L[i - 1]'(by omega)).f < L[i].f) ∧ (1 ≤ L[i].w ∧ L[i].w ≤ 16) ∧ (0 ≤ L[i].s ∧ L[i].s ≤ 1099511627776)
def VaP (L : List Tg) : Prop := ∀ i, OkAt L i
noncomputable def vaB (L : List Tg) : Bool := @decide (VaP L) (Classical.propDecidable _)
theorem va_true {L : List Tg} (h : VaP L) : vaB L = true := by unfold vaB; exact @decide_eq_true _ (Classical.propDecidable _) h
theorem va_false {L : List Tg} {i : Nat} (h : ¬ OkAt L i) : vaB L = false := by unfold vaB; exact @decide_eq_false _ (Classical.propDecidable _) (fun h2 => h (h2 i))
theorem va_yes {L : List Tg} (h : vaB L = true) : VaP L := by unfold vaB at h; exact @of_decide_eq_true _ (Classical.propDecidable _) h
theorem va_of_lt {L : List Tg} (h : ∀ i, i < L.length → OkAt L i) : VaP L := fun i hi => h i hi hi
theorem VaP.at_ {L : List Tg} (h : VaP L) {i : Nat} (hi : i < L.length) : (0 ≤ L[i].f ∧ L[i].f < 32) ∧ (1 ≤ L[i].w ∧ L[i].w ≤ 16) ∧ (0 ≤ L[i].s ∧ L[i].s ≤ 1099511627776) := by
  obtain ⟨a, _, b, c⟩ := h i hi; exact ⟨a, b, c⟩
/-- Flows rise, so there are at most thirty-two tags. -/
theorem VaP.flow {L : List Tg} (h : VaP L) : ∀ (i : Nat) (hi : i < L.length), (i : Int) ≤ L[i].f
  | 0, hi => by have := (h.at_ hi).1.1; simpa using this
  | i + 1, hi => by
    have h1 := h.flow i (by omega)
    have h2 := (h (i + 1) hi).2.1 (by omega)
    have e : L[i + 1 - 1]'(by omega) = L[i]'(by omega) := rfl
    rw [e] at h2
    omega
theorem VaP.few {L : List Tg} (h : VaP L) : L.length ≤ 32 := by
  rcases Nat.eq_zero_or_pos L.length with h0 | h0
  · omega
  · have h1 := h.flow (L.length - 1) (by omega)
    have h2 := (h.at_ (i := L.length - 1) (by omega)).1.2
    omega
/-- The first place of the least number among the first n. -/
def mI (X : Nat → Int) : Nat → Nat
  | 0 => 0
  | n + 1 => if X n < X (mI X n) then n else mI X n
theorem mI_one (X : Nat → Int) : mI X 1 = 0 := by show (if X 0 < X 0 then 0 else 0) = 0; split <;> rfl
theorem mI_lt (X : Nat → Int) : ∀ n, 0 < n → mI X n < n
  | 1, _ => by rw [mI_one]; omega
  | n + 2, _ => by
    have h := mI_lt X (n + 1) (by omega)
    show (if X (n + 1) < X (mI X (n + 1)) then n + 1 else mI X (n + 1)) < n + 2
    split <;> omega
theorem mI_min (X : Nat → Int) : ∀ n j, j < n → X (mI X n) ≤ X j
  | n + 1, j, hj => by
    have e : mI X (n + 1) = if X n < X (mI X n) then n else mI X n := rfl
    rw [e]
    rcases (by omega : j < n ∨ j = n) with h | rfl
    · have := mI_min X n j h
      split <;> omega
    · split <;> omega
theorem mI_first (X : Nat → Int) : ∀ n j, j < mI X n → X (mI X n) < X j
  | n + 1, j, hj => by
    have e : mI X (n + 1) = if X n < X (mI X n) then n else mI X n := rfl
    rw [e] at hj ⊢
    split at hj
    · rename_i h
      rw [if_pos h]
      rcases Nat.lt_or_ge j (mI X n) with h1 | h1
      · have := mI_first X n j h1; omega
      · have := mI_min X n j hj; omega
    · rename_i h
      rw [if_neg h]
      exact mI_first X n j hj
/-- No other place is the first of the least. -/
theorem mI_only (X : Nat → Int) {n m : Nat} (hm : m < n) (h1 : ∀ j, j < n → X m ≤ X j) (h2 : ∀ j, j < m → X m < X j) : mI X n = m := by
  have a := mI_min X n m hm
  have b := mI_lt X n (by omega)
  have c := h1 (mI X n) b
  rcases Nat.lt_trichotomy (mI X n) m with h | h | h
  · have := h2 _ h; omega
  · exact h
  · have := mI_first X n m h; omega
theorem mI_congr {X Y : Nat → Int} : ∀ {n : Nat}, (∀ i, i < n → X i = Y i) → mI X n = mI Y n
  | 0, _ => rfl
  | n + 1, h => by
    have ih := mI_congr (n := n) fun i hi => h i (by omega)
    show (if X n < X (mI X n) then n else mI X n) = if Y n < Y (mI Y n) then n else mI Y n
    rcases Nat.eq_zero_or_pos n with h0 | h0
    · subst h0
      show (if X 0 < X 0 then 0 else 0) = if Y 0 < Y 0 then 0 else 0
      split <;> split <;> rfl
    · rw [ih, h n (by omega), h (mI Y n) (by have := mI_lt Y n h0; omega)]
def stF (L : List Tg) : Nat → Int := fun i => (L.getD i ⟨0, 0, 0⟩).s
theorem stF_at {L : List Tg} {i : Nat} (hi : i < L.length) : stF L i = L[i].s := by unfold stF; rw [List.getD_eq_getElem?_getD, List.getElem?_eq_getElem hi]; rfl
/-- Least. -/
noncomputable def ltI (L : List Tg) : Int := if vaB L = true ∧ 0 < L.length then (mI (stF L) L.length : Nat) else -1
theorem lt_no {L : List Tg} (h : ¬ (vaB L = true ∧ 0 < L.length)) : ltI L = -1 := by unfold ltI; rw [if_neg h]
theorem lt_yes {L : List Tg} (h : vaB L = true) (h0 : 0 < L.length) : ltI L = (mI (stF L) L.length : Nat) := by unfold ltI; rw [if_pos ⟨h, h0⟩]
/-- Rebase. -/
def subT (b : Int) (t : Tg) : Tg := ⟨t.f, t.w, t.s - b⟩
noncomputable def rbE (L : List Tg) (b : Int) : Int := if vaB L = true ∧ 0 ≤ b then (if ∀ t ∈ L, b ≤ t.s then 0 else 2) else 1
noncomputable def rbL (L : List Tg) (b : Int) : List Tg := if rbE L b = 0 then L.map (subT b) else []
theorem rb_1 {L : List Tg} {b : Int} (h : ¬ (vaB L = true ∧ 0 ≤ b)) : rbE L b = 1 ∧ rbL L b = [] := by
  have e : rbE L b = 1 := by unfold rbE; rw [if_neg h]
  exact ⟨e, by unfold rbL; rw [e]; rfl⟩
theorem rb_2 {L : List Tg} {b : Int} (h : vaB L = true) (h0 : 0 ≤ b) {i : Nat} (hi : i < L.length) (h1 : L[i].s < b) : rbE L b = 2 ∧ rbL L b = [] := by
  have e : rbE L b = 2 := by
    unfold rbE; rw [if_pos ⟨h, h0⟩, if_neg (fun h2 => by have := h2 _ (List.getElem_mem hi); omega)]
  exact ⟨e, by unfold rbL; rw [e]; rfl⟩
theorem rb_0 {L : List Tg} {b : Int} (h : vaB L = true) (h0 : 0 ≤ b) (h1 : ∀ i (hi : i < L.length), b ≤ L[i].s) : rbE L b = 0 ∧ rbL L b = L.map (subT b) := by
  have e : rbE L b = 0 := by
    unfold rbE; rw [if_pos ⟨h, h0⟩, if_pos (fun t ht => by obtain ⟨i, hi, rfl⟩ := List.getElem_of_mem ht; exact h1 i hi)]
  exact ⟨e, by unfold rbL; rw [if_pos e]⟩
/-- A rebased list by its least start tag is valid, with the same place of the least. -/
theorem rb_valid {L : List Tg} {b : Int} (h : VaP L) (h0 : 0 ≤ b) (h1 : ∀ i (hi : i < L.length), b ≤ L[i].s) : VaP (L.map (subT b)) := by
  intro i hi
  have hi' : i < L.length := by simpa using hi
  obtain ⟨a1, a2, a3, a4⟩ := h i hi'
  have := h1 i hi'
  simp only [List.getElem_map, subT]
  exact ⟨a1, a2, a3, by omega, by omega⟩
theorem rb_least {L : List Tg} {b : Int} : mI (stF (L.map (subT b))) L.length = mI (stF L) L.length := by
  have hx : ∀ i, i < L.length → stF (L.map (subT b)) i = stF L i - b := fun i hi => by
    rw [stF_at (by simpa using hi), stF_at hi]; simp [subT]
  rcases Nat.eq_zero_or_pos L.length with h0 | h0
  · rw [h0]; rfl
  · have hm := mI_lt (stF L) L.length h0
    refine mI_only _ hm (fun j hj => ?_) (fun j hj => ?_)
    · rw [hx _ hm, hx _ hj]; have := mI_min (stF L) L.length j hj; omega
    · rw [hx _ hm, hx _ (by omega)]; have := mI_first (stF L) L.length j hj; omega
/-! ### (SfPlain) Layer 13, plain: the error-free reference by flows' numbers: joining, leaving, selecting, charging; its tags against the virtual time, its fairness, its rebasing. No program is named. -/
def fset {α : Type} (X : Nat → α) (k : Nat) (v : α) : Nat → α := fun i => if i = k then v else X i
theorem fset_at {α : Type} (X : Nat → α) (k : Nat) (v : α) : fset X k v k = v := by simp [fset]
theorem fset_ne {α : Type} (X : Nat → α) {k i : Nat} (v : α) (h : i ≠ k) : fset X k v i = X i := by simp [fset, h]
/-- on: active; wt, st: an active flow's weight and start tag; om: a remembered tag, or 0. -/
structure Sf where
  at_ : Int
  on : Nat → Bool
  wt : Nat → Int
  st : Nat → Int
  om : Nat → Int
  now : Int
  away : Int
/-- The active flow with the least start tag, and among several the one with the least number. -/
def Sf.Sel (s : Sf) (f : Nat) : Prop := f < 32 ∧ s.on f = true ∧ ∀ g, g < 32 → s.on g = true → s.st f ≤ s.st g ∧ (s.st g = s.st f → f ≤ g)
def Sf.Idle (s : Sf) : Prop := ∀ g, g < 32 → s.on g = false
theorem Sf.Sel.only {s : Sf} {f g : Nat} (h : s.Sel f) (k : s.Sel g) : f = g := by
  have a := h.2.2 g k.1 k.2.1
  have b := k.2.2 f h.1 h.2.1
  have := a.2 (by omega)
  have := b.2 (by omega)
  omega
/-- The least start tag of the active flows. -/
def IsMin (on : Nat → Bool) (st : Nat → Int) (m : Int) : Prop := (∃ f, f < 32 ∧ on f = true ∧ st f = m) ∧ ∀ g, g < 32 → on g = true → m ≤ st g
theorem IsMin.only {on : Nat → Bool} {st : Nat → Int} {m n : Int} (h : IsMin on st m) (k : IsMin on st n) : m = n := by
  obtain ⟨⟨f, f1, f2, f3⟩, h2⟩ := h
  obtain ⟨⟨g, g1, g2, g3⟩, k2⟩ := k
  have := h2 g g1 g2
  have := k2 f f1 f2
  omega
def Sf.new (at_ : Int) : Sf := ⟨at_, fun _ => false, fun _ => 0, fun _ => 0, fun _ => 0, 0, 0⟩
def Sf.join (s : Sf) (f : Nat) (w : Int) : Sf := { s with on := fset s.on f true, wt := fset s.wt f w, st := fset s.st f (max s.now (s.om f)), om := fset s.om f 0 }
/-- Leaving: remembered, or all forgotten where no flow is left. -/
def Sf.Left (s : Sf) (f : Nat) (t : Sf) : Prop :=
  t.at_ = s.at_ ∧ t.on = fset s.on f false ∧ t.wt = s.wt ∧ t.st = s.st ∧ t.away = s.away ∧
  ((t.Idle ∧ t.now = 0 ∧ t.om = fun _ => 0) ∨ (¬ t.Idle ∧ t.now = s.now ∧ t.om = fset s.om f (s.st f)))
def Sf.setw (s : Sf) (f : Nat) (w : Int) : Sf := { s with wt := fset s.wt f w }
/-- A charge of c: the virtual time, the new start tag; then all of it rebased, or not. -/
def Sf.Charged (s : Sf) (f : Nat) (c : Int) (t : Sf) : Prop :=
  t.at_ = s.at_ ∧ t.on = s.on ∧ t.wt = s.wt ∧ ∃ m b : Int, IsMin s.on (fset s.st f (s.st f + c)) m ∧ b = min m (max s.now (s.st f)) ∧
  ((s.at_ ≤ b ∧ (∀ g, s.on g = true → t.st g = fset s.st f (s.st f + c) g - b) ∧ (∀ g, t.om g = max (s.om g - b) 0) ∧ t.now = max s.now (s.st f) - b ∧ t.away = s.away + b) ∨
   (b < s.at_ ∧ (∀ g, s.on g = true → t.st g = fset s.st f (s.st f + c) g) ∧ (∀ g, t.om g = s.om g) ∧ t.now = max s.now (s.st f) ∧ t.away = s.away))
/-! ### tags against the virtual time -/
/-- K: what one packet costs at most. -/
def Sf.Inv (K : Int) (s : Sf) : Prop := 1 ≤ s.at_ ∧ 0 ≤ s.now ∧ (∀ f, s.on f = true → s.now ≤ s.st f ∧ s.st f ≤ s.now + K) ∧ ∀ f, 0 ≤ s.om f ∧ s.om f ≤ s.now + K
theorem Sf.inv_new {K a : Int} (hK : 0 ≤ K) (ha : 1 ≤ a) : (Sf.new a).Inv K :=
  ⟨ha, Int.le_refl 0, fun f h => by simp [Sf.new] at h, fun f => by simp [Sf.new]; omega⟩
theorem Sf.Inv.join {K : Int} {s : Sf} (h : s.Inv K) (hK : 0 ≤ K) (f : Nat) (w : Int) : (s.join f w).Inv K := by
  obtain ⟨h1, h2, h3, h4⟩ := h
  refine ⟨h1, h2, fun g hg => ?_, fun g => ?_⟩
  · simp only [Sf.join] at hg ⊢
    by_cases e : g = f
    · subst e; rw [fset_at]; have := h4 g; omega
    · rw [fset_ne _ _ e] at hg ⊢; exact h3 g hg
  · simp only [Sf.join]
    by_cases e : g = f
    · subst e; rw [fset_at]; omega
    · rw [fset_ne _ _ e]; exact h4 g
theorem Sf.Inv.left {K : Int} {s t : Sf} (h : s.Inv K) (hK : 0 ≤ K) {f : Nat} (hf : s.on f = true) (hl : s.Left f t) (hon : ∀ g, s.on g = true → g < 32) : t.Inv K := by
  obtain ⟨h1, h2, h3, h4⟩ := h
  obtain ⟨e1, e2, e3, e4, e5, e6⟩ := hl
  have hsub : ∀ g, t.on g = true → s.on g = true := fun g hg => by
    rw [e2] at hg
    by_cases e : g = f
    · subst e; rw [fset_at] at hg; cases hg
    · rw [fset_ne _ _ e] at hg; exact hg
  rcases e6 with ⟨i1, i2, i3⟩ | ⟨i1, i2, i3⟩
  · refine ⟨by omega, by omega, fun g hg => ?_, fun g => by rw [i2, i3]; simp; omega⟩
    have := i1 g (hon g (hsub g hg)); rw [this] at hg; cases hg
  · refine ⟨by omega, by omega, fun g hg => ?_, fun g => ?_⟩
    · rw [e4, i2]; exact h3 g (hsub g hg)
    · rw [i2, i3]
      by_cases e : g = f
      · subst e; rw [fset_at]; have := h3 g hf; omega
      · rw [fset_ne _ _ e]; exact h4 g
theorem Sf.Inv.charged {K c : Int} {s t : Sf} (h : s.Inv K) (hc : 0 ≤ c) (hcK : c ≤ K) {f : Nat} (hf : s.Sel f) (hon : ∀ g, s.on g = true → g < 32) (ht : s.Charged f c t) : t.Inv K ∧ t.now ≤ s.now + K := by
  obtain ⟨h1, h2, h3, h4⟩ := h
  obtain ⟨e1, e2, e3, m, b, ⟨⟨g0, g1, g2, g3⟩, hm⟩, hb, hcase⟩ := ht
  obtain ⟨f1, f2, f3⟩ := hf
  have hff := h3 f f2
  have hnow : max s.now (s.st f) = s.st f := by omega
  rw [hnow] at hb hcase
  have hall : ∀ g, s.on g = true → s.st f ≤ fset s.st f (s.st f + c) g ∧ fset s.st f (s.st f + c) g ≤ s.st f + K := fun g hg => by
    by_cases e : g = f
    · subst e; rw [fset_at]; omega
    · rw [fset_ne _ _ e]; have := h3 g hg; have := (f3 g (hon g hg) hg).1; omega
  have hbm : b = s.st f := by have := hall g0 g2; rw [g3] at this; omega
  rcases hcase with ⟨k1, k2, k3, k4, k5⟩ | ⟨k1, k2, k3, k4, k5⟩
  · refine ⟨⟨by omega, by omega, fun g hg => ?_, fun g => ?_⟩, by omega⟩
    · rw [e2] at hg; rw [k2 g hg]; have := hall g hg; omega
    · rw [k3 g]; have := h4 g; omega
  · refine ⟨⟨by omega, by omega, fun g hg => ?_, fun g => ?_⟩, by omega⟩
    · rw [e2] at hg; rw [k2 g hg]; have := hall g hg; omega
    · rw [k3 g]; have := h4 g; omega
/-! ### a flow that stays: its normalized service -/
/-- n: the flow's normalized service; u: the most that one of its packets costs. -/
def Sf.Stays (s : Sf) (f : Nat) (u n : Int) : Prop := s.on f = true ∧ s.st f + s.away = n ∧ s.st f ≤ s.now + u
theorem Sf.Stays.gap {s : Sf} {f g : Nat} {u v n p K : Int} (h : s.Inv K) (hf : s.Stays f u n) (hg : s.Stays g v p) (hu : 0 ≤ u) (hv : 0 ≤ v) : n - p ≤ u + v ∧ p - n ≤ u + v := by
  obtain ⟨f1, f2, f3⟩ := hf
  obtain ⟨g1, g2, g3⟩ := hg
  have a := h.2.2.1 f f1
  have b := h.2.2.1 g g1
  omega
theorem Sf.Stays.join {s : Sf} {f g : Nat} {u n w : Int} (h : s.Stays f u n) (hg : g ≠ f) : (s.join g w).Stays f u n := by
  obtain ⟨f1, f2, f3⟩ := h
  refine ⟨?_, ?_, ?_⟩
  · simp only [Sf.join]; rw [fset_ne _ _ hg.symm]; exact f1
  · simp only [Sf.join]; rw [fset_ne _ _ hg.symm]; exact f2
  · simp only [Sf.join]; rw [fset_ne _ _ hg.symm]; exact f3
theorem Sf.Stays.left {s t : Sf} {f g : Nat} {u n : Int} (h : s.Stays f u n) (hf32 : f < 32) (hg : g ≠ f) (hl : s.Left g t) : t.Stays f u n := by
  obtain ⟨f1, f2, f3⟩ := h
  obtain ⟨e1, e2, e3, e4, e5, e6⟩ := hl
  have hon : t.on f = true := by rw [e2, fset_ne _ _ hg.symm]; exact f1
  rcases e6 with ⟨i1, i2, i3⟩ | ⟨i1, i2, i3⟩
  · have := i1 f hf32; rw [this] at hon; cases hon
  · exact ⟨hon, by rw [e4, e5]; exact f2, by rw [e4, i2]; exact f3⟩
/-- Another flow is charged. -/
theorem Sf.Stays.other {s t : Sf} {f g : Nat} {u n c : Int} (h : s.Stays f u n) (hg : g ≠ f) (ht : s.Charged g c t) : t.Stays f u n := by
  obtain ⟨f1, f2, f3⟩ := h
  obtain ⟨e1, e2, e3, m, b, _, hb, hcase⟩ := ht
  refine ⟨by rw [e2]; exact f1, ?_⟩
  rcases hcase with ⟨k1, k2, k3, k4, k5⟩ | ⟨k1, k2, k3, k4, k5⟩
  · have := k2 f f1; rw [fset_ne _ _ hg.symm] at this; omega
  · have := k2 f f1; rw [fset_ne _ _ hg.symm] at this; omega
/-- The flow itself is charged. -/
theorem Sf.Stays.own {s t : Sf} {f : Nat} {u n c : Int} (h : s.Stays f u n) (hc : c ≤ u) (ht : s.Charged f c t) : t.Stays f u (n + c) := by
  obtain ⟨f1, f2, f3⟩ := h
  obtain ⟨e1, e2, e3, m, b, _, hb, hcase⟩ := ht
  refine ⟨by rw [e2]; exact f1, ?_⟩
  rcases hcase with ⟨k1, k2, k3, k4, k5⟩ | ⟨k1, k2, k3, k4, k5⟩
  · have := k2 f f1; rw [fset_at] at this; omega
  · have := k2 f f1; rw [fset_at] at this; omega
/-! ### two references that are rebased at other times -/
def Sf.Alike (D : Int) (s t : Sf) : Prop :=
  t.on = s.on ∧ t.wt = s.wt ∧ (∀ f, s.on f = true → t.st f = s.st f + D) ∧ t.now = s.now + D ∧ ∀ f, max (t.om f) t.now = max (s.om f) s.now + D
theorem Sf.alike_new {a b : Int} : (Sf.new a).Alike 0 (Sf.new b) := ⟨rfl, rfl, fun f _ => by simp [Sf.new], by simp [Sf.new], fun f => by simp [Sf.new]⟩
theorem Sf.Alike.sel {D : Int} {s t : Sf} (h : s.Alike D t) {f : Nat} (hf : s.Sel f) : t.Sel f := by
  obtain ⟨h1, h2, h3, h4, h5⟩ := h
  obtain ⟨f1, f2, f3⟩ := hf
  refine ⟨f1, by rw [h1]; exact f2, fun g hg hgo => ?_⟩
  rw [h1] at hgo
  have := f3 g hg hgo
  rw [h3 f f2, h3 g hgo]
  exact ⟨by omega, fun e => this.2 (by omega)⟩
theorem Sf.Alike.join {D : Int} {s t : Sf} (h : s.Alike D t) (f : Nat) (w : Int) (hs : 0 ≤ s.now) (ht : 0 ≤ t.now) : (s.join f w).Alike D (t.join f w) := by
  obtain ⟨h1, h2, h3, h4, h5⟩ := h
  refine ⟨by simp only [Sf.join, h1], by simp only [Sf.join, h2], fun g hg => ?_, h4, fun g => ?_⟩
  · simp only [Sf.join] at hg ⊢
    by_cases e : g = f
    · subst e; rw [fset_at, fset_at]; have := h5 g; omega
    · rw [fset_ne _ _ e] at hg ⊢; rw [fset_ne _ _ e]; exact h3 g hg
  · simp only [Sf.join]
    by_cases e : g = f
    · subst e; rw [fset_at, fset_at]; omega
    · rw [fset_ne _ _ e, fset_ne _ _ e]; exact h5 g
theorem Sf.Alike.setw {D : Int} {s t : Sf} (h : s.Alike D t) (f : Nat) (w : Int) : (s.setw f w).Alike D (t.setw f w) := by
  obtain ⟨h1, h2, h3, h4, h5⟩ := h
  exact ⟨h1, by simp only [Sf.setw, h2], h3, h4, h5⟩
theorem Sf.Alike.left {D : Int} {s t s' t' : Sf} (h : s.Alike D t) {f : Nat} (hf : s.on f = true) (hs : s.Left f s') (ht : t.Left f t') (hon : ∀ g, s.on g = true → g < 32) (hn : s.now ≤ s.st f) : ∃ D', s'.Alike D' t' := by
  obtain ⟨h1, h2, h3, h4, h5⟩ := h
  obtain ⟨e1, e2, e3, e4, e5, e6⟩ := hs
  obtain ⟨g1, g2, g3, g4, g5, g6⟩ := ht
  have hon' : t'.on = s'.on := by rw [g2, e2, h1]
  have hsub : ∀ g, s'.on g = true → s.on g = true := fun g hg => by
    rw [e2] at hg
    by_cases e : g = f
    · subst e; rw [fset_at] at hg; cases hg
    · rw [fset_ne _ _ e] at hg; exact hg
  rcases e6 with ⟨i1, i2, i3⟩ | ⟨i1, i2, i3⟩ <;> rcases g6 with ⟨j1, j2, j3⟩ | ⟨j1, j2, j3⟩
  · refine ⟨0, hon', by rw [g3, e3, h2], fun g hg => ?_, by omega, fun g => by rw [i2, i3, j2, j3]; simp⟩
    have := i1 g (hon g (hsub g hg)); rw [this] at hg; cases hg
  · exact absurd (fun g hg => by rw [hon']; exact i1 g hg) j1
  · exact absurd (fun g hg => by rw [← hon']; exact j1 g hg) i1
  · refine ⟨D, hon', by rw [g3, e3, h2], fun g hg => by rw [g4, e4]; exact h3 g (hsub g hg), by omega, fun g => ?_⟩
    rw [i2, i3, j2, j3]
    by_cases e : g = f
    · subst e; rw [fset_at, fset_at]; have := h3 g hf; omega
    · rw [fset_ne _ _ e, fset_ne _ _ e]; exact h5 g
theorem Sf.Alike.charged {D c : Int} {s t s' t' : Sf} (h : s.Alike D t) {f : Nat} (hf : s.on f = true) (hs : s.Charged f c s') (ht : t.Charged f c t') : ∃ D', s'.Alike D' t' := by
  obtain ⟨h1, h2, h3, h4, h5⟩ := h
  obtain ⟨e1, e2, e3, m, b, _, hb, k⟩ := hs
  obtain ⟨g1, g2, g3, m', b', _, hb', k'⟩ := ht
  have hff := h3 f hf
  have hst : ∀ g, s.on g = true → fset t.st f (t.st f + c) g = fset s.st f (s.st f + c) g + D := fun g hg => by
    by_cases e : g = f
    · subst e; rw [fset_at, fset_at]; omega
    · rw [fset_ne _ _ e, fset_ne _ _ e]; exact h3 g hg
  have hto : ∀ g, s'.on g = true → s.on g = true ∧ t.on g = true := fun g hg => by rw [e2] at hg; exact ⟨hg, by rw [h1]; exact hg⟩
  rcases k with ⟨k1, k2, k3, k4, k5⟩ | ⟨k1, k2, k3, k4, k5⟩ <;> rcases k' with ⟨l1, l2, l3, l4, l5⟩ | ⟨l1, l2, l3, l4, l5⟩
  · refine ⟨D + b - b', by rw [g2, e2, h1], by rw [g3, e3, h2], fun g hg => ?_, by omega, fun g => ?_⟩
    · obtain ⟨o1, o2⟩ := hto g hg; rw [k2 g o1, l2 g o2]; have := hst g o1; omega
    · rw [k3 g, l3 g]; have := h5 g; omega
  · refine ⟨D + b, by rw [g2, e2, h1], by rw [g3, e3, h2], fun g hg => ?_, by omega, fun g => ?_⟩
    · obtain ⟨o1, o2⟩ := hto g hg; rw [k2 g o1, l2 g o2]; have := hst g o1; omega
    · rw [k3 g, l3 g]; have := h5 g; omega
  · refine ⟨D - b', by rw [g2, e2, h1], by rw [g3, e3, h2], fun g hg => ?_, by omega, fun g => ?_⟩
    · obtain ⟨o1, o2⟩ := hto g hg; rw [k2 g o1, l2 g o2]; have := hst g o1; omega
    · rw [k3 g, l3 g]; have := h5 g; omega
  · refine ⟨D, by rw [g2, e2, h1], by rw [g3, e3, h2], fun g hg => ?_, by omega, fun g => ?_⟩
    · obtain ⟨o1, o2⟩ := hto g hg; rw [k2 g o1, l2 g o2]; have := hst g o1; omega
    · rw [k3 g, l3 g]; have := h5 g; omega
/-! ### (SfList) Layer 13, plain: the reference's lists (the active flows' tags in ascending order, the remembered tags) against the state by flows' numbers. No program is named. -/
abbrev UpF (L : List Tg) : Prop := L.Pairwise (fun a b => a.f < b.f)
def Sf.tag (s : Sf) (f : Nat) : Tg := ⟨f, s.wt f, s.st f⟩
/-- L: the tags of the active flows in ascending order. -/
def RepL (L : List Tg) (s : Sf) : Prop := UpF L ∧ ∀ t : Tg, t ∈ L ↔ ∃ f : Nat, f < 32 ∧ s.on f = true ∧ t = s.tag f
theorem up_mem {L M : List Tg} (hL : UpF L) (hM : UpF M) (h : ∀ t, t ∈ L ↔ t ∈ M) : L = M := by
  induction L generalizing M with
  | nil => cases M with
    | nil => rfl
    | cons b M => have := (h b).2 (List.mem_cons_self ..); cases this
  | cons a L ih => cases M with
    | nil => have := (h a).1 (List.mem_cons_self ..); cases this
    | cons b M =>
      obtain ⟨a1, a2⟩ := List.pairwise_cons.1 hL
      obtain ⟨b1, b2⟩ := List.pairwise_cons.1 hM
      have e : a = b := by
        rcases List.mem_cons.1 ((h a).1 (List.mem_cons_self ..)) with e | e
        · exact e
        · rcases List.mem_cons.1 ((h b).2 (List.mem_cons_self ..)) with e2 | e2
          · exact e2.symm
          · have := b1 a e; have := a1 b e2; omega
      subst e
      congr 1
      refine ih a2 b2 fun t => ?_
      constructor
      · intro ht
        rcases List.mem_cons.1 ((h t).1 (List.mem_cons_of_mem _ ht)) with e | e
        · subst e; have := a1 _ ht; omega
        · exact e
      · intro ht
        rcases List.mem_cons.1 ((h t).2 (List.mem_cons_of_mem _ ht)) with e | e
        · subst e; have := b1 _ ht; omega
        · exact e
theorem RepL.only {L M : List Tg} {s : Sf} (h : RepL L s) (k : RepL M s) : L = M := up_mem h.1 k.1 fun t => (h.2 t).trans (k.2 t).symm
theorem RepL.new (a : Int) : RepL [] (Sf.new a) := ⟨List.Pairwise.nil, fun t => ⟨fun h => (by cases h), fun ⟨f, _, h, _⟩ => (by simp [Sf.new] at h)⟩⟩
theorem RepL.tag_mem {L : List Tg} {s : Sf} (h : RepL L s) {f : Nat} (hf : f < 32) (ho : s.on f = true) : s.tag f ∈ L := (h.2 _).2 ⟨f, hf, ho, rfl⟩
/-- What stands at a place. -/
theorem RepL.at_ {L : List Tg} {s : Sf} (h : RepL L s) {i : Nat} (hi : i < L.length) : ∃ f : Nat, f < 32 ∧ s.on f = true ∧ L[i] = s.tag f := (h.2 _).1 (List.getElem_mem hi)
theorem RepL.off {L : List Tg} {s : Sf} (h : RepL L s) {f : Nat} (ho : s.on f = false) {i : Nat} (hi : i < L.length) : L[i].f ≠ f := by
  obtain ⟨g, g1, g2, g3⟩ := h.at_ hi
  rw [g3]
  intro e
  have : g = f := by simp only [Sf.tag] at e; omega
  subst this
  rw [ho] at g2; cases g2
theorem RepL.place {L : List Tg} {s : Sf} (h : RepL L s) {f : Nat} (hf : f < 32) (ho : s.on f = true) : ∃ (i : Nat) (hi : i < L.length), L[i] = s.tag f :=
  let ⟨i, hi, e⟩ := List.getElem_of_mem (h.tag_mem hf ho); ⟨i, hi, e⟩
theorem RepL.up {L : List Tg} {s : Sf} (h : RepL L s) {i j : Nat} (hi : i < L.length) (hj : j < L.length) (hij : i < j) : L[i].f < L[j].f := List.pairwise_iff_getElem.1 h.1 i j hi hj hij
/-- An active flow has one place. -/
theorem RepL.here {L : List Tg} {s : Sf} (h : RepL L s) {f i : Nat} (hi : i < L.length) (e : L[i].f = f) : f < 32 ∧ s.on f = true ∧ L[i] = s.tag f ∧ ∀ j (hj : j < L.length), L[j].f = f → j = i := by
  obtain ⟨g, g1, g2, g3⟩ := h.at_ hi
  have : g = f := by rw [g3] at e; simp only [Sf.tag] at e; omega
  subst this
  refine ⟨g1, g2, g3, fun j hj e2 => ?_⟩
  rcases Nat.lt_trichotomy j i with h1 | h1 | h1
  · have := h.up hj hi h1; omega
  · exact h1
  · have := h.up hi hj h1; omega
theorem up_split {A B : List Tg} : UpF (A ++ B) ↔ UpF A ∧ UpF B ∧ ∀ a ∈ A, ∀ b ∈ B, a.f < b.f := List.pairwise_append
/-- Joining: x put before the first tag of a greater flow. -/
theorem RepL.join {A B : List Tg} {s : Sf} (h : RepL (A ++ B) s) {f : Nat} {w : Int} (hf : f < 32) (ho : s.on f = false) (hA : ∀ a ∈ A, a.f < f) (hB : ∀ b ∈ B, (f : Int) < b.f) : RepL (A ++ ⟨f, w, max s.now (s.om f)⟩ :: B) (s.join f w) := by
  obtain ⟨h1, h2⟩ := h
  obtain ⟨u1, u2, u3⟩ := up_split.1 h1
  refine ⟨up_split.2 ⟨u1, List.pairwise_cons.2 ⟨fun b hb => hB b hb, u2⟩, fun a ha b hb => ?_⟩, fun t => ?_⟩
  · rcases List.mem_cons.1 hb with rfl | hb
    · exact hA a ha
    · exact u3 a ha b hb
  · have key : ∀ g, g ≠ f → (s.join f w).on g = s.on g ∧ (s.join f w).tag g = s.tag g := fun g hg => by
      simp only [Sf.join, Sf.tag]; rw [fset_ne _ _ hg, fset_ne _ _ hg, fset_ne _ _ hg]; exact ⟨rfl, rfl⟩
    have kf : (s.join f w).on f = true ∧ (s.join f w).tag f = ⟨f, w, max s.now (s.om f)⟩ := by
      simp only [Sf.join, Sf.tag]; rw [fset_at, fset_at, fset_at]; exact ⟨rfl, rfl⟩
    have e : t ∈ A ++ ⟨f, w, max s.now (s.om f)⟩ :: B ↔ t = ⟨f, w, max s.now (s.om f)⟩ ∨ t ∈ A ++ B := by
      simp only [List.mem_append, List.mem_cons]
      constructor
      · rintro (h | h | h)
        · exact .inr (.inl h)
        · exact .inl h
        · exact .inr (.inr h)
      · rintro (h | h | h)
        · exact .inr (.inl h)
        · exact .inl h
        · exact .inr (.inr h)
    rw [e, h2 t]
    constructor
    · rintro (rfl | ⟨g, g1, g2, g3⟩)
      · exact ⟨f, hf, kf.1, kf.2.symm⟩
      · have hg : g ≠ f := by rintro rfl; rw [ho] at g2; cases g2
        exact ⟨g, g1, by rw [(key g hg).1]; exact g2, by rw [(key g hg).2]; exact g3⟩
    · rintro ⟨g, g1, g2, g3⟩
      by_cases hg : g = f
      · subst hg; left; rw [g3]; exact kf.2
      · right; exact ⟨g, g1, by rw [← (key g hg).1]; exact g2, by rw [← (key g hg).2]; exact g3⟩
/-- Leaving: the flow's tag is taken out. -/
theorem RepL.left {A B : List Tg} {x : Tg} {s t : Sf} (h : RepL (A ++ x :: B) s) {f : Nat} (hx : x.f = f) (hon : t.on = fset s.on f false) (hw : t.wt = s.wt) (hs : t.st = s.st) : RepL (A ++ B) t := by
  obtain ⟨h1, h2⟩ := h
  obtain ⟨u1, u2, u3⟩ := up_split.1 h1
  obtain ⟨v1, v2⟩ := List.pairwise_cons.1 u2
  have htag : ∀ g, t.tag g = s.tag g := fun g => by simp only [Sf.tag, hw, hs]
  refine ⟨up_split.2 ⟨u1, v2, fun a ha b hb => u3 a ha b (List.mem_cons_of_mem _ hb)⟩, fun y => ?_⟩
  have e : y ∈ A ++ B ↔ y ∈ A ++ x :: B ∧ y.f ≠ f := by
    simp only [List.mem_append, List.mem_cons]
    constructor
    · rintro (h | h)
      · refine ⟨.inl h, ?_⟩
        have := u3 y h x (List.mem_cons_self ..); omega
      · refine ⟨.inr (.inr h), ?_⟩
        have := v1 y h; omega
    · rintro ⟨h | h | h, hn⟩
      · exact .inl h
      · exact absurd (h ▸ hx) hn
      · exact .inr h
  rw [e, h2 y]
  constructor
  · rintro ⟨⟨g, g1, g2, g3⟩, hn⟩
    have hg : g ≠ f := by rintro rfl; exact hn (by rw [g3]; rfl)
    exact ⟨g, g1, by rw [hon, fset_ne _ _ hg]; exact g2, by rw [htag]; exact g3⟩
  · rintro ⟨g, g1, g2, g3⟩
    have hg : g ≠ f := by rintro rfl; rw [hon, fset_at] at g2; cases g2
    rw [hon, fset_ne _ _ hg] at g2
    rw [htag] at g3
    exact ⟨⟨g, g1, g2, g3⟩, by rw [g3]; simp only [Sf.tag]; omega⟩
/-- One tag turns, its flow stays. -/
theorem RepL.turn {L : List Tg} {s t : Sf} (h : RepL L s) {f i : Nat} (hi : i < L.length) (e : L[i].f = f) (hon : t.on = s.on) (hoth : ∀ g, g ≠ f → t.tag g = s.tag g) : RepL (L.set i (t.tag f)) t := by
  obtain ⟨f1, f2, f3, f4⟩ := h.here hi e
  refine ⟨?_, fun y => ?_⟩
  · refine List.pairwise_iff_getElem.2 fun a b ha hb hab => ?_
    have ha' : a < L.length := by simpa using ha
    have hb' : b < L.length := by simpa using hb
    have key : ∀ c (hc : c < L.length) (hc2 : c < (L.set i (t.tag f)).length), (L.set i (t.tag f))[c].f = L[c].f := fun c hc hc2 => by
      by_cases hci : c = i
      · subst hci; rw [List.getElem_set_self, e]; rfl
      · rw [List.getElem_set_ne (Ne.symm hci)]
    rw [key a ha' ha, key b hb' hb]
    exact h.up ha' hb' hab
  · constructor
    · intro hy
      obtain ⟨c, hc, rfl⟩ := List.getElem_of_mem hy
      have hc' : c < L.length := by simpa using hc
      by_cases hci : c = i
      · subst hci; rw [List.getElem_set_self]; exact ⟨f, f1, by rw [hon]; exact f2, rfl⟩
      · rw [List.getElem_set_ne (Ne.symm hci)]
        obtain ⟨g, g1, g2, g3⟩ := h.at_ hc'
        have hg : g ≠ f := by
          rintro rfl; exact hci (f4 c hc' (by rw [g3]; rfl))
        exact ⟨g, g1, by rw [hon]; exact g2, by rw [hoth g hg]; exact g3⟩
    · rintro ⟨g, g1, g2, rfl⟩
      rw [hon] at g2
      by_cases hg : g = f
      · subst hg; exact List.mem_iff_getElem.2 ⟨i, by simpa using hi, by rw [List.getElem_set_self]⟩
      · obtain ⟨c, hc, ec⟩ := h.place g1 g2
        have hci : c ≠ i := by
          rintro rfl; rw [ec] at e; simp only [Sf.tag] at e; omega
        exact List.mem_iff_getElem.2 ⟨c, by simpa using hc, by rw [List.getElem_set_ne (Ne.symm hci), ec, hoth g hg]⟩
/-- All start tags turn. -/
theorem RepL.all {L : List Tg} {s t : Sf} (h : RepL L s) {F : Tg → Tg} (hF : ∀ f, s.on f = true → F (s.tag f) = t.tag f) (hon : t.on = s.on) : RepL (L.map F) t := by
  refine ⟨?_, fun y => ?_⟩
  · refine List.pairwise_iff_getElem.2 fun a b ha hb hab => ?_
    have ha' : a < L.length := by simpa using ha
    have hb' : b < L.length := by simpa using hb
    rw [List.getElem_map, List.getElem_map]
    obtain ⟨g, g1, g2, g3⟩ := h.at_ ha'
    obtain ⟨k, k1, k2, k3⟩ := h.at_ hb'
    have := h.up ha' hb' hab
    rw [g3, k3, hF g g2, hF k k2]
    rw [g3, k3] at this
    exact this
  · rw [List.mem_map]
    constructor
    · rintro ⟨x, hx, rfl⟩
      obtain ⟨g, g1, g2, rfl⟩ := (h.2 x).1 hx
      exact ⟨g, g1, by rw [hon]; exact g2, hF g g2⟩
    · rintro ⟨g, g1, g2, rfl⟩
      rw [hon] at g2
      exact ⟨s.tag g, (h.2 _).2 ⟨g, g1, g2, rfl⟩, hF g g2⟩
theorem RepL.idle {L : List Tg} {s : Sf} (h : RepL L s) : s.Idle ↔ L = [] := by
  constructor
  · intro hi
    cases L with
    | nil => rfl
    | cons a L =>
      obtain ⟨f, f1, f2, _⟩ := h.at_ (i := 0) (by simp)
      rw [hi f f1] at f2; cases f2
  · rintro rfl f hf
    cases ho : s.on f with
    | false => rfl
    | true => exact absurd (h.tag_mem hf ho) (by simp)
/-- The list is valid. -/
theorem RepL.valid {L : List Tg} {s : Sf} (h : RepL L s) (hw : ∀ f, s.on f = true → 1 ≤ s.wt f ∧ s.wt f ≤ 16) (hs : ∀ f, s.on f = true → 0 ≤ s.st f ∧ s.st f ≤ 1099511627776) : vaB L = true := by
  refine va_true (va_of_lt fun i hi => ?_)
  intro hi2
  obtain ⟨f, f1, f2, f3⟩ := h.at_ hi
  have a := hw f f2
  have b := hs f f2
  refine ⟨by rw [f3]; simp only [Sf.tag]; omega, fun h0 => h.up _ _ (by omega), by rw [f3]; exact a, by rw [f3]; exact b⟩
/-- The least one is the selected flow's. -/
theorem RepL.least {L : List Tg} {s : Sf} (h : RepL L s) (h0 : 0 < L.length) : ∃ f, s.Sel f ∧ ∃ hk : mI (stF L) L.length < L.length, L[mI (stF L) L.length] = s.tag f := by
  have hk := mI_lt (stF L) L.length h0
  obtain ⟨f, f1, f2, f3⟩ := h.at_ hk
  refine ⟨f, ⟨f1, f2, fun g g1 g2 => ?_⟩, hk, f3⟩
  obtain ⟨j, hj, ej⟩ := h.place g1 g2
  have a := mI_min (stF L) L.length j hj
  rw [stF_at hk, stF_at hj, f3, ej] at a
  refine ⟨a, fun e => ?_⟩
  rcases Nat.lt_or_ge j (mI (stF L) L.length) with h1 | h1
  · have b := mI_first (stF L) L.length j h1
    rw [stF_at hk, stF_at hj, f3, ej] at b
    simp only [Sf.tag] at b; omega
  · rcases Nat.eq_or_lt_of_le h1 with h2 | h2
    · have : L[mI (stF L) L.length] = L[j] := by congr 1
      rw [f3, ej] at this
      have := congrArg Tg.f this
      simp only [Sf.tag] at this; omega
    · have b := h.up hk hj h2
      rw [f3, ej] at b
      simp only [Sf.tag] at b; omega
theorem RepL.few {L : List Tg} {s : Sf} (h : RepL L s) : L.length ≤ 32 := by
  have key : ∀ (i : Nat) (hi : i < L.length), (i : Int) ≤ L[i].f := by
    intro i
    induction i with
    | zero => intro hi; obtain ⟨f, _, _, e⟩ := h.at_ hi; rw [e]; simp only [Sf.tag]; omega
    | succ i ih => intro hi; have := ih (by omega); have := h.up (by omega) hi (Nat.lt_succ_self i); omega
  rcases Nat.eq_zero_or_pos L.length with h0 | h0
  · omega
  · have h1 := key (L.length - 1) (by omega)
    obtain ⟨f, f1, _, e⟩ := h.at_ (i := L.length - 1) (by omega)
    rw [e] at h1; simp only [Sf.tag] at h1; omega
/-! ### remembered tags -/
/-- What the list remembers of a flow: the greatest start tag, or 0. -/
def omL : List Tg → Nat → Int
  | [], _ => 0
  | t :: O, f => if t.f = f then max t.s (omL O f) else omL O f
theorem omL_nonneg (O : List Tg) (f : Nat) : 0 ≤ omL O f := by
  induction O with
  | nil => exact Int.le_refl 0
  | cons t O ih => simp only [omL]; split <;> omega
theorem omL_app (O P : List Tg) (f : Nat) : omL (O ++ P) f = max (omL O f) (omL P f) := by
  induction O with
  | nil => have := omL_nonneg P f; simp only [List.nil_append, omL]; omega
  | cons t O ih => simp only [List.cons_append, omL]; split <;> omega
theorem omL_out (O : List Tg) (f : Nat) : omL (O.filter fun t => decide (t.f ≠ f)) f = 0 := by
  induction O with
  | nil => rfl
  | cons t O ih =>
    by_cases e : t.f = f
    · rw [List.filter_cons_of_neg (by simp [e])]; exact ih
    · rw [List.filter_cons_of_pos (by simp [e])]; simp only [omL, if_neg e]; exact ih
theorem omL_keep (O : List Tg) {f g : Nat} (h : g ≠ f) : omL (O.filter fun t => decide (t.f ≠ f)) g = omL O g := by
  induction O with
  | nil => rfl
  | cons t O ih =>
    by_cases e : t.f = f
    · rw [List.filter_cons_of_neg (by simp [e])]; simp only [omL]; rw [if_neg (by omega)]; exact ih
    · rw [List.filter_cons_of_pos (by simp [e])]; simp only [omL, ih]
/-- Lowered by b, but not below 0. -/
def lowT (b : Int) (t : Tg) : Tg := ⟨t.f, t.w, max (t.s - b) 0⟩
theorem omL_low {b : Int} (hb : 0 ≤ b) (O : List Tg) (f : Nat) : omL (O.map (lowT b)) f = max (omL O f - b) 0 := by
  induction O with
  | nil => simp only [List.map_nil, omL]; omega
  | cons t O ih => simp only [List.map_cons, omL, lowT, ih]; split <;> omega
/-! ### (SfPair) Layer 13, plain: the reference's state beside the state by flows' numbers, step by step. No program is named. -/
/-- What the reference holds: the active tags, the remembered ones, the virtual time, the sum of what has been subtracted. -/
structure Rf where
  at_ : Int
  L : List Tg
  O : List Tg
  now : Int
  away : Int
def RfOk (r : Rf) (s : Sf) : Prop := r.at_ = s.at_ ∧ RepL r.L s ∧ (∀ f, f < 32 → omL r.O f = s.om f) ∧ r.now = s.now ∧ r.away = s.away ∧ ∀ f, s.on f = true → s.om f = 0
theorem RfOk.new (a : Int) : RfOk ⟨a, [], [], 0, 0⟩ (Sf.new a) := ⟨rfl, RepL.new a, fun f _ => rfl, rfl, rfl, fun f h => by simp [Sf.new] at h⟩
theorem RfOk.join {r : Rf} {s : Sf} (h : RfOk r s) {f : Nat} {w : Int} {A B : List Tg} (hf : f < 32) (ho : s.on f = false) (hL : r.L = A ++ B) (hA : ∀ a ∈ A, a.f < f) (hB : ∀ b ∈ B, (f : Int) < b.f) :
    RfOk ⟨r.at_, A ++ ⟨f, w, max r.now (omL r.O f)⟩ :: B, r.O.filter (fun t => decide (t.f ≠ f)), r.now, r.away⟩ (s.join f w) := by
  obtain ⟨h1, h2, h3, h4, h5, h6⟩ := h
  rw [hL] at h2
  refine ⟨h1, ?_, fun g hg => ?_, h4, h5, fun g hg => ?_⟩
  · show RepL (A ++ ⟨f, w, max r.now (omL r.O f)⟩ :: B) _
    rw [h4, h3 f hf]; exact h2.join hf ho hA hB
  · simp only [Sf.join]
    by_cases e : g = f
    · subst e; rw [fset_at]; exact omL_out _ _
    · rw [fset_ne _ _ e, omL_keep _ e]; exact h3 g hg
  · simp only [Sf.join] at hg ⊢
    by_cases e : g = f
    · subst e; rw [fset_at]
    · rw [fset_ne _ _ e] at hg ⊢; exact h6 g hg
theorem RfOk.left {r : Rf} {s t : Sf} (h : RfOk r s) {f : Nat} {A B : List Tg} {x : Tg} (hf : f < 32) (hL : r.L = A ++ x :: B) (hx : x.f = f) (hl : s.Left f t) (hst : ∀ g, s.on g = true → 0 ≤ s.st g) (hon : ∀ g, s.on g = true → g < 32) :
    (A ++ B = [] → RfOk ⟨r.at_, [], [], 0, r.away⟩ t) ∧ (A ++ B ≠ [] → RfOk ⟨r.at_, A ++ B, r.O ++ [x], r.now, r.away⟩ t) := by
  obtain ⟨h1, h2, h3, h4, h5, h6⟩ := h
  rw [hL] at h2
  obtain ⟨e1, e2, e3, e4, e5, e6⟩ := hl
  have hR := h2.left hx e2 e3 e4
  have hxi : (A ++ x :: B)[A.length]'(by simp) = x := by simp
  obtain ⟨_, hof, hxt, _⟩ := h2.here (f := f) (i := A.length) (by simp) (by rw [hxi]; exact hx)
  rw [hxi] at hxt
  have hsub : ∀ g, t.on g = true → g ≠ f ∧ s.on g = true := fun g hg => by
    rw [e2] at hg
    by_cases e : g = f
    · subst e; rw [fset_at] at hg; cases hg
    · rw [fset_ne _ _ e] at hg; exact ⟨e, hg⟩
  constructor
  · intro hn
    rw [hn] at hR
    rcases e6 with ⟨i1, i2, i3⟩ | ⟨i1, i2, i3⟩
    · exact ⟨h1.trans e1.symm, hR, fun g _ => by rw [i3]; rfl, i2.symm, h5.trans e5.symm, fun g _ => by rw [i3]⟩
    · exact absurd (hR.idle.2 rfl) i1
  · intro hn
    rcases e6 with ⟨i1, i2, i3⟩ | ⟨i1, i2, i3⟩
    · exact absurd (hR.idle.1 i1) hn
    · refine ⟨h1.trans e1.symm, hR, fun g hg => ?_, by rw [i2]; exact h4, h5.trans e5.symm, fun g hg => ?_⟩
      · show omL (r.O ++ [x]) g = _
        rw [i3, omL_app]
        by_cases e : g = f
        · subst e
          rw [fset_at, h3 g hg, h6 g hof]
          simp only [omL, if_pos hx]
          have := hst g hof
          rw [hxt]; simp only [Sf.tag]; omega
        · rw [fset_ne _ _ e]
          simp only [omL]
          rw [if_neg (by rw [hx]; omega), h3 g hg]
          have := omL_nonneg r.O g
          rw [h3 g hg] at this; omega
      · obtain ⟨g1, g2⟩ := hsub g hg
        rw [i3, fset_ne _ _ g1]; exact h6 g g2
theorem RfOk.setw {r : Rf} {s : Sf} (h : RfOk r s) {f i : Nat} {w : Int} (hi : i < r.L.length) (e : r.L[i].f = f) : RfOk ⟨r.at_, r.L.set i ⟨f, w, s.st f⟩, r.O, r.now, r.away⟩ (s.setw f w) := by
  obtain ⟨h1, h2, h3, h4, h5, h6⟩ := h
  refine ⟨h1, ?_, h3, h4, h5, h6⟩
  have := h2.turn (t := s.setw f w) hi e rfl (fun g hg => by simp only [Sf.setw, Sf.tag]; rw [fset_ne _ _ hg])
  have et : (s.setw f w).tag f = ⟨f, w, s.st f⟩ := by simp only [Sf.setw, Sf.tag]; rw [fset_at]
  rw [et] at this
  exact this
/-- The reference behind a charge of c at place i. -/
def Rf.chL (r : Rf) (i : Nat) (f w x c : Int) : List Tg := r.L.set i ⟨f, w, x + c⟩
def Rf.chB (r : Rf) (i : Nat) (f w x c : Int) : Int := min (stF (r.chL i f w x c) (mI (stF (r.chL i f w x c)) r.L.length)) (max r.now x)
def Rf.ch (r : Rf) (i : Nat) (f w x c : Int) : Rf :=
  if r.at_ ≤ r.chB i f w x c then ⟨r.at_, (r.chL i f w x c).map (lowT (r.chB i f w x c)), r.O.map (lowT (r.chB i f w x c)), max r.now x - r.chB i f w x c, r.away + r.chB i f w x c⟩
  else ⟨r.at_, r.chL i f w x c, r.O, max r.now x, r.away⟩
theorem RfOk.charged {r : Rf} {s t : Sf} (h : RfOk r s) {f i : Nat} {c : Int} (hi : i < r.L.length) (e : r.L[i].f = f) (hc : 0 ≤ c) (hat : 0 ≤ s.at_) (hon : ∀ g, s.on g = true → g < 32) (ht : s.Charged f c t) : RfOk (r.ch i f (s.wt f) (s.st f) c) t := by
  obtain ⟨h1, h2, h3, h4, h5, h6⟩ := h
  obtain ⟨e1, e2, e3, m, b, hm, hb, k⟩ := ht
  have hT := h2.turn (t := { s with st := fset s.st f (s.st f + c) }) hi e rfl (fun g hg => by simp only [Sf.tag]; rw [fset_ne _ _ hg])
  have et : Sf.tag { s with st := fset s.st f (s.st f + c) } f = ⟨f, s.wt f, s.st f + c⟩ := by simp only [Sf.tag]; rw [fset_at]
  rw [et] at hT
  have hlen : (r.chL i f (s.wt f) (s.st f) c).length = r.L.length := by unfold Rf.chL; simp
  have hT' : RepL (r.chL i f (s.wt f) (s.st f) c) { s with st := fset s.st f (s.st f + c) } := hT
  obtain ⟨g, hg, hk, eg⟩ := hT'.least (by omega)
  have hmv : stF (r.chL i f (s.wt f) (s.st f) c) (mI (stF (r.chL i f (s.wt f) (s.st f) c)) r.L.length) = m := by
    rw [← hlen, stF_at hk, eg]
    have h8 : IsMin s.on (fset s.st f (s.st f + c)) (fset s.st f (s.st f + c) g) := ⟨⟨g, hg.1, hg.2.1, rfl⟩, fun q q1 q2 => (hg.2.2 q q1 q2).1⟩
    exact h8.only hm
  have hB : r.chB i f (s.wt f) (s.st f) c = b := by unfold Rf.chB; rw [hmv, h4]; exact hb.symm
  unfold Rf.ch
  rw [hB, h1]
  rcases k with ⟨k1, k2, k3, k4, k5⟩ | ⟨k1, k2, k3, k4, k5⟩
  · rw [if_pos k1]
    refine ⟨e1.symm, hT'.all (fun q hq => ?_) e2, fun q hq => ?_, by rw [k4, h4], by rw [k5, h5], fun q hq => ?_⟩
    · simp only [Sf.tag, lowT, e3, Tg.mk.injEq, true_and]
      have hq' : s.on q = true := hq
      rw [k2 q hq']
      obtain ⟨j, hj⟩ : ∃ j, j = fset s.st f (s.st f + c) q := ⟨_, rfl⟩
      have hq32 : q < 32 := hon q hq'
      have := hm.2 q hq32 hq'
      omega
    · show omL (r.O.map (lowT b)) q = _
      rw [omL_low (by omega), k3 q, h3 q hq]
    · rw [e2] at hq
      rw [k3 q, h6 q hq]; omega
  · rw [if_neg (by omega)]
    refine ⟨e1.symm, ?_, fun q hq => by rw [k3 q]; exact h3 q hq, by rw [k4, h4], by rw [k5, h5], fun q hq => ?_⟩
    · have := hT'.all (F := id) (t := t) (fun q hq => ?_) e2
      · rw [List.map_id] at this; exact this
      · simp only [Sf.tag, id, e3, Tg.mk.injEq, true_and]
        exact (k2 q hq).symm
    · rw [e2] at hq
      rw [k3 q]; exact h6 q hq
/-! ### (SfOk) Layer 13, plain: what holds of every state of the error-free reference (SfOk), what its calls answer, and which state they leave. No program is named. -/
structure SfOk (s : Sf) : Prop where
  at_ : 1 ≤ s.at_ ∧ s.at_ ≤ 1099511627776
  now : 0 ≤ s.now ∧ s.now ≤ 1099511627776
  away : 0 ≤ s.away
  lt : ∀ g, s.on g = true → g < 32
  wt : ∀ g, s.on g = true → 1 ≤ s.wt g ∧ s.wt g ≤ 16
  st : ∀ g, s.on g = true → 0 ≤ s.st g ∧ s.st g ≤ 1099511627776
  om : ∀ g, 0 ≤ s.om g ∧ s.om g ≤ 1099511627776
/-- The flow f is active. -/
def Sf.here (s : Sf) (f : Int) : Bool := decide (0 ≤ f) && decide (f < 32) && s.on f.toNat
theorem here_yes {s : Sf} {f : Int} (h : s.here f = true) : 0 ≤ f ∧ f < 32 ∧ s.on f.toNat = true := by
  unfold Sf.here at h
  simp only [Bool.and_eq_true, decide_eq_true_eq] at h
  exact ⟨h.1.1, h.1.2, h.2⟩
theorem here_nat {s : Sf} {f : Int} (h : s.here f = true) : ∃ n : Nat, f = n ∧ n < 32 ∧ s.on n = true := by
  obtain ⟨h1, h2, h3⟩ := here_yes h
  exact ⟨f.toNat, by omega, by omega, h3⟩
theorem here_of {s : Sf} {n : Nat} (h : n < 32) (ho : s.on n = true) : s.here n = true := by
  unfold Sf.here
  simp only [Bool.and_eq_true, decide_eq_true_eq]
  exact ⟨⟨by omega, by omega⟩, ho⟩
theorem here_ok {s : Sf} (h : SfOk s) {n : Nat} (ho : s.on n = true) : s.here n = true := here_of (h.lt n ho) ho
theorem here_is {s : Sf} {n : Nat} (h : n < 32) : s.here (n : Int) = s.on n := by
  unfold Sf.here
  have h1 : decide ((0 : Int) ≤ (n : Int)) = true := decide_eq_true (by omega)
  have h2 : decide ((n : Int) < 32) = true := decide_eq_true (by omega)
  rw [h1, h2, Int.toNat_natCast]; rfl
/-- Join. -/
def jnE (s : Sf) (f x : Int) : Int := if 0 ≤ f ∧ f < 32 ∧ wtB x = true then (if s.on f.toNat = true then 7 else 0) else 1
def jnT (s : Sf) (f x : Int) : Sf := if jnE s f x = 0 then s.join f.toNat x else s
theorem jn_1 {s : Sf} {f x : Int} (h : ¬ (0 ≤ f ∧ f < 32 ∧ wtB x = true)) : jnE s f x = 1 ∧ jnT s f x = s := by
  have e : jnE s f x = 1 := by unfold jnE; rw [if_neg h]
  exact ⟨e, by unfold jnT; rw [e]; rfl⟩
theorem jn_7 {s : Sf} {n : Nat} {x : Int} (h : n < 32) (hx : wtB x = true) (ho : s.on n = true) : jnE s n x = 7 ∧ jnT s n x = s := by
  have e : jnE s n x = 7 := by unfold jnE; rw [if_pos ⟨by omega, by omega, hx⟩, if_pos (by simpa using ho)]
  exact ⟨e, by unfold jnT; rw [e]; rfl⟩
theorem jn_0 {s : Sf} {n : Nat} {x : Int} (h : n < 32) (hx : wtB x = true) (ho : s.on n = false) : jnE s n x = 0 ∧ jnT s n x = s.join n x := by
  have e : jnE s n x = 0 := by unfold jnE; rw [if_pos ⟨by omega, by omega, hx⟩, if_neg (by simp [ho])]
  exact ⟨e, by unfold jnT; rw [e]; rfl⟩
/-- Leave. -/
def lvE (s : Sf) (f : Int) : Int := if s.here f = true then 0 else 6
def LvT (s : Sf) (f : Int) (t : Sf) : Prop := if s.here f = true then s.Left f.toNat t else t = s
theorem lv_6 {s : Sf} {f : Int} (h : s.here f = false) : lvE s f = 6 ∧ ∀ t, LvT s f t ↔ t = s := by
  unfold lvE LvT; rw [h]; exact ⟨rfl, fun t => Iff.rfl⟩
theorem lv_0 {s : Sf} {n : Nat} (h : n < 32) (ho : s.on n = true) : lvE s n = 0 ∧ ∀ t, LvT s n t ↔ s.Left n t := by
  unfold lvE LvT; rw [here_of h ho]; exact ⟨rfl, fun t => Iff.rfl⟩
/-- SetWeight. -/
def swE (s : Sf) (f x : Int) : Int := if s.here f = true then (if wtB x = true then 0 else 1) else 6
def swT (s : Sf) (f x : Int) : Sf := if swE s f x = 0 then s.setw f.toNat x else s
theorem sw_6 {s : Sf} {f x : Int} (h : s.here f = false) : swE s f x = 6 ∧ swT s f x = s := by
  have e : swE s f x = 6 := by unfold swE; rw [h]; rfl
  exact ⟨e, by unfold swT; rw [e]; rfl⟩
theorem sw_1 {s : Sf} {n : Nat} {x : Int} (h : n < 32) (ho : s.on n = true) (hx : wtB x = false) : swE s n x = 1 ∧ swT s n x = s := by
  have e : swE s n x = 1 := by unfold swE; rw [here_of h ho, hx]; rfl
  exact ⟨e, by unfold swT; rw [e]; rfl⟩
theorem sw_0 {s : Sf} {n : Nat} {x : Int} (h : n < 32) (ho : s.on n = true) (hx : wtB x = true) : swE s n x = 0 ∧ swT s n x = s.setw n x := by
  have e : swE s n x = 0 := by unfold swE; rw [here_of h ho, hx]; rfl
  exact ⟨e, by unfold swT; rw [e]; rfl⟩
/-- Select: flow and error. -/
def SelA (s : Sf) (f g : Int) : Prop := (s.Idle ∧ f = 0 ∧ g = 5) ∨ (∃ n : Nat, s.Sel n ∧ f = n ∧ g = 0)
theorem SelA.only {s : Sf} {f g f' g' : Int} (h : SelA s f g) (k : SelA s f' g') : f = f' ∧ g = g' := by
  rcases h with ⟨h1, rfl, rfl⟩ | ⟨n, h1, rfl, rfl⟩ <;> rcases k with ⟨k1, rfl, rfl⟩ | ⟨m, k1, rfl, rfl⟩
  · exact ⟨rfl, rfl⟩
  · have := h1 m k1.1; rw [k1.2.1] at this; cases this
  · have := k1 n h1.1; rw [h1.2.1] at this; cases this
  · have := h1.only k1; subst this; exact ⟨rfl, rfl⟩
theorem sel_some {s : Sf} (h : SfOk s) : ∃ f g, SelA s f g := by
  by_cases hi : s.Idle
  · exact ⟨0, 5, .inl ⟨hi, rfl, rfl⟩⟩
  · have key : ∀ n, n ≤ 32 → (∃ f, f < n ∧ s.on f = true) → ∃ f, f < n ∧ s.on f = true ∧ ∀ g, g < n → s.on g = true → s.st f ≤ s.st g ∧ (s.st g = s.st f → f ≤ g) := by
      intro n
      induction n with
      | zero => rintro _ ⟨f, hf, _⟩; omega
      | succ n ih =>
        rintro hn ⟨f, hf, ho⟩
        by_cases hx : ∃ f, f < n ∧ s.on f = true
        · obtain ⟨m, m1, m2, m3⟩ := ih (by omega) hx
          by_cases hb : s.on n = true ∧ s.st n < s.st m
          · refine ⟨n, by omega, hb.1, fun g hg hgo => ?_⟩
            rcases (by omega : g < n ∨ g = n) with h1 | rfl
            · have := m3 g h1 hgo; exact ⟨by omega, fun e => by omega⟩
            · exact ⟨Int.le_refl _, fun _ => Nat.le_refl _⟩
          · refine ⟨m, by omega, m2, fun g hg hgo => ?_⟩
            rcases (by omega : g < n ∨ g = n) with h1 | rfl
            · exact m3 g h1 hgo
            · have : ¬ s.st g < s.st m := fun h => hb ⟨hgo, h⟩
              exact ⟨by omega, fun _ => by omega⟩
        · have hfn : f = n := by
            rcases (by omega : f < n ∨ f = n) with h1 | h1
            · exact absurd ⟨f, h1, ho⟩ hx
            · exact h1
          subst hfn
          refine ⟨f, by omega, ho, fun g hg hgo => ?_⟩
          rcases (by omega : g < f ∨ g = f) with h1 | rfl
          · exact absurd ⟨g, h1, hgo⟩ hx
          · exact ⟨Int.le_refl _, fun _ => Nat.le_refl _⟩
    have hx : ∃ f, f < 32 ∧ s.on f = true := by
      refine Classical.byContradiction fun hn => hi fun g hg => ?_
      cases ho : s.on g with
      | false => rfl
      | true => exact absurd ⟨g, hg, ho⟩ hn
    obtain ⟨f, f1, f2, f3⟩ := key 32 (Nat.le_refl _) hx
    exact ⟨f, 0, .inr ⟨f, ⟨f1, f2, f3⟩, rfl, rfl⟩⟩
/-- Charge. -/
def chE (s : Sf) (f l : Int) : Int := if s.here f = true then (if leB l = true then (if s.st f.toNat + l * unC (s.wt f.toNat) ≤ 1099511627776 then 0 else 2) else 1) else 6
def ChT (s : Sf) (f l : Int) (t : Sf) : Prop := if chE s f l = 0 then s.Charged f.toNat (l * unC (s.wt f.toNat)) t else t = s
theorem ch_6 {s : Sf} {f l : Int} (h : s.here f = false) : chE s f l = 6 ∧ ∀ t, ChT s f l t ↔ t = s := by
  have e : chE s f l = 6 := by unfold chE; rw [h]; rfl
  exact ⟨e, fun t => by unfold ChT; rw [e]; exact Iff.rfl⟩
theorem ch_1 {s : Sf} {n : Nat} {l : Int} (h : n < 32) (ho : s.on n = true) (hl : leB l = false) : chE s n l = 1 ∧ ∀ t, ChT s n l t ↔ t = s := by
  have e : chE s n l = 1 := by unfold chE; rw [here_of h ho, hl]; rfl
  exact ⟨e, fun t => by unfold ChT; rw [e]; exact Iff.rfl⟩
theorem ch_2 {s : Sf} {n : Nat} {l : Int} (h : n < 32) (ho : s.on n = true) (hl : leB l = true) (hx : ¬ s.st n + l * unC (s.wt n) ≤ 1099511627776) : chE s n l = 2 ∧ ∀ t, ChT s n l t ↔ t = s := by
  have e : chE s n l = 2 := by unfold chE; rw [here_of h ho, hl, Int.toNat_natCast, if_neg hx]; rfl
  exact ⟨e, fun t => by unfold ChT; rw [e]; exact Iff.rfl⟩
theorem ch_0 {s : Sf} {n : Nat} {l : Int} (h : n < 32) (ho : s.on n = true) (hl : leB l = true) (hx : s.st n + l * unC (s.wt n) ≤ 1099511627776) : chE s n l = 0 ∧ ∀ t, ChT s n l t ↔ s.Charged n (l * unC (s.wt n)) t := by
  have e : chE s n l = 0 := by unfold chE; rw [here_of h ho, hl, Int.toNat_natCast, if_pos hx]; rfl
  exact ⟨e, fun t => by unfold ChT; rw [e, Int.toNat_natCast]; exact Iff.rfl⟩
/-! ### the states stay as they ought to be -/
theorem SfOk.new {a : Int} (h : 1 ≤ a ∧ a ≤ 1099511627776) : SfOk (Sf.new a) :=
  ⟨h, ⟨Int.le_refl 0, (by simp [Sf.new])⟩, Int.le_refl 0, (fun g hg => by simp [Sf.new] at hg), (fun g hg => by simp [Sf.new] at hg), (fun g hg => by simp [Sf.new] at hg), fun g => ⟨Int.le_refl 0, (by simp [Sf.new])⟩⟩
theorem SfOk.join {s : Sf} (h : SfOk s) {n : Nat} {x : Int} (hn : n < 32) (hx : wtB x = true) : SfOk (s.join n x) := by
  have hxx := wt_yes hx
  have hnow := h.now
  refine ⟨h.at_, h.now, h.away, fun g hg => ?_, fun g hg => ?_, fun g hg => ?_, fun g => ?_⟩
  · by_cases e : g = n
    · omega
    · simp only [Sf.join] at hg; rw [fset_ne _ _ e] at hg; exact h.lt g hg
  · simp only [Sf.join] at hg ⊢
    by_cases e : g = n
    · subst e; rw [fset_at]; exact hxx
    · rw [fset_ne _ _ e] at hg ⊢; exact h.wt g hg
  · simp only [Sf.join] at hg ⊢
    by_cases e : g = n
    · subst e; rw [fset_at]; have := h.om g; omega
    · rw [fset_ne _ _ e] at hg ⊢; exact h.st g hg
  · simp only [Sf.join]
    by_cases e : g = n
    · subst e; rw [fset_at]; omega
    · rw [fset_ne _ _ e]; exact h.om g
theorem SfOk.jn {s : Sf} (h : SfOk s) (f x : Int) : SfOk (jnT s f x) := by
  unfold jnT
  split
  · rename_i h0
    unfold jnE at h0
    split at h0
    · rename_i h1
      exact h.join (by omega) h1.2.2
    · cases h0
  · exact h
theorem SfOk.left {s t : Sf} (h : SfOk s) {n : Nat} (ho : s.on n = true) (hl : s.Left n t) : SfOk t := by
  obtain ⟨e1, e2, e3, e4, e5, e6⟩ := hl
  have hsub : ∀ g, t.on g = true → s.on g = true := fun g hg => by
    rw [e2] at hg
    by_cases e : g = n
    · subst e; rw [fset_at] at hg; cases hg
    · rw [fset_ne _ _ e] at hg; exact hg
  have hnow := h.now
  refine ⟨by rw [e1]; exact h.at_, ?_, by rw [e5]; exact h.away, fun g hg => h.lt g (hsub g hg), fun g hg => by rw [e3]; exact h.wt g (hsub g hg), fun g hg => by rw [e4]; exact h.st g (hsub g hg), fun g => ?_⟩
  · rcases e6 with ⟨_, i2, _⟩ | ⟨_, i2, _⟩ <;> omega
  · rcases e6 with ⟨_, _, i3⟩ | ⟨_, _, i3⟩
    · rw [i3]; simp only []; omega
    · rw [i3]
      by_cases e : g = n
      · subst e; rw [fset_at]; exact h.st g ho
      · rw [fset_ne _ _ e]; exact h.om g
theorem SfOk.lv {s t : Sf} (h : SfOk s) {f : Int} (hl : LvT s f t) : SfOk t := by
  unfold LvT at hl
  split at hl
  · rename_i h0; exact h.left (here_yes h0).2.2 hl
  · subst hl; exact h
theorem SfOk.sw {s : Sf} (h : SfOk s) (f x : Int) : SfOk (swT s f x) := by
  unfold swT
  split
  · rename_i h0
    unfold swE at h0
    have hx : wtB x = true := by
      cases hb : wtB x with
      | true => rfl
      | false => rw [hb] at h0; split at h0 <;> cases h0
    have hxx := wt_yes hx
    refine ⟨h.at_, h.now, h.away, h.lt, fun g hg => ?_, h.st, h.om⟩
    simp only [Sf.setw]
    by_cases e : g = f.toNat
    · subst e; rw [fset_at]; exact hxx
    · rw [fset_ne _ _ e]; exact h.wt g hg
  · exact h
theorem SfOk.charged {s t : Sf} (h : SfOk s) {n : Nat} {c : Int} (ho : s.on n = true) (hc : 0 ≤ c) (hx : s.st n + c ≤ 1099511627776) (ht : s.Charged n c t) : SfOk t ∧ t.away ≤ s.away + 1099511627776 := by
  obtain ⟨e1, e2, e3, m, b, ⟨⟨g0, g1, g2, g3⟩, hm⟩, hb, k⟩ := ht
  have hn := h.st n ho
  have hnow := h.now
  have hall : ∀ g, s.on g = true → 0 ≤ fset s.st n (s.st n + c) g ∧ fset s.st n (s.st n + c) g ≤ 1099511627776 ∧ m ≤ fset s.st n (s.st n + c) g := fun g hg => by
    have h1 := hm g (h.lt g hg) hg
    by_cases e : g = n
    · subst e; rw [fset_at] at h1 ⊢; omega
    · rw [fset_ne _ _ e] at h1 ⊢; have := h.st g hg; omega
  have hm0 := hall g0 g2
  rw [g3] at hm0
  have hat := h.at_
  have haw := h.away
  rcases k with ⟨k1, k2, k3, k4, k5⟩ | ⟨k1, k2, k3, k4, k5⟩
  · refine ⟨⟨by rw [e1]; exact hat, by omega, by omega, fun g hg => h.lt g (by rw [← e2]; exact hg), fun g hg => by rw [e3]; exact h.wt g (by rw [← e2]; exact hg), fun g hg => ?_, fun g => ?_⟩, by omega⟩
    · rw [e2] at hg
      rw [k2 g hg]; have := hall g hg; omega
    · rw [k3 g]; have := h.om g; omega
  · refine ⟨⟨by rw [e1]; exact hat, by omega, by omega, fun g hg => h.lt g (by rw [← e2]; exact hg), fun g hg => by rw [e3]; exact h.wt g (by rw [← e2]; exact hg), fun g hg => ?_, fun g => ?_⟩, by omega⟩
    · rw [e2] at hg
      rw [k2 g hg]; have := hall g hg; omega
    · rw [k3 g]; exact h.om g
theorem SfOk.ch {s t : Sf} (h : SfOk s) {f l : Int} (ht : ChT s f l t) : SfOk t ∧ t.away ≤ s.away + 1099511627776 := by
  unfold ChT at ht
  split at ht
  · rename_i h0
    unfold chE at h0
    split at h0
    · rename_i h1
      obtain ⟨n, rfl, hn, ho⟩ := here_nat h1
      split at h0
      · rename_i h2
        split at h0
        · rename_i h3
          simp only [Int.toNat_natCast] at h3 ht
          exact h.charged ho (co_bd h2 (wt_of (h.wt n ho))).1 h3 ht
        · cases h0
      · cases h0
    · cases h0
  · subst ht; exact ⟨h, by have := h.away; omega⟩
theorem away_jn (s : Sf) (f x : Int) : (jnT s f x).away = s.away := by unfold jnT; split <;> rfl
theorem away_sw (s : Sf) (f x : Int) : (swT s f x).away = s.away := by unfold swT; split <;> rfl
theorem away_lv {s t : Sf} {f : Int} (h : LvT s f t) : t.away = s.away := by
  unfold LvT at h
  split at h
  · exact h.2.2.2.2.1
  · subst h; rfl
/-! ### (RfOk) Layer 13, plain: the reference's lists beside the state: the remembered tags are few, each of a flow that is not active; every call's step. No program is named. -/
/-- The remembered tags. -/
def OkO (O : List Tg) (on : Nat → Bool) : Prop := O.Pairwise (fun a b => a.f ≠ b.f) ∧ ∀ t ∈ O, (∃ f : Nat, f < 32 ∧ t.f = f ∧ on f = false) ∧ 0 ≤ t.s ∧ t.s ≤ 1099511627776
theorem nodup_few : ∀ (n : Nat) (l : List Nat), l.Nodup → (∀ x ∈ l, x < n) → l.length ≤ n
  | 0, l, _, h => by
    cases l with
    | nil => exact Nat.le_refl _
    | cons a l => have := h a (List.mem_cons_self ..); omega
  | n + 1, l, hd, h => by
    by_cases hn : n ∈ l
    · have h1 := nodup_few n (l.erase n) (hd.erase n) (fun x hx => by
        have h2 := (hd.mem_erase_iff).1 hx
        have := h x h2.2
        omega)
      have := List.length_erase_of_mem hn
      omega
    · have h1 := nodup_few n l hd (fun x hx => by
        have := h x hx
        have : x ≠ n := by rintro rfl; exact hn hx
        omega)
      omega
theorem OkO.few {O : List Tg} {on : Nat → Bool} (h : OkO O on) : O.length ≤ 32 := by
  have h1 := nodup_few 32 (O.map fun t => t.f.toNat) ?_ ?_
  · simpa using h1
  · refine (List.pairwise_map).2 ?_
    refine List.Pairwise.imp_of_mem ?_ h.1
    intro a b ha hb hne e
    obtain ⟨⟨f, f1, f2, _⟩, _⟩ := h.2 a ha
    obtain ⟨⟨g, g1, g2, _⟩, _⟩ := h.2 b hb
    rw [f2, g2] at hne e
    simp at e
    exact hne (by omega)
  · intro x hx
    obtain ⟨t, ht, rfl⟩ := List.mem_map.1 hx
    obtain ⟨⟨f, f1, f2, _⟩, _⟩ := h.2 t ht
    simp only [f2]
    omega
theorem OkO.nil (on : Nat → Bool) : OkO [] on := ⟨List.Pairwise.nil, fun t ht => by cases ht⟩
theorem OkO.join {O : List Tg} {on : Nat → Bool} (h : OkO O on) (n : Nat) : OkO (O.filter fun t => decide (t.f ≠ n)) (fset on n true) :=
  ⟨h.1.filter _, fun t ht => by
    obtain ⟨h1, h2⟩ := List.mem_filter.1 ht
    obtain ⟨⟨f, f1, f2, f3⟩, h4⟩ := h.2 t h1
    refine ⟨⟨f, f1, f2, ?_⟩, h4⟩
    rw [fset_ne _ _ (by rintro rfl; simp [f2] at h2)]; exact f3⟩
theorem OkO.left {O : List Tg} {on : Nat → Bool} (h : OkO O on) {n : Nat} (hn : n < 32) (ho : on n = true) {x : Tg} (hx : x.f = n) (hs : 0 ≤ x.s ∧ x.s ≤ 1099511627776) : OkO (O ++ [x]) (fset on n false) := by
  have hne : ∀ t ∈ O, t.f ≠ (n : Int) := fun t ht e => by
    obtain ⟨⟨f, f1, f2, f3⟩, _⟩ := h.2 t ht
    rw [f2] at e
    have : f = n := by omega
    subst this; rw [ho] at f3; cases f3
  refine ⟨List.pairwise_append.2 ⟨h.1, List.pairwise_singleton _ _, fun a ha b hb => ?_⟩, fun t ht => ?_⟩
  · simp only [List.mem_singleton] at hb; subst hb; rw [hx]; exact hne a ha
  · rcases List.mem_append.1 ht with h1 | h1
    · obtain ⟨⟨f, f1, f2, f3⟩, h4⟩ := h.2 t h1
      refine ⟨⟨f, f1, f2, ?_⟩, h4⟩
      rw [fset_ne _ _ (by rintro rfl; exact hne t h1 f2)]; exact f3
    · simp only [List.mem_singleton] at h1; subst h1
      exact ⟨⟨n, hn, hx, fset_at _ _ _⟩, hs⟩
theorem OkO.low {O : List Tg} {on : Nat → Bool} (h : OkO O on) {b : Int} (hb : 0 ≤ b) : OkO (O.map (lowT b)) on := by
  refine ⟨(List.pairwise_map).2 h.1, fun t ht => ?_⟩
  obtain ⟨x, hx, rfl⟩ := List.mem_map.1 ht
  obtain ⟨h1, h2⟩ := h.2 x hx
  refine ⟨h1, ?_⟩
  simp only [lowT]; omega
theorem OkO.same {O : List Tg} {on on' : Nat → Bool} (h : OkO O on) (e : on' = on) : OkO O on' := e ▸ h
/-- The reference's lists stand for the state s. -/
def RfS (r : Rf) (s : Sf) : Prop := RfOk r s ∧ OkO r.O s.on
theorem RfS.new (a : Int) : RfS ⟨a, [], [], 0, 0⟩ (Sf.new a) := ⟨RfOk.new a, OkO.nil _⟩
theorem RfS.rep {r : Rf} {s : Sf} (h : RfS r s) : RepL r.L s := h.1.2.1
theorem RfS.few {r : Rf} {s : Sf} (h : RfS r s) : r.L.length ≤ 32 ∧ r.O.length ≤ 32 := ⟨h.rep.few, h.2.few⟩
theorem RfS.join {r : Rf} {s : Sf} (h : RfS r s) {n : Nat} {x : Int} {i : Nat} (hn : n < 32) (ho : s.on n = false) (hA : ∀ a ∈ r.L.take i, a.f < n) (hB : ∀ b ∈ r.L.drop i, (n : Int) < b.f) :
    RfS ⟨r.at_, r.L.take i ++ ⟨n, x, max r.now (omL r.O n)⟩ :: r.L.drop i, r.O.filter (fun t => decide (t.f ≠ n)), r.now, r.away⟩ (s.join n x) :=
  ⟨h.1.join hn ho (List.take_append_drop i r.L).symm hA hB, h.2.join n⟩
/-- Leaving: the flow's tag is at place i. -/
theorem RfS.left {r : Rf} {s t : Sf} (h : RfS r s) (hs : SfOk s) {n i : Nat} (hn : n < 32) (ho : s.on n = true) (hi : i < r.L.length) (e : r.L[i] = s.tag n) (hl : s.Left n t) :
    RfS (if (r.L.take i ++ r.L.drop (i + 1)).length = 0 then ⟨r.at_, r.L.take i ++ r.L.drop (i + 1), [], 0, r.away⟩ else ⟨r.at_, r.L.take i ++ r.L.drop (i + 1), r.O ++ [r.L[i]], r.now, r.away⟩) t := by
  have hx : r.L[i].f = n := by rw [e]; rfl
  have hL : r.L = r.L.take i ++ r.L[i] :: r.L.drop (i + 1) := by rw [← List.drop_eq_getElem_cons hi, List.take_append_drop]
  obtain ⟨k1, k2⟩ := h.1.left hn hL hx hl (fun g hg => (hs.st g hg).1) hs.lt
  have eon : t.on = fset s.on n false := hl.2.1
  by_cases h0 : (r.L.take i ++ r.L.drop (i + 1)).length = 0
  · have e0 := List.eq_nil_of_length_eq_zero h0
    rw [if_pos h0, e0]
    exact ⟨k1 e0, OkO.nil _⟩
  · rw [if_neg h0]
    refine ⟨k2 (fun e0 => h0 (by rw [e0]; rfl)), ?_⟩
    rw [eon]
    exact h.2.left hn ho hx (by rw [e]; exact hs.st n ho)
theorem RfS.setw {r : Rf} {s : Sf} (h : RfS r s) {n i : Nat} {x : Int} (hi : i < r.L.length) (e : r.L[i] = s.tag n) : RfS ⟨r.at_, r.L.set i ⟨r.L[i].f, x, r.L[i].s⟩, r.O, r.now, r.away⟩ (s.setw n x) := by
  refine ⟨?_, h.2⟩
  have := h.1.setw (f := n) (w := x) hi (by rw [e]; rfl)
  have e2 : (⟨r.L[i].f, x, r.L[i].s⟩ : Tg) = ⟨n, x, s.st n⟩ := by rw [e]; rfl
  rw [e2]; exact this
theorem RfS.charged {r : Rf} {s t : Sf} (h : RfS r s) (hs : SfOk s) {n i : Nat} {c : Int} (hi : i < r.L.length) (e : r.L[i] = s.tag n) (hc : 0 ≤ c) (ht : s.Charged n c t) : RfS (r.ch i r.L[i].f r.L[i].w r.L[i].s c) t := by
  have hat := hs.at_
  have h1 := h.1.charged (c := c) hi (by rw [e]; rfl) hc (by omega) hs.lt ht
  have e1 : r.L[i].f = n := by rw [e]; rfl
  have e2 : r.L[i].w = s.wt n := by rw [e]; rfl
  have e3 : r.L[i].s = s.st n := by rw [e]; rfl
  rw [e1, e2, e3]
  refine ⟨h1, ?_⟩
  have eon : t.on = s.on := ht.2.1
  rw [eon]
  unfold Rf.ch
  split
  · rename_i h2
    have : r.at_ = s.at_ := h.1.1
    exact h.2.low (by omega)
  · exact h.2
end Go.Proofs.Ytcdeecigiijabaa

