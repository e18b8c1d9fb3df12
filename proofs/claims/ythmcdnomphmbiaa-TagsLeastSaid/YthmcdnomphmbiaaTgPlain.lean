/-
  Layer 12, plain: costs, finish tags, lists of tags: which are valid, the least one, rebased ones, normalized numbers. No program is named.
-/
import Derived.Test.YthmcdnomphmbiaaShPlain
namespace Go.Proofs.Ythmcdnomphmbiaa
set_option linter.unusedVariables false

structure Tg where
  f : Int
  w : Int
  s : Int
def wtB (w : Int) : Bool := decide (1 ≤ w) && decide (w ≤ 16)
theorem wt_yes {w : Int} (h : wtB w = true) : 1 ≤ w ∧ w ≤ 16 := by unfold wtB at h; simpa using h
theorem wt_of {w : Int} (h : 1 ≤ w ∧ w ≤ 16) : wtB w = true := by unfold wtB; simp; exact h
theorem wt_not {w : Int} (h : ¬ (1 ≤ w ∧ w ≤ 16)) : wtB w = false := by
  cases e : wtB w with
  | false => rfl
  | true => exact absurd (wt_yes e) h
theorem wt_sixteen {w : Int} (h : wtB w = true) : w = 1 ∨ w = 2 ∨ w = 3 ∨ w = 4 ∨ w = 5 ∨ w = 6 ∨ w = 7 ∨ w = 8 ∨ w = 9 ∨ w = 10 ∨ w = 11 ∨ w = 12 ∨ w = 13 ∨ w = 14 ∨ w = 15 ∨ w = 16 := by
  have := wt_yes h; omega
/-- What one byte costs. -/
def unC (w : Int) : Int := 720720 / w
theorem un_bd {w : Int} (h : wtB w = true) : 45045 ≤ unC w ∧ unC w ≤ 720720 := by
  rcases wt_sixteen h with rfl | rfl | rfl | rfl | rfl | rfl | rfl | rfl | rfl | rfl | rfl | rfl | rfl | rfl | rfl | rfl <;> decide
theorem un_mul {w : Int} (h : wtB w = true) : unC w * w = 720720 := by
  rcases wt_sixteen h with rfl | rfl | rfl | rfl | rfl | rfl | rfl | rfl | rfl | rfl | rfl | rfl | rfl | rfl | rfl | rfl <;> decide
/-- Scale is a multiple of every weight, so a product may be divided in either order. -/
theorem un_div {w : Int} (h : wtB w = true) (x : Int) : x * 720720 / w = x * unC w := by
  have e := un_mul h
  have hw := wt_yes h
  rw [← e, ← Int.mul_assoc]
  exact Int.mul_ediv_cancel _ (by omega)
def leB (l : Int) : Bool := decide (1 ≤ l) && decide (l ≤ 4096)
theorem le_yes {l : Int} (h : leB l = true) : 1 ≤ l ∧ l ≤ 4096 := by unfold leB at h; simpa using h
theorem le_of {l : Int} (h : 1 ≤ l ∧ l ≤ 4096) : leB l = true := by unfold leB; simp; exact h
theorem le_not {l : Int} (h : ¬ (1 ≤ l ∧ l ≤ 4096)) : leB l = false := by
  cases e : leB l with
  | false => rfl
  | true => exact absurd (le_yes e) h
/-- Cost. -/
def coE (l w : Int) : Int := if leB l = true ∧ wtB w = true then 0 else 1
def coV (l w : Int) : Int := if leB l = true ∧ wtB w = true then l * unC w else 0
theorem co_no {l w : Int} (h : ¬ (leB l = true ∧ wtB w = true)) : coE l w = 1 ∧ coV l w = 0 := by unfold coE coV; rw [if_neg h, if_neg h]; exact ⟨rfl, rfl⟩
theorem co_yes {l w : Int} (h1 : leB l = true) (h2 : wtB w = true) : coE l w = 0 ∧ coV l w = l * unC w := by unfold coE coV; rw [if_pos ⟨h1, h2⟩, if_pos ⟨h1, h2⟩]; exact ⟨rfl, rfl⟩
theorem mul_bd {l u : Int} {A B : Int} (l0 : 0 ≤ l) (l1 : l ≤ A) (u0 : 0 ≤ u) (u1 : u ≤ B) : 0 ≤ l * u ∧ l * u ≤ A * B :=
  ⟨Int.mul_nonneg l0 u0, Int.le_trans (Int.mul_le_mul_of_nonneg_right l1 u0) (Int.mul_le_mul_of_nonneg_left u1 (by omega))⟩
theorem co_bd {l w : Int} (h1 : leB l = true) (h2 : wtB w = true) : 0 ≤ l * unC w ∧ l * unC w ≤ 2952069120 := by
  have a := le_yes h1
  have b := un_bd h2
  exact mul_bd (A := 4096) (B := 720720) (by omega) a.2 (by omega) b.2
def tgMax : Int := 1099511627776
def stB (s : Int) : Bool := decide (0 ≤ s) && decide (s ≤ 1099511627776)
theorem st_yes {s : Int} (h : stB s = true) : 0 ≤ s ∧ s ≤ 1099511627776 := by unfold stB at h; simpa using h
theorem st_of {s : Int} (h : 0 ≤ s ∧ s ≤ 1099511627776) : stB s = true := by unfold stB; simp; exact h
theorem st_not {s : Int} (h : ¬ (0 ≤ s ∧ s ≤ 1099511627776)) : stB s = false := by
  cases e : stB s with
  | false => rfl
  | true => exact absurd (st_yes e) h
/-- Finish. -/
def fiE (s l w : Int) : Int := if leB l = true ∧ wtB w = true ∧ stB s = true then (if s + l * unC w ≤ 1099511627776 then 0 else 2) else 1
def fiV (s l w : Int) : Int := if leB l = true ∧ wtB w = true ∧ stB s = true then (if s + l * unC w ≤ 1099511627776 then s + l * unC w else 0) else 0
theorem fi_1 {s l w : Int} (h : ¬ (leB l = true ∧ wtB w = true ∧ stB s = true)) : fiE s l w = 1 ∧ fiV s l w = 0 := by unfold fiE fiV; rw [if_neg h, if_neg h]; exact ⟨rfl, rfl⟩
theorem fi_2 {s l w : Int} (h1 : leB l = true) (h2 : wtB w = true) (h3 : stB s = true) (h : ¬ s + l * unC w ≤ 1099511627776) : fiE s l w = 2 ∧ fiV s l w = 0 := by
  have hc := And.intro h1 (And.intro h2 h3)
  unfold fiE fiV; simp only [if_pos hc, if_neg h]; exact ⟨trivial, trivial⟩
theorem fi_0 {s l w : Int} (h1 : leB l = true) (h2 : wtB w = true) (h3 : stB s = true) (h : s + l * unC w ≤ 1099511627776) : fiE s l w = 0 ∧ fiV s l w = s + l * unC w := by
  have hc := And.intro h1 (And.intro h2 h3)
  unfold fiE fiV; simp only [if_pos hc, if_pos h]; exact ⟨trivial, trivial⟩
/-- Normalized. -/
def bdN (b : Int) : Bool := decide (-1099511627776 ≤ b) && decide (b ≤ 1099511627776)
theorem bdN_yes {b : Int} (h : bdN b = true) : -1099511627776 ≤ b ∧ b ≤ 1099511627776 := by unfold bdN at h; simpa using h
theorem bdN_of {b : Int} (h : -1099511627776 ≤ b ∧ b ≤ 1099511627776) : bdN b = true := by unfold bdN; simp; exact h
theorem bdN_not {b : Int} (h : ¬ (-1099511627776 ≤ b ∧ b ≤ 1099511627776)) : bdN b = false := by
  cases e : bdN b with
  | false => rfl
  | true => exact absurd (bdN_yes e) h
def noE (b w : Int) : Int := if bdN b = true ∧ wtB w = true then 0 else 1
def noV (b w : Int) : Int := if bdN b = true ∧ wtB w = true then b * unC w else 0
theorem no_no {b w : Int} (h : ¬ (bdN b = true ∧ wtB w = true)) : noE b w = 1 ∧ noV b w = 0 := by unfold noE noV; rw [if_neg h, if_neg h]; exact ⟨rfl, rfl⟩
theorem no_yes {b w : Int} (h1 : bdN b = true) (h2 : wtB w = true) : noE b w = 0 ∧ noV b w = b * unC w := by unfold noE noV; rw [if_pos ⟨h1, h2⟩, if_pos ⟨h1, h2⟩]; exact ⟨rfl, rfl⟩
theorem no_bd {b w : Int} (h1 : bdN b = true) (h2 : wtB w = true) : -792440020370718720 ≤ b * unC w ∧ b * unC w ≤ 792440020370718720 := by
  have a := bdN_yes h1
  have c := un_bd h2
  rcases Int.le_total 0 b with h | h
  · have := mul_bd (A := 1099511627776) (B := 720720) h a.2 (by omega) c.2
    omega
  · have := mul_bd (A := 1099511627776) (B := 720720) (l := -b) (by omega) (by omega) (by omega) c.2
    rw [Int.neg_mul] at this
    omega
/-! ### lists of tags -/
/-- The tag at place i is as a valid list wants it. -/
def OkAt (L : List Tg) (i : Nat) : Prop := ∀ h : i < L.length, (0 ≤ L[i].f ∧ L[i].f < 32) ∧ (∀ h0 : 0 < i, (L[i - 1]'(by omega)).f < L[i].f) ∧ (1 ≤ L[i].w ∧ L[i].w ≤ 16) ∧ (0 ≤ L[i].s ∧ L[i].s ≤ 1099511627776)
def VaP (L : List Tg) : Prop := ∀ i, OkAt L i
noncomputable def vaB (L : List Tg) : Bool := @decide (VaP L) (Classical.propDecidable _)
theorem va_true {L : List Tg} (h : VaP L) : vaB L = true := by unfold vaB; exact @decide_eq_true _ (Classical.propDecidable _) h
theorem va_false {L : List Tg} {i : Nat} (h : ¬ OkAt L i) : vaB L = false := by unfold vaB; exact @decide_eq_false _ (Classical.propDecidable _) (fun h2 => h (h2 i))
theorem va_yes {L : List Tg} (h : vaB L = true) : VaP L := by unfold vaB at h; exact @of_decide_eq_true _ (Classical.propDecidable _) h
theorem va_of_lt {L : List Tg} (h : ∀ i, i < L.length → OkAt L i) : VaP L := fun i hi => h i hi hi
theorem VaP.at_ {L : List Tg} (h : VaP L) {i : Nat} (hi : i < L.length) : (0 ≤ L[i].f ∧ L[i].f < 32) ∧ (1 ≤ L[i].w ∧ L[i].w ≤ 16) ∧ (0 ≤ L[i].s ∧ L[i].s ≤ 1099511627776) := by
  obtain ⟨a, _, b, c⟩ := h i hi; exact ⟨a, b, c⟩
/-- Flows rise, so there are at most thirty-two tags. -/
theorem VaP.flow {L : List Tg} (h : VaP L) : ∀ (i : Nat) (hi : i < L.length), (i : Int) ≤ L[i].f
  | 0, hi => by have := (h.at_ hi).1.1; simpa using this
  | i + 1, hi => by
    have h1 := h.flow i (by omega)
    have h2 := (h (i + 1) hi).2.1 (by omega)
    have e : L[i + 1 - 1]'(by omega) = L[i]'(by omega) := rfl
    rw [e] at h2
    omega
theorem VaP.few {L : List Tg} (h : VaP L) : L.length ≤ 32 := by
  rcases Nat.eq_zero_or_pos L.length with h0 | h0
  · omega
  · have h1 := h.flow (L.length - 1) (by omega)
    have h2 := (h.at_ (i := L.length - 1) (by omega)).1.2
    omega
/-- The first place of the least number among the first n. -/
def mI (X : Nat → Int) : Nat → Nat
  | 0 => 0
  | n + 1 => if X n < X (mI X n) then n else mI X n
theorem mI_one (X : Nat → Int) : mI X 1 = 0 := by show (if X 0 < X 0 then 0 else 0) = 0; split <;> rfl
theorem mI_lt (X : Nat → Int) : ∀ n, 0 < n → mI X n < n
  | 1, _ => by rw [mI_one]; omega
  | n + 2, _ => by
    have h := mI_lt X (n + 1) (by omega)
    show (if X (n + 1) < X (mI X (n + 1)) then n + 1 else mI X (n + 1)) < n + 2
    split <;> omega
theorem mI_min (X : Nat → Int) : ∀ n j, j < n → X (mI X n) ≤ X j
  | n + 1, j, hj => by
    have e : mI X (n + 1) = if X n < X (mI X n) then n else mI X n := rfl
    rw [e]
    rcases (by omega : j < n ∨ j = n) with h | rfl
    · have := mI_min X n j h
      split <;> omega
    · split <;> omega
theorem mI_first (X : Nat → Int) : ∀ n j, j < mI X n → X (mI X n) < X j
  | n + 1, j, hj => by
    have e : mI X (n + 1) = if X n < X (mI X n) then n else mI X n := rfl
    rw [e] at hj ⊢
    split at hj
    · rename_i h
      rw [if_pos h]
      rcases Nat.lt_or_ge j (mI X n) with h1 | h1
      · have := mI_first X n j h1; omega
      · have := mI_min X n j hj; omega
    · rename_i h
      rw [if_neg h]
      exact mI_first X n j hj
/-- No other place is the first of the least. -/
theorem mI_only (X : Nat → Int) {n m : Nat} (hm : m < n) (h1 : ∀ j, j < n → X m ≤ X j) (h2 : ∀ j, j < m → X m < X j) : mI X n = m := by
  have a := mI_min X n m hm
  have b := mI_lt X n (by omega)
  have c := h1 (mI X n) b
  rcases Nat.lt_trichotomy (mI X n) m with h | h | h
  · have := h2 _ h; omega
  · exact h
  · have := mI_first X n m h; omega
theorem mI_congr {X Y : Nat → Int} : ∀ {n : Nat}, (∀ i, i < n → X i = Y i) → mI X n = mI Y n
  | 0, _ => rfl
  | n + 1, h => by
    have ih := mI_congr (n := n) fun i hi => h i (by omega)
    show (if X n < X (mI X n) then n else mI X n) = if Y n < Y (mI Y n) then n else mI Y n
    rcases Nat.eq_zero_or_pos n with h0 | h0
    · subst h0
      show (if X 0 < X 0 then 0 else 0) = if Y 0 < Y 0 then 0 else 0
      split <;> split <;> rfl
    · rw [ih, h n (by omega), h (mI Y n) (by have := mI_lt Y n h0; omega)]
def stF (L : List Tg) : Nat → Int := fun i => (L.getD i ⟨0, 0, 0⟩).s
theorem stF_at {L : List Tg} {i : Nat} (hi : i < L.length) : stF L i = L[i].s := by unfold stF; rw [List.getD_eq_getElem?_getD, List.getElem?_eq_getElem hi]; rfl
/-- Least. -/
noncomputable def ltI (L : List Tg) : Int := if vaB L = true ∧ 0 < L.length then (mI (stF L) L.length : Nat) else -1
theorem lt_no {L : List Tg} (h : ¬ (vaB L = true ∧ 0 < L.length)) : ltI L = -1 := by unfold ltI; rw [if_neg h]
theorem lt_yes {L : List Tg} (h : vaB L = true) (h0 : 0 < L.length) : ltI L = (mI (stF L) L.length : Nat) := by unfold ltI; rw [if_pos ⟨h, h0⟩]
/-- Rebase. -/
def subT (b : Int) (t : Tg) : Tg := ⟨t.f, t.w, t.s - b⟩
noncomputable def rbE (L : List Tg) (b : Int) : Int := if vaB L = true ∧ 0 ≤ b then (if ∀ t ∈ L, b ≤ t.s then 0 else 2) else 1
noncomputable def rbL (L : List Tg) (b : Int) : List Tg := if rbE L b = 0 then L.map (subT b) else []
theorem rb_1 {L : List Tg} {b : Int} (h : ¬ (vaB L = true ∧ 0 ≤ b)) : rbE L b = 1 ∧ rbL L b = [] := by
  have e : rbE L b = 1 := by unfold rbE; rw [if_neg h]
  exact ⟨e, by unfold rbL; rw [e]; rfl⟩
theorem rb_2 {L : List Tg} {b : Int} (h : vaB L = true) (h0 : 0 ≤ b) {i : Nat} (hi : i < L.length) (h1 : L[i].s < b) : rbE L b = 2 ∧ rbL L b = [] := by
  have e : rbE L b = 2 := by
    unfold rbE; rw [if_pos ⟨h, h0⟩, if_neg (fun h2 => by have := h2 _ (List.getElem_mem hi); omega)]
  exact ⟨e, by unfold rbL; rw [e]; rfl⟩
theorem rb_0 {L : List Tg} {b : Int} (h : vaB L = true) (h0 : 0 ≤ b) (h1 : ∀ i (hi : i < L.length), b ≤ L[i].s) : rbE L b = 0 ∧ rbL L b = L.map (subT b) := by
  have e : rbE L b = 0 := by
    unfold rbE; rw [if_pos ⟨h, h0⟩, if_pos (fun t ht => by obtain ⟨i, hi, rfl⟩ := List.getElem_of_mem ht; exact h1 i hi)]
  exact ⟨e, by unfold rbL; rw [if_pos e]⟩
/-- A rebased list by its least start tag is valid, with the same place of the least. -/
theorem rb_valid {L : List Tg} {b : Int} (h : VaP L) (h0 : 0 ≤ b) (h1 : ∀ i (hi : i < L.length), b ≤ L[i].s) : VaP (L.map (subT b)) := by
  intro i hi
  have hi' : i < L.length := by simpa using hi
  obtain ⟨a1, a2, a3, a4⟩ := h i hi'
  have := h1 i hi'
  simp only [List.getElem_map, subT]
  exact ⟨a1, a2, a3, by omega, by omega⟩
theorem rb_least {L : List Tg} {b : Int} : mI (stF (L.map (subT b))) L.length = mI (stF L) L.length := by
  have hx : ∀ i, i < L.length → stF (L.map (subT b)) i = stF L i - b := fun i hi => by
    rw [stF_at (by simpa using hi), stF_at hi]; simp [subT]
  rcases Nat.eq_zero_or_pos L.length with h0 | h0
  · rw [h0]; rfl
  · have hm := mI_lt (stF L) L.length h0
    refine mI_only _ hm (fun j hj => ?_) (fun j hj => ?_)
    · rw [hx _ hm, hx _ hj]; have := mI_min (stF L) L.length j hj; omega
    · rw [hx _ hm, hx _ (by omega)]; have := mI_first (stF L) L.length j hj; omega
end Go.Proofs.Ythmcdnomphmbiaa

