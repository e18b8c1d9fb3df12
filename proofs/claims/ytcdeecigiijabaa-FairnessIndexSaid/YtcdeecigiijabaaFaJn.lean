/-
  Layer 14: Jain's index: words for wide numbers and sums; the program's Jain. Written by gen_fajn.py.
-/
import Derived.Test.YtcdeecigiijabaaFaWor
import Derived.Test.YtcdeecigiijabaaAddC
namespace Go.Proofs.Ytcdeecigiijabaa
open Go.ChangeShapes Go.WideShapes Go.ChangeAt Go.RowKit
set_option linter.unusedVariables false

def wdH (V : Int) : Int := V / 18446744073709551616
def wdL (V : Int) : Int := V % 18446744073709551616
def aggW (V : Int) : Value := .agg #[.int .u64 (wdH V), .int .u64 (wdL V)]
def wdC (V : Int) : Array Value := #[.int .u64 (wdH V), .int .u64 (wdL V)]
theorem wd_bd {V : Int} (h0 : 0 ≤ V) (h1 : V < 340282366920938463463374607431768211456) : (0 ≤ wdH V ∧ wdH V ≤ 18446744073709551615) ∧ (0 ≤ wdL V ∧ wdL V ≤ 18446744073709551615) := by unfold wdH wdL; omega
theorem pmul_w (a b : Int) (a0 : 0 ≤ a) (a1 : a ≤ 18446744073709551615) (b0 : 0 ≤ b) (b1 : b ≤ 18446744073709551615) (w : World) :
    Calls Try.prog 33 #[.int .u64 a, .int .u64 b] w (Calm (aggW (a * b)) w) :=
  (mul_any a b a0 a1 b0 b1 w).mono fun e w' ⟨h1, h2⟩ => ⟨h1, by rw [h2]; exact (Below.refl _ _).alloc (Nat.le_refl _) _⟩
theorem rmul_w (a b : Int) (a0 : 0 ≤ a) (a1 : a ≤ 18446744073709551615) (b0 : 0 ≤ b) (b1 : b ≤ 18446744073709551615) (w : World) :
    Calls Try.prog 40 #[.int .u64 a, .int .u64 b] w (Calm (aggW (a * b)) w) :=
  (refMul_any a b a0 a1 b0 b1 w).mono fun e w' ⟨h1, h2⟩ => ⟨h1, by rw [h2]; exact (Below.refl _ _).alloc (Nat.le_refl _) _⟩
theorem w_lo {A y : Int} (h0 : 0 ≤ A) (y0 : 0 ≤ y) (h : wdL A + y ≤ 18446744073709551615) : wdH (A + y) = wdH A ∧ wdL (A + y) = wdL A + y := by unfold wdH wdL at *; omega
theorem w_hi {A y : Int} (h0 : 0 ≤ A) (h1 : A + y < 340282366920938463463374607431768211456) (y0 : 0 ≤ y) (y1 : y ≤ 18446744073709551615) : wdH (A + y) = aHi (wdH A) (wdL A) y ∧ wdL (A + y) = aLo (wdL A) y ∧ aOver (wdH A) (wdL A) y = false := by
  have e : wdH A * 18446744073709551616 + wdL A = A := by unfold wdH wdL; omega
  refine ⟨?_, ?_, ?_⟩
  · unfold aHi wdH wdL; omega
  · unfold aLo wdL; omega
  · unfold aOver; exact decide_eq_false (by omega)
theorem padd_w (A y : Int) (h0 : 0 ≤ A) (y0 : 0 ≤ y) (y1 : y ≤ 18446744073709551615) (h1 : A + y < 340282366920938463463374607431768211456) (w : World) :
    Calls Try.prog 43 #[aggW A, .int .u64 y] w (Calm (.tuple #[aggW (A + y), .bool false]) w) := by
  obtain ⟨⟨b0, b1⟩, b2, b3⟩ := wd_bd h0 (by omega)
  unfold Calm aggW
  by_cases h : wdL A + y ≤ 18446744073709551615
  · obtain ⟨e1, e2⟩ := w_lo h0 y0 h
    rw [e1, e2]
    refine (add_lo (wdH A) (wdL A) y b0 b1 b2 b3 y0 y1 h w).mono ?_
    rintro e w' ⟨rfl, rfl⟩
    exact ⟨rfl, below_alloc (below_alloc (below_alloc (Below.refl _ _) _) _) _⟩
  · obtain ⟨e1, e2, e3⟩ := w_hi h0 h1 y0 y1
    rw [e1, e2, ← e3]
    refine (add_hi (wdH A) (wdL A) y b0 b1 b2 b3 y0 y1 (by omega) w).mono ?_
    rintro e w' ⟨rfl, rfl⟩
    exact ⟨rfl, (below_alloc (below_alloc (below_alloc (Below.refl _ _) _) _) _).drew⟩
theorem radd_w (A y : Int) (h0 : 0 ≤ A) (y0 : 0 ≤ y) (y1 : y ≤ 18446744073709551615) (h1 : A + y < 340282366920938463463374607431768211456) (w : World) :
    Calls Try.prog 41 #[aggW A, .int .u64 y] w (Calm (.tuple #[aggW (A + y), .bool false]) w) := by
  obtain ⟨⟨b0, b1⟩, b2, b3⟩ := wd_bd h0 (by omega)
  unfold Calm aggW
  by_cases h : wdL A + y ≤ 18446744073709551615
  · obtain ⟨e1, e2⟩ := w_lo h0 y0 h
    rw [e1, e2]
    refine (refAdd_lo (wdH A) (wdL A) y b0 b1 b2 b3 y0 y1 h w).mono ?_
    rintro e w' ⟨rfl, rfl⟩
    exact ⟨rfl, below_alloc (below_alloc (Below.refl _ _) _) _⟩
  · obtain ⟨e1, e2, e3⟩ := w_hi h0 h1 y0 y1
    rw [e1, e2, ← e3]
    refine (refAdd_hi (wdH A) (wdL A) y b0 b1 b2 b3 y0 y1 (by omega) w).mono ?_
    rintro e w' ⟨rfl, rfl⟩
    exact ⟨rfl, (below_alloc (below_alloc (Below.refl _ _) _) _).drew⟩
theorem w_sum {A B : Int} (h0 : 0 ≤ A) (k0 : 0 ≤ B) (h1 : A + B < 340282366920938463463374607431768211456) : A + wdL B < 340282366920938463463374607431768211456 ∧ wdH (A + wdL B) + wdH B = wdH (A + B) ∧ wdL (A + wdL B) = wdL (A + B) := by unfold wdH wdL; omega
/-! ### what Jain sums -/
def xI (s : Sp) : Int := svI s / 1024
theorem x_bd {s : Sp} (h : spB s = true) : 0 ≤ xI s ∧ xI s ≤ 1511459389440 := by have := sv_bd h; unfold xI; omega
def smK (L : List Sp) (k : Nat) : Int := smI ((L.take k).map xI)
def sqK (L : List Sp) (k : Nat) : Int := sqI ((L.take k).map xI)
theorem take_xs {L : List Sp} {k : Nat} (hk : k < L.length) : (L.take (k + 1)).map xI = (L.take k).map xI ++ [xI L[k]] := by
  rw [List.take_add_one, List.getElem?_eq_getElem hk, List.map_append]; rfl
theorem sm_next {L : List Sp} {k : Nat} (hk : k < L.length) : smK L (k + 1) = smK L k + xI L[k] := by unfold smK; rw [take_xs hk, sm_snoc]
theorem sq_next {L : List Sp} {k : Nat} (hk : k < L.length) : sqK L (k + 1) = sqK L k + xI L[k] * xI L[k] := by unfold sqK; rw [take_xs hk, sq_snoc]
theorem xs_mem {L : List Sp} (hv : ∀ k (hk : k < L.length), spB L[k] = true) {k : Nat} {y : Int} (hy : y ∈ (L.take k).map xI) : 0 ≤ y ∧ y ≤ 1511459389440 := by
  obtain ⟨s, hs, rfl⟩ := List.mem_map.1 hy
  obtain ⟨i, hi, rfl⟩ := List.getElem_of_mem (List.mem_of_mem_take hs)
  exact x_bd (hv i hi)
theorem smK_bd {L : List Sp} (hv : ∀ k (hk : k < L.length), spB L[k] = true) (hn : L.length ≤ 32) (k : Nat) : 0 ≤ smK L k ∧ smK L k ≤ 48366700462080 := by
  have h1 := sm_nonneg (L := (L.take k).map xI) fun y hy => (xs_mem hv hy).1
  have h2 := sm_le (B := 1511459389440) (L := (L.take k).map xI) fun y hy => (xs_mem hv hy).2
  simp only [List.length_map, List.length_take] at h2
  unfold smK
  refine ⟨h1, Int.le_trans h2 ?_⟩
  have : ((min k L.length : Nat) : Int) ≤ 32 := by omega
  omega
theorem xx_bd {x : Int} (h : 0 ≤ x ∧ x ≤ 1511459389440) : 0 ≤ x * x ∧ x * x ≤ 2284509485927348831213600 + 1000000000000000000 := by
  refine ⟨Int.mul_nonneg h.1 h.1, Int.le_trans (Int.mul_le_mul h.2 h.2 h.1 (by omega)) (by omega)⟩
theorem sq_nonneg14 : ∀ L : List Int, 0 ≤ sqI L
  | [] => Int.le_refl 0
  | b :: L => by have := sq_nonneg14 L; have := sq_nonneg b; simp only [sqI]; omega
theorem sqK_bd {L : List Sp} (hv : ∀ k (hk : k < L.length), spB L[k] = true) (hn : L.length ≤ 32) (k : Nat) : 0 ≤ sqK L k ∧ sqK L k ≤ 73104335549675162598835200 := by
  have h1 := sq_nonneg14 ((L.take k).map xI)
  have h2 := sq_le (B := 2284510485927348831213600) (L := (L.take k).map xI) fun y hy => by have := (xx_bd (xs_mem hv hy)).2; omega
  simp only [List.length_map, List.length_take] at h2
  unfold sqK
  refine ⟨h1, Int.le_trans h2 ?_⟩
  have : ((min k L.length : Nat) : Int) ≤ 32 := by omega
  omega
theorem mulN {n : Nat} {x B : Int} (hn : n ≤ 32) (h0 : 0 ≤ x) (h1 : x ≤ B) : 0 ≤ (n : Int) * x ∧ (n : Int) * x ≤ 32 * B := by
  refine ⟨Int.mul_nonneg (by omega) h0, ?_⟩
  exact Int.mul_le_mul (by omega) h1 h0 (by omega)
theorem n_step (n s x : Int) : n * s + n * x * x = n * (s + x * x) := by rw [Int.mul_add, Int.mul_assoc]
/-- The numerator and the denominator. -/
def jaN (L : List Sp) : Int := if ckE L 1 = 0 then smK L L.length * smK L L.length else 0
def jaD (L : List Sp) : Int := if ckE L 1 = 0 then (L.length : Int) * sqK L L.length else 0
theorem ja_no {L : List Sp} (h : ckE L 1 ≠ 0) : jaN L = 0 ∧ jaD L = 0 := by unfold jaN jaD; rw [if_neg h, if_neg h]; exact ⟨rfl, rfl⟩
theorem ja_yes {L : List Sp} (h : ckE L 1 = 0) : jaN L = smK L L.length * smK L L.length ∧ jaD L = (L.length : Int) * sqK L L.length := by unfold jaN jaD; rw [if_pos h, if_pos h]; exact ⟨rfl, rfl⟩
theorem ck_one {L : List Sp} {n : Nat} (h : ckE L n = 0) : vsB L = true ∧ n ≤ L.length := by
  cases hv : vsB L with
  | false => rw [ck_bad hv] at h; omega
  | true =>
    refine ⟨rfl, ?_⟩
    by_cases h2 : L.length < n
    · rw [ck_few hv h2] at h; omega
    · omega
/-! ### regions that read, call and store -/
/-- One block g is written by operation st; nothing below g turns. -/
structure JnC (wS : World) (VT : Nat → Value) (g st : Nat) (T : TypeId) (old new : Array Value) (L : Nat → Bool) (vals : Nat → Value) (w : World) : Prop where
  v : ∀ i, i ≠ st → L i = true → vals i = VT i
  b : Below g wS w
  o : L st = false → Whole w g T old
  n : L st = true → Whole w g T new
section
variable {wS w w' : World} {VT : Nat → Value} {g st : Nat} {T : TypeId} {old new : Array Value} {L : Nat → Bool} {vals : Nat → Value}
theorem JnC.start (h : Whole wS g T old) : JnC wS VT g st T old new (fun _ => false) (fun _ => undef) wS := ⟨(fun i _ h => by cases h), Below.refl _ _, fun _ => h, fun h => by cases h⟩
theorem JnC.lt (h : JnC wS VT g st T old new L vals w) : g < w.heap.size := by
  cases e : L st with
  | false => exact (h.o e).size_lt
  | true => exact (h.n e).size_lt
theorem JnC.step (h : JnC wS VT g st T old new L vals w) (i : Nat) (hi : i ≠ st) {x : Value} (hx : x = VT i) (hb : Below w.heap.size w w') : JnC wS VT g st T old new (setL L i) (setV vals i x) w' := by
  have hg := h.lt
  refine ⟨fun j hj hl => ?_, h.b.trans (hb.mono (by omega)), fun hl => ?_, fun hl => ?_⟩
  · by_cases e : j = i
    · subst e; rw [setV_at]; exact hx
    · rw [setV_ne e]; rw [setL_ne e] at hl; exact h.v j hj hl
  · rw [setL_ne (Ne.symm hi)] at hl; exact (h.o hl).later hb
  · rw [setL_ne (Ne.symm hi)] at hl; exact (h.n hl).later hb
theorem JnC.quiet (h : JnC wS VT g st T old new L vals w) (i : Nat) (hi : i ≠ st) {x : Value} (hx : x = VT i) : JnC wS VT g st T old new (setL L i) (setV vals i x) w := h.step i hi hx (Below.refl _ _)
theorem JnC.write (h : JnC wS VT g st T old new L vals w) (hb : Below g w w') (hn : Whole w' g T new) {x : Value} : JnC wS VT g st T old new (setL L st) (setV vals st x) w' := by
  refine ⟨fun j hj hl => ?_, h.b.trans hb, fun hl => ?_, fun _ => hn⟩
  · rw [setV_ne hj]; rw [setL_ne hj] at hl; exact h.v j hj hl
  · rw [setL_at] at hl; cases hl
end
theorem whole2 {w : World} {g : Nat} {T : TypeId} {h0 l0 h1 l1 : Value} (h : Whole w g T #[h0, l0]) : Whole ((w.setCell ⟨g, 0, none⟩ h1).setCell ⟨g, 1, none⟩ l1) g T #[h1, l1] := (h.put 0 h1).put 1 l1
theorem below2 {w : World} {g : Nat} {h1 l1 : Value} : Below g w ((w.setCell ⟨g, 0, none⟩ h1).setCell ⟨g, 1, none⟩ l1) := ((Below.refl g w).setCell (p := ⟨g, 0, none⟩) (Nat.le_refl _) h1).setCell (p := ⟨g, 1, none⟩) (Nat.le_refl _) l1
theorem far2 {w : World} {g k : Nat} {h1 l1 : Value} (hn : k ≠ g) : ((w.setCell ⟨g, 0, none⟩ h1).setCell ⟨g, 1, none⟩ l1).heap[k]? = w.heap[k]? := by
  rw [Below.heap_setCell _ _ _ _ hn, Below.heap_setCell _ _ _ _ hn]
theorem size2 {w : World} {g : Nat} {h1 l1 : Value} : ((w.setCell ⟨g, 0, none⟩ h1).setCell ⟨g, 1, none⟩ l1).heap.size = w.heap.size := by simp [World.setCell]
/-- Two results' blocks are written by operations 4 and 5; block d is read. -/
structure JnF (wS : World) (VT : Nat → Value) (g2 g3 d : Nat) (T : TypeId) (z num den : Array Value) (L : Nat → Bool) (vals : Nat → Value) (w : World) : Prop where
  v : ∀ i, i ≠ 4 ∧ i ≠ 5 → L i = true → vals i = VT i
  b : Below g2 wS w
  k : Whole w d T den
  o4 : L 4 = false → Whole w g2 T z
  n4 : L 4 = true → Whole w g2 T num
  o5 : L 5 = false → Whole w g3 T z
  n5 : L 5 = true → Whole w g3 T den
section
variable {wS w w' : World} {VT : Nat → Value} {g2 g3 d : Nat} {T : TypeId} {z num den : Array Value} {L : Nat → Bool} {vals : Nat → Value}
theorem JnF.start (h2 : Whole wS g2 T z) (h3 : Whole wS g3 T z) (hd : Whole wS d T den) : JnF wS VT g2 g3 d T z num den (fun _ => false) (fun _ => undef) wS := ⟨(fun i _ h => by cases h), Below.refl _ _, hd, fun _ => h2, (fun h => by cases h), fun _ => h3, fun h => by cases h⟩
theorem JnF.lt (h : JnF wS VT g2 g3 d T z num den L vals w) : g2 < w.heap.size := by
  cases e : L 4 with
  | false => exact (h.o4 e).size_lt
  | true => exact (h.n4 e).size_lt
theorem JnF.step (h : JnF wS VT g2 g3 d T z num den L vals w) (i : Nat) (hi : i ≠ 4 ∧ i ≠ 5) {x : Value} (hx : x = VT i) (hb : Below w.heap.size w w') : JnF wS VT g2 g3 d T z num den (setL L i) (setV vals i x) w' := by
  have hg := h.lt
  refine ⟨fun j hj hl => ?_, h.b.trans (hb.mono (by omega)), h.k.later hb, fun hl => ?_, fun hl => ?_, fun hl => ?_, fun hl => ?_⟩
  · by_cases e : j = i
    · subst e; rw [setV_at]; exact hx
    · rw [setV_ne e]; rw [setL_ne e] at hl; exact h.v j hj hl
  · rw [setL_ne (Ne.symm hi.1)] at hl; exact (h.o4 hl).later hb
  · rw [setL_ne (Ne.symm hi.1)] at hl; exact (h.n4 hl).later hb
  · rw [setL_ne (Ne.symm hi.2)] at hl; exact (h.o5 hl).later hb
  · rw [setL_ne (Ne.symm hi.2)] at hl; exact (h.n5 hl).later hb
theorem JnF.quiet (h : JnF wS VT g2 g3 d T z num den L vals w) (i : Nat) (hi : i ≠ 4 ∧ i ≠ 5) {x : Value} (hx : x = VT i) : JnF wS VT g2 g3 d T z num den (setL L i) (setV vals i x) w := h.step i hi hx (Below.refl _ _)
theorem JnF.write4 {h1 l1 : Value} (h : JnF wS VT g2 g3 d T z #[h1, l1] den L vals w) (hi : L 4 = false) (hz : z.size = 2) (n3 : g3 ≠ g2) (nd : d ≠ g2) {x : Value} :
    JnF wS VT g2 g3 d T z #[h1, l1] den (setL L 4) (setV vals 4 x) ((w.setCell ⟨g2, 0, none⟩ h1).setCell ⟨g2, 1, none⟩ l1) := by
  obtain ⟨a, b, rfl⟩ : ∃ a b, z = #[a, b] := by
    obtain ⟨l⟩ := z
    match l, hz with
    | [a, b], _ => exact ⟨a, b, rfl⟩
  refine ⟨fun j hj hl => ?_, h.b.trans below2, h.k.carry (far2 nd), fun hl => ?_, fun _ => whole2 (h.o4 hi), fun hl => ?_, fun hl => ?_⟩
  · rw [setV_ne hj.1]; rw [setL_ne hj.1] at hl; exact h.v j hj hl
  · rw [setL_at] at hl; cases hl
  · rw [setL_ne (by decide)] at hl; exact (h.o5 hl).carry (far2 n3)
  · rw [setL_ne (by decide)] at hl; exact (h.n5 hl).carry (far2 n3)
theorem JnF.write5 {h1 l1 : Value} (h : JnF wS VT g2 g3 d T z num #[h1, l1] L vals w) (hi : L 5 = false) (hz : z.size = 2) (n3 : g2 < g3) (nd : d ≠ g3) {x : Value} :
    JnF wS VT g2 g3 d T z num #[h1, l1] (setL L 5) (setV vals 5 x) ((w.setCell ⟨g3, 0, none⟩ h1).setCell ⟨g3, 1, none⟩ l1) := by
  obtain ⟨a, b, rfl⟩ : ∃ a b, z = #[a, b] := by
    obtain ⟨l⟩ := z
    match l, hz with
    | [a, b], _ => exact ⟨a, b, rfl⟩
  refine ⟨fun j hj hl => ?_, h.b.trans (below2.mono (by omega)), h.k.carry (far2 nd), fun hl => ?_, fun hl => ?_, fun hl => ?_, fun _ => whole2 (h.o5 hi)⟩
  · rw [setV_ne hj.2]; rw [setL_ne hj.2] at hl; exact h.v j hj hl
  · rw [setL_ne (by decide)] at hl; exact (h.o4 hl).carry (far2 (by omega))
  · rw [setL_ne (by decide)] at hl; exact (h.n4 hl).carry (far2 (by omega))
  · rw [setL_at] at hl; cases hl
end
/-- What plus leaves. -/
theorem plus_end {w w1 : World} {T : TypeId} {o : Obj} {a b h l : Value} (hb : Below w.heap.size w w1) (hz : Whole w1 (w.heap.size + 1 + 1) T #[a, b]) :
    Whole (((w1.alloc o).setCell ⟨w.heap.size + 1 + 1, 0, none⟩ h).setCell ⟨w.heap.size + 1 + 1, 1, none⟩ l) (w.heap.size + 1 + 1) T #[h, l] ∧ Below w.heap.size w (((w1.alloc o).setCell ⟨w.heap.size + 1 + 1, 0, none⟩ h).setCell ⟨w.heap.size + 1 + 1, 1, none⟩ l) :=
  ⟨whole2 (hz.alloc o), (hb.alloc hb.size o).trans (below2.mono (by omega))⟩
set_option maxRecDepth 100000 in
set_option maxHeartbeats 4000000 in
theorem plus_any (A B : Int) (h0 : 0 ≤ A) (k0 : 0 ≤ B) (h1 : A + B < 340282366920938463463374607431768211456) (w : World) :
    Calls Try.prog 32 #[aggW A, aggW B] w (Calm (aggW (A + B)) w) := by
  obtain ⟨s1, s2, s3⟩ := w_sum h0 k0 h1
  obtain ⟨⟨b0, b1⟩, b2, b3⟩ := wd_bd k0 (by omega)
  obtain ⟨⟨c0, c1⟩, c2, c3⟩ := wd_bd (V := A + B) (by omega) h1
  have HAD := padd_w A (wdL B) h0 b2 b3 s1
  unfold Calm aggW at *
  rw [s3] at HAD
  have hw : IntKind.u64.wrap (wdH (A + wdL B) + wdH B) = wdH (A + B) := by rw [s2]; exact IntWalk.u64_in _ (by omega)
  generalize wdH (A + wdL B) = p at *
  generalize wdH (A + B) = h at *
  generalize wdL (A + B) = l at *
  generalize wdH A = a1 at *
  generalize wdL A = a0 at *
  generalize wdH B = d1 at *
  generalize wdL B = d0 at *
  have HAD := Lib.hid HAD
  have HA := Lib.hid (fun (W : World) (hb : Below ((((w.alloc (.cells #[.int .u64 a1, .int .u64 a0] 37)).alloc (.cells #[.int .u64 d1, .int .u64 d0] 37)).alloc (.cells #[.int .u64 0, .int .u64 0] 37)).heap.size) (((w.alloc (.cells #[.int .u64 a1, .int .u64 a0] 37)).alloc (.cells #[.int .u64 d1, .int .u64 d0] 37)).alloc (.cells #[.int .u64 0, .int .u64 0] 37)) W) => by
    have hx := ((Whole.fresh (w.alloc (.cells #[.int .u64 a1, .int .u64 a0] 37)) 37 #[.int .u64 d1, .int .u64 d0]).alloc (.cells #[.int .u64 0, .int .u64 0] 37)).later hb
    have hy := (Whole.fresh ((w.alloc (.cells #[.int .u64 a1, .int .u64 a0] 37)).alloc (.cells #[.int .u64 d1, .int .u64 d0] 37)) 37 #[.int .u64 0, .int .u64 0]).later hb
    rw [World.size_alloc] at hx
    rw [World.size_alloc, World.size_alloc] at hy
    have hbb : Below w.heap.size w W := ((((Below.refl w.heap.size w).alloc (Nat.le_refl _) _).alloc (by simp) _).alloc (by simp; omega) _).trans (hb.mono (by simp; omega))
    exact (⟨hx, hy, hbb⟩ : Whole W (w.heap.size + 1) 37 #[.int .u64 d1, .int .u64 d0] ∧ Whole W (w.heap.size + 1 + 1) 37 #[.int .u64 0, .int .u64 0] ∧ Below w.heap.size w W))
  clear s1 s2 s3 b0 b1 b2 b3 c0 c1 c2 c3 h0 k0 h1
  go_enter Try.func32, Try.ntmps32
  go_wp2_with fail
  (with_reducible refine (HAD.out _).mono ?_); rintro e w1 ⟨rfl, hb⟩
  obtain ⟨hx, hy, hbb⟩ := HA.out w1 hb
  have x0 := fun o => (hx.alloc o).read 0
  have y0 := fun o => (hy.alloc o).read 0
  have y1 := fun o => (hy.alloc o).read 1
  have z0 := fun o => (hy.alloc o).free 0
  have z1 := fun o => (hy.alloc o).free 1
  have x0 : ∀ o, (w1.alloc o).cell? ⟨w.heap.size + 1, 0, none⟩ = some (.int .u64 d1) := fun o => x0 o
  have y0 : ∀ o, (w1.alloc o).cell? ⟨w.heap.size + 1 + 1, 0, none⟩ = some (.int .u64 0) := fun o => y0 o
  have y1 : ∀ o, (w1.alloc o).cell? ⟨w.heap.size + 1 + 1, 1, none⟩ = some (.int .u64 0) := fun o => y1 o
  have HEND := Lib.hid (plus_end (o := .cells #[.int .u64 h, .int .u64 l] 37) (h := .int .u64 h) (l := .int .u64 l) hbb hy)
  have hlt : w.heap.size + 1 + 1 ≠ w1.heap.size := by have := hy.size_lt; omega
  have hlt2 : w1.heap.size ≠ w.heap.size + 1 + 1 := Ne.symm hlt
  clear hx hy hbb hb HA HAD
  go_wp2
  obtain ⟨hW, hB⟩ := HEND.out
  clear HEND
  generalize ((w1.alloc (.cells #[.int .u64 h, .int .u64 l] 37)).setCell ⟨w.heap.size + 1 + 1, 0, none⟩ (.int .u64 h)).setCell ⟨w.heap.size + 1 + 1, 1, none⟩ (.int .u64 l) = wE at *
  have r0 := hW.read 0
  have r1 := hW.read 1
  simp at r0 r1
  exact bodyPost_ret (v := .agg #[.int .u64 h, .int .u64 l]) (by simp [results, Try.results32, go_sem, r0, r1]) rfl ⟨rfl, hB⟩
theorem jerr_end {w w1 : World} {T : TypeId} {a b p1 p0 q1 q0 : Value} (hb : Below w.heap.size w w1) (h2 : Whole w1 w.heap.size T #[a, b]) (h3 : Whole w1 (w.heap.size + 1) T #[a, b]) :
    Whole ((((w1.setCell ⟨w.heap.size, 0, none⟩ p1).setCell ⟨w.heap.size, 1, none⟩ p0).setCell ⟨w.heap.size + 1, 0, none⟩ q1).setCell ⟨w.heap.size + 1, 1, none⟩ q0) w.heap.size T #[p1, p0] ∧
    Whole ((((w1.setCell ⟨w.heap.size, 0, none⟩ p1).setCell ⟨w.heap.size, 1, none⟩ p0).setCell ⟨w.heap.size + 1, 0, none⟩ q1).setCell ⟨w.heap.size + 1, 1, none⟩ q0) (w.heap.size + 1) T #[q1, q0] ∧
    Below w.heap.size w ((((w1.setCell ⟨w.heap.size, 0, none⟩ p1).setCell ⟨w.heap.size, 1, none⟩ p0).setCell ⟨w.heap.size + 1, 0, none⟩ q1).setCell ⟨w.heap.size + 1, 1, none⟩ q0) :=
  ⟨(whole2 h2).carry (far2 (by omega)), whole2 (h3.carry (far2 (by omega))), hb.trans (below2.trans (below2.mono (by omega)))⟩
/-- Two blocks of zeros just made. -/
theorem two_zero (T : TypeId) (cs : Array Value) (w : World) : ∀ W, Below ((w.alloc (.cells cs T)).alloc (.cells cs T)).heap.size ((w.alloc (.cells cs T)).alloc (.cells cs T)) W →
    Whole W w.heap.size T cs ∧ Whole W (w.heap.size + 1) T cs ∧ Below w.heap.size w W := by
  intro W hb
  have h3 := (Whole.fresh (w.alloc (.cells cs T)) T cs).later hb
  rw [World.size_alloc] at h3
  exact ⟨((Whole.fresh w T cs).alloc (.cells cs T)).later hb, h3, (((Below.refl w.heap.size w).alloc (Nat.le_refl _) _).alloc (by simp) _).trans (hb.mono (by simp; omega))⟩
theorem wdC_zero (n : Int) (L : List Sp) : wdC (n * sqK L 0) = #[.int .u64 0, .int .u64 0] := by unfold wdC; rw [show sqK L 0 = 0 from rfl, Int.mul_zero]; rfl
set_option maxRecDepth 100000 in
set_option maxHeartbeats 8000000 in
theorem pjain_any (A : Option Addr) (c : Nat) (L : List Sp) (L1 B1 : Nat) (w : World) (hB1 : B1 ≤ w.heap.size) (hn : L.length ≤ 100000) (ha : SrAt csP 3 w L1 B1 A L) :
    Calls Try.prog 15 #[.slice A L.length c] w (Calm (.tuple #[aggW (jaN L), aggW (jaD L), .int .i64 (ckE L 1)]) w) := by
  have HC := fun (W : World) (hb : Below w.heap.size w W) => check_any A c L 1 L1 B1 W (Nat.le_trans hB1 hb.size) hn (by omega) (ha.below hb hB1)
  rw [show ((1 : Nat) : Int) = 1 from rfl] at HC
  have hb2 : Below w.heap.size w ((w.alloc (.cells #[.int .u64 0, .int .u64 0] 37)).alloc (.cells #[.int .u64 0, .int .u64 0] 37)) := ((Below.refl w.heap.size w).alloc (Nat.le_refl _) _).alloc (by simp) _
  have HC := HC _ hb2
  have HZ := Lib.hid (two_zero 37 #[.int .u64 0, .int .u64 0] w)
  clear hb2
  by_cases hE : ckE L 1 = 0
  · obtain ⟨hv, h1⟩ := ck_one hE
    obtain ⟨hvs, h32⟩ := vs_yes hv
    obtain ⟨e1, e2⟩ := ja_yes hE
    rw [hE] at HC ⊢
    rw [e1, e2]
    obtain ⟨bb, off, rfl, -⟩ := ha.sp (k := 0) (by omega)
    obtain ⟨N, hN⟩ : ∃ N, L.length = N := ⟨_, rfl⟩
    have HTA := Lib.hid (fun i (hi : i < L.length) (W : World) (hb : Below w.heap.size w W) => two_at ha hB1 hi hi rfl W hb)
    have HSV := Lib.hid (fun i (hi : i < L.length) (W : World) => pservice_any L[i] (hvs i hi) W)
    have HSB := Lib.hid (fun i (hi : i < L.length) => (And.intro (sv_bd (hvs i hi)) (x_bd (hvs i hi))))
    have HSM := Lib.hid (fun k => smK_bd hvs h32 k)
    have HSQ := Lib.hid (fun k => sqK_bd hvs h32 k)
    have HNX := Lib.hid (fun k (hk : k < L.length) => And.intro (sm_next hk) (sq_next hk))
    have HZ0 := Lib.hid (wdC_zero (N : Int) L)
    have HN0 := Lib.hid hN
    rw [hN] at HC
    rw [show (Value.slice (some ⟨bb, off, none⟩) L.length c) = .slice (some ⟨bb, off, none⟩) N c by rw [hN]]
    rw [hN]
    have hN1 : 1 ≤ N := by omega
    have hN32 : N ≤ 32 := by omega
    have hcv : IntKind.u64.wrap (N : Int) = N := IntWalk.u64_in _ (by omega)
    have HC := Lib.hid HC
    clear hv hvs e1 e2 hE ha hN h32 h1
    unfold Calm aggSp at *
    go_enter Try.func15, Try.ntmps15
    go_wp2_with fail
    (with_reducible refine HC.out.mono ?_); rintro e w1 ⟨rfl, hb⟩
    obtain ⟨hw2, hw3, hbw⟩ := HZ.out w1 hb
    have HW2 := Lib.hid hw2
    have HW3 := Lib.hid hw3
    have HBW := Lib.hid hbw
    obtain ⟨g, hg⟩ : ∃ g, w1.heap.size = g := ⟨_, rfl⟩
    have hgt : w.heap.size + 1 < g := by rw [← hg]; exact hw3.size_lt
    have HGT := Lib.hid hgt
    have HGE := Lib.hid hg
    have HLP := Lib.hid (show Whole (w1.alloc (.cells #[.int .u64 0, .int .u64 0] 37)) g 37 (wdC ((N : Int) * sqK L 0)) ∧ Below g w1 (w1.alloc (.cells #[.int .u64 0, .int .u64 0] 37)) from
      ⟨by rw [HZ0.out, ← hg]; exact Whole.fresh _ _ _, (Below.refl _ _).alloc (by omega) _⟩)
    clear hb hw2 hw3 hbw HC HZ hgt
    go_wp2_with fail
    clear hg
    go_loopw [7, 24] (fun s7 s24 wr => ∃ k : Nat, k ≤ N ∧ s24 = .int .i64 k ∧ s7 = .int .u64 (smK L k) ∧ Hid (Whole wr g 37 (wdC ((N : Int) * sqK L k)) ∧ Below g w1 wr)) (fun _ s24 _ => N - (intOf s24).toNat)
    case atStart => exact ⟨0, by omega, rfl, rfl, HLP⟩
    case round =>
      obtain ⟨k, hk, rfl, rfl, HL⟩ := hrel
      clear HLP
      by_cases hlt : k < N
      · have hlt' : (k : Int) < N := by omega
        have hkL : k < L.length := by have := HN0.out; omega
        have hbwr : Below w.heap.size w wr := HBW.out.trans (HL.out.2.mono (by have := HGT.out; omega))
        obtain ⟨d0, d1, d2, -⟩ := HTA.out k hkL wr hbwr
        have hsv := HSV.out k hkL
        obtain ⟨⟨v0, v1⟩, x0, x1⟩ := HSB.out k hkL
        obtain ⟨hsm, hsq⟩ := HNX.out k hkL
        have hs1 := HSM.out k
        have hs2 := HSM.out (k + 1)
        have hq1 := mulN (B := 73104335549675162598835200) hN32 (HSQ.out k).1 (HSQ.out k).2
        have hq2 := mulN (B := 73104335549675162598835200) hN32 (HSQ.out (k + 1)).1 (HSQ.out (k + 1)).2
        obtain ⟨s, hs⟩ : ∃ s, L[k] = s := ⟨_, rfl⟩
        rw [hs] at d0 d1 d2 hsv v0 v1 x0 x1 hsm hsq
        obtain ⟨x, hxe⟩ : ∃ x, xI s = x := ⟨_, rfl⟩
        rw [hxe] at x0 x1 hsm hsq
        unfold xI at hxe
        obtain ⟨sv, hsve⟩ : ∃ v, svI s = v := ⟨_, rfl⟩
        rw [hsve] at hsv v0 v1 hxe
        obtain ⟨s0, s1, s2⟩ := s
        simp only at d0 d1 d2 hsv
        have hcv2 : IntKind.u64.wrap sv = sv := IntWalk.u64_in _ (by omega)
        have hsum : IntKind.u64.wrap (smK L k + x) = smK L (k + 1) := by rw [hsm]; exact IntWalk.u64_in _ (by omega)
        obtain ⟨hnx0, hnx1⟩ := mulN (B := 1511459389440) hN32 x0 x1
        have hmx : IntKind.u64.wrap ((N : Int) * x) = (N : Int) * x := IntWalk.u64_in _ (by omega)
        have hAB : (N : Int) * sqK L k + (N : Int) * x * x = (N : Int) * sqK L (k + 1) := by rw [hsq, ← n_step]
        have HMU := fun W => pmul_w ((N : Int) * x) x hnx0 (by omega) x0 (by omega) W
        have HPL := fun W => plus_any ((N : Int) * sqK L k) ((N : Int) * x * x) hq1.1 (Int.mul_nonneg hnx0 x0) (by rw [hAB]; omega) W
        rw [hAB] at HPL
        have hWr := HL.out.1
        have HST : Hid (wdC ((N : Int) * sqK L (k + 1)) = #[.int .u64 (wdH ((N : Int) * sqK L (k + 1))), .int .u64 (wdL ((N : Int) * sqK L (k + 1)))]) := Lib.hid rfl
        unfold aggW at HMU HPL
        unfold wdC at hWr
        generalize wdH ((N : Int) * sqK L (k + 1)) = c1 at *
        generalize wdL ((N : Int) * sqK L (k + 1)) = c0 at *
        generalize wdH ((N : Int) * sqK L k) = a1 at *
        generalize wdL ((N : Int) * sqK L k) = a0 at *
        generalize wdH ((N : Int) * x * x) = b1 at *
        generalize wdL ((N : Int) * x * x) = b0 at *
        generalize hnxe : (N : Int) * x = nx at *
        unfold Calm at HMU HPL
        have HMU := Lib.hid HMU
        have HPL := Lib.hid HPL
        have HSVk := Lib.hid hsv
        have HWR := Lib.hid (hWr.alloc (.cells #[.int .i64 s0, .int .i64 s1, .int .i64 s2] 24))
        have HBR := Lib.hid (HL.out.2.alloc (by have := hWr.size_lt; omega) (.cells #[.int .i64 s0, .int .i64 s1, .int .i64 s2] 24))
        clear hsv hWr hs hsve hsm hsq hAB hq1 hq2 hs1 hs2 HL hbwr HTA HSV HSB HNX HSM HSQ
        go_wp2_with fail
        (with_reducible refine (HSVk.out _).mono ?_); rintro e w2 ⟨rfl, hb⟩
        have HWD := Lib.hid (show Whole w2.drew g 37 #[.int .u64 a1, .int .u64 a0] from HWR.out.later hb.drew)
        have HBD := Lib.hid (show Below g w1 w2.drew from (HBR.out.trans (hb.mono (by have := HWR.out.size_lt; omega))).drew)
        clear hb HWR HBR HSVk
        go_wp2_with fail
        refine wp_region_looseS 47 (by kernel_rfl) (by kernel_rfl) (JnC w2.drew (fun vI => [.agg #[.int .u64 a1, .int .u64 a0], .int .u64 N, .int .u64 x, .int .u64 nx, .int .u64 x, .agg #[.int .u64 b1, .int .u64 b0], .agg #[.int .u64 c1, .int .u64 c0], undef].getD vI undef) g 7 37 #[.int .u64 a1, .int .u64 a0] #[.int .u64 c1, .int .u64 c0]) rfl (JnC.start HWD.out) ?_ ?_
        · simp only [OblAllS]
          refine ⟨?_, ?_, ?_, ?_, ?_, ?_, ?_, ?_, trivial⟩
          · intro U wx vals hi hu hcl hC
            have g7 : U 7 = false := by
              simp [ClosedL, UpL, predL, predE, Region.binds] at hcl
              cases h : U 7 with
              | false => rfl
              | true => exfalso; simp_all
            have d0 := (hC.o g7).read 0
            have d1 := (hC.o g7).read 1
            simp at d0 d1
            clear g7
            have HCx := Lib.hid hC
            clear hC hcl hu hi
            simp only [fillA, if_true, Act.put]
            simp
            go_wp2
            exact ⟨rfl, HCx.out.quiet 0 (by decide) rfl⟩
          · intro U wx vals hi hu hcl hC
            have HCx := Lib.hid hC
            clear hC hcl hu hi
            simp only [fillA, if_true, Act.put]
            simp
            go_wp2
            exact ⟨rfl, HCx.out.quiet 1 (by decide) rfl⟩
          · intro U wx vals hi hu hcl hC
            have HCx := Lib.hid hC
            clear hC hcl hu hi
            simp only [fillA, if_true, Act.put]
            simp
            go_wp2
            exact ⟨rfl, HCx.out.quiet 2 (by decide) rfl⟩
          · intro U wx vals hi hu hcl hC
            simp [predL, predE, Region.binds, UpL] at hu
            have e1 : vals 1 = .int .u64 N := hC.v 1 (by decide) (by simp [hu])
            have e2 : vals 2 = .int .u64 x := hC.v 2 (by decide) (by simp [hu])
            have HCx := Lib.hid hC
            clear hC hcl hu hi
            simp only [fillA, if_true, Act.put]
            simp
            simp only [e1, e2]
            clear e1 e2
            go_wp2
            exact ⟨rfl, HCx.out.quiet 3 (by decide) rfl⟩
          · intro U wx vals hi hu hcl hC
            have HCx := Lib.hid hC
            clear hC hcl hu hi
            simp only [fillA, if_true, Act.put]
            simp
            go_wp2
            exact ⟨rfl, HCx.out.quiet 4 (by decide) rfl⟩
          · intro U wx vals hi hu hcl hC
            simp [predL, predE, Region.binds, UpL] at hu
            have e3 : vals 3 = .int .u64 nx := hC.v 3 (by decide) (by simp [hu])
            have e4 : vals 4 = .int .u64 x := hC.v 4 (by decide) (by simp [hu])
            have HCx := Lib.hid hC
            clear hC hcl hu hi
            simp only [fillA, if_true, Act.put]
            simp
            simp only [e3, e4]
            clear e3 e4
            have HL := Lib.hid (HMU.out wx)
            go_wp2_with fail
            (with_reducible refine HL.out.mono ?_); rintro e w9 ⟨rfl, hb⟩
            have HX := Lib.hid (HCx.out.step 5 (by decide) (x := .agg #[.int .u64 b1, .int .u64 b0]) rfl hb)
            clear hb HL
            go_wp2
            exact ⟨rfl, HX.out⟩
          · intro U wx vals hi hu hcl hC
            simp [predL, predE, Region.binds, UpL] at hu
            have e0 : vals 0 = .agg #[.int .u64 a1, .int .u64 a0] := hC.v 0 (by decide) (by simp [hu])
            have e5 : vals 5 = .agg #[.int .u64 b1, .int .u64 b0] := hC.v 5 (by decide) (by simp [hu])
            have HCx := Lib.hid hC
            clear hC hcl hu hi
            simp only [fillA, if_true, Act.put]
            simp
            simp only [e0, e5]
            clear e0 e5
            have HL := Lib.hid (HPL.out wx)
            go_wp2_with fail
            (with_reducible refine HL.out.mono ?_); rintro e w9 ⟨rfl, hb⟩
            have HX := Lib.hid (HCx.out.step 6 (by decide) (x := .agg #[.int .u64 c1, .int .u64 c0]) rfl hb)
            clear hb HL
            go_wp2
            exact ⟨rfl, HX.out⟩
          · intro U wx vals hi hu hcl hC
            simp [predL, predE, Region.binds, UpL] at hu
            have e6 : vals 6 = .agg #[.int .u64 c1, .int .u64 c0] := hC.v 6 (by decide) (by simp [hu])
            have d0 := (hC.o hi).read 0
            have d1 := (hC.o hi).read 1
            have z0 := (hC.o hi).free 0
            have z1 := (hC.o hi).free 1
            simp at d0 d1
            have HX := Lib.hid (hC.write (x := undef) below2 (whole2 (h1 := .int .u64 c1) (l1 := .int .u64 c0) (hC.o hi)))
            have HCx := Lib.hid hC
            clear hC hcl hu hi
            simp only [fillA, if_true, Act.put]
            simp
            simp only [e6]
            clear e6
            clear HCx
            go_wp2
            exact ⟨rfl, HX.out⟩
        · intro wz vals U hC hall
          have hw9 := hC.n (hall 7 (by simp))
          have hb9 := hC.b
          simp only [fillA, if_true, Act.put]
          simp
          clear hC hall 
          generalize vals 0 = t0 at *
          generalize vals 1 = t1 at *
          generalize vals 2 = t2 at *
          generalize vals 3 = t3 at *
          generalize vals 4 = t4 at *
          generalize vals 5 = t5 at *
          generalize vals 6 = t6 at *
          have HL2 := Lib.hid (show Whole wz g 37 (wdC ((N : Int) * sqK L (k + 1))) ∧ Below g w1 wz from ⟨by rw [HST.out]; exact hw9, HBD.out.trans hb9⟩)
          clear hw9 hb9 HST HBD HWD HMU HPL
          go_wp2
          go_roundw
          case rel => exact ⟨k + 1, by omega, by go_num, rfl, HL2⟩
          case measure => simp [intOf]; omega
      · obtain rfl : k = N := by omega
        have hS := HSM.out k
        have HMS := fun W => pmul_w (smK L k) (smK L k) hS.1 (by omega) hS.1 (by omega) W
        have hWr := HL.out.1
        have hbr := HL.out.2
        have hw2r : Whole wr w.heap.size 37 #[.int .u64 0, .int .u64 0] := HW2.out.carry (hbr.block _ (by have := HGT.out; omega))
        have hw3r : Whole wr (w.heap.size + 1) 37 #[.int .u64 0, .int .u64 0] := HW3.out.carry (hbr.block _ (by have := HGT.out; omega))
        have hbwr : Below w.heap.size w wr := HBW.out.trans (hbr.mono (by have := HGT.out; omega))
        unfold aggW at HMS
        unfold wdC at hWr
        unfold Calm at HMS
        clear HW2 HW3 HBW hS
        have HW2 := Lib.hid (show Whole wr.drew w.heap.size 37 #[.int .u64 0, .int .u64 0] from hw2r)
        have HW3 := Lib.hid (show Whole wr.drew (w.heap.size + 1) 37 #[.int .u64 0, .int .u64 0] from hw3r)
        have HBW := Lib.hid hbwr.drew
        have HMS := Lib.hid HMS
        obtain ⟨p1, hp1⟩ : ∃ y, wdH (smK L k * smK L k) = y := ⟨_, rfl⟩
        obtain ⟨p0, hp0⟩ : ∃ y, wdL (smK L k * smK L k) = y := ⟨_, rfl⟩
        obtain ⟨q1, hq1⟩ : ∃ y, wdH ((k : Int) * sqK L k) = y := ⟨_, rfl⟩
        obtain ⟨q0, hq0⟩ : ∃ y, wdL ((k : Int) * sqK L k) = y := ⟨_, rfl⟩
        rw [hp1, hp0] at HMS
        rw [hq1, hq0] at hWr
        have HWD := Lib.hid (show Whole wr.drew g 37 #[.int .u64 q1, .int .u64 q0] from hWr)
        have HEQ := Lib.hid (And.intro (And.intro hp1 hp0) (And.intro hq1 hq0))
        clear HL hWr hbr hw2r hw3r hbwr hp1 hp0 hq1 hq0 HTA HSV HSB HNX HSM HSQ
        go_wp2_with fail
        refine wp_region_looseS 47 (by kernel_rfl) (by kernel_rfl) (JnF wr.drew (fun vI => [.int .u64 (smK L k), .int .u64 (smK L k), .agg #[.int .u64 p1, .int .u64 p0], .agg #[.int .u64 q1, .int .u64 q0], undef, undef, .int .i64 0].getD vI undef) w.heap.size (w.heap.size + 1) g 37 #[.int .u64 0, .int .u64 0] #[.int .u64 p1, .int .u64 p0] #[.int .u64 q1, .int .u64 q0]) rfl (JnF.start HW2.out HW3.out HWD.out) ?_ ?_
        · simp only [OblAllS]
          refine ⟨?_, ?_, ?_, ?_, ?_, ?_, ?_, trivial⟩
          · intro U wx vals hi hu hcl hC
            have HCx := Lib.hid hC
            clear hC hcl hu hi
            simp only [fillA, if_true, Act.put]
            simp
            go_wp2
            exact ⟨rfl, HCx.out.quiet 0 (by decide) rfl⟩
          · intro U wx vals hi hu hcl hC
            have HCx := Lib.hid hC
            clear hC hcl hu hi
            simp only [fillA, if_true, Act.put]
            simp
            go_wp2
            exact ⟨rfl, HCx.out.quiet 1 (by decide) rfl⟩
          · intro U wx vals hi hu hcl hC
            simp [predL, predE, Region.binds, UpL] at hu
            have e0 : vals 0 = .int .u64 (smK L k) := hC.v 0 (by decide) (by simp [hu])
            have e1 : vals 1 = .int .u64 (smK L k) := hC.v 1 (by decide) (by simp [hu])
            have HCx := Lib.hid hC
            clear hC hcl hu hi
            simp only [fillA, if_true, Act.put]
            simp
            simp only [e0, e1]
            clear e0 e1
            have HL := Lib.hid (HMS.out wx)
            go_wp2_with fail
            (with_reducible refine HL.out.mono ?_); rintro e w9 ⟨rfl, hb⟩
            have HX := Lib.hid (HCx.out.step 2 (by decide) (x := .agg #[.int .u64 p1, .int .u64 p0]) rfl hb)
            clear hb HL
            go_wp2
            exact ⟨rfl, HX.out⟩
          · intro U wx vals hi hu hcl hC
            have d0 := hC.k.read 0
            have d1 := hC.k.read 1
            simp at d0 d1
            have HCx := Lib.hid hC
            clear hC hcl hu hi
            simp only [fillA, if_true, Act.put]
            simp
            go_wp2
            exact ⟨rfl, HCx.out.quiet 3 (by decide) rfl⟩
          · intro U wx vals hi hu hcl hC
            simp [predL, predE, Region.binds, UpL] at hu
            have e2 : vals 2 = .agg #[.int .u64 p1, .int .u64 p0] := hC.v 2 (by decide) (by simp [hu])
            have d0 := (hC.o4 hi).read 0
            have d1 := (hC.o4 hi).read 1
            have z0 := (hC.o4 hi).free 0
            have z1 := (hC.o4 hi).free 1
            simp at d0 d1
            have HX := Lib.hid (hC.write4 (x := undef) hi rfl (by omega) (by have := HGT.out; omega))
            have HCx := Lib.hid hC
            clear hC hcl hu hi
            simp only [fillA, if_true, Act.put]
            simp
            simp only [e2]
            clear e2
            clear HCx
            go_wp2
            exact ⟨rfl, HX.out⟩
          · intro U wx vals hi hu hcl hC
            simp [predL, predE, Region.binds, UpL] at hu
            have e3 : vals 3 = .agg #[.int .u64 q1, .int .u64 q0] := hC.v 3 (by decide) (by simp [hu])
            have d0 := (hC.o5 hi).read 0
            have d1 := (hC.o5 hi).read 1
            have z0 := (hC.o5 hi).free 0
            have z1 := (hC.o5 hi).free 1
            simp at d0 d1
            have HX := Lib.hid (hC.write5 (x := undef) hi rfl (by omega) (by have := HGT.out; omega))
            have HCx := Lib.hid hC
            clear hC hcl hu hi
            simp only [fillA, if_true, Act.put]
            simp
            simp only [e3]
            clear e3
            clear HCx
            go_wp2
            exact ⟨rfl, HX.out⟩
          · intro U wx vals hi hu hcl hC
            have HCx := Lib.hid hC
            clear hC hcl hu hi
            simp only [fillA, if_true, Act.put]
            simp
            go_wp2
            exact ⟨rfl, HCx.out.quiet 6 (by decide) rfl⟩
        · intro wz vals U hC hall
          have e6 : vals 6 = .int .i64 0 := hC.v 6 (by decide) (hall 6 (by simp))
          have f4 := hall 4 (by simp)
          have f5 := hall 5 (by simp)
          have r2 := hC.n4 f4
          have r3 := hC.n5 f5
          have q0' := r2.read 0
          have q1' := r2.read 1
          have q2' := r3.read 0
          have q3' := r3.read 1
          simp at q0' q1' q2' q3'
          have HB9 := Lib.hid (HBW.out.trans hC.b)
          clear r2 r3 f4 f5
          simp only [fillA, if_true, Act.put]
          simp
          simp only [e6]
          clear hC hall e6
          generalize vals 0 = t0 at *
          generalize vals 1 = t1 at *
          generalize vals 2 = t2 at *
          generalize vals 3 = t3 at *
          generalize vals 4 = t4 at *
          generalize vals 5 = t5 at *
          clear HW2 HW3 HBW HMS HWD
          go_wp2
          obtain ⟨⟨hp1, hp0⟩, hq1, hq0⟩ := HEQ.out
          refine bodyPost_ret (v := .tuple #[.agg #[.int .u64 p1, .int .u64 p0], .agg #[.int .u64 q1, .int .u64 q0], .int .i64 0]) (by simp [results, Try.results15, go_sem, q0', q1', q2', q3']) rfl ⟨?_, HB9.out⟩
          unfold aggW
          rw [hp1, hp0, hq1, hq0]
  · obtain ⟨e1, e2⟩ := ja_no hE
    rw [e1, e2]
    generalize ckE L 1 = E at *
    have HC := Lib.hid HC
    have hE1 : (E != 0) = true := by simpa using hE
    clear e1 e2 ha
    unfold Calm at *
    go_enter Try.func15, Try.ntmps15
    go_wp2_with fail
    (with_reducible refine HC.out.mono ?_); rintro e w1 ⟨rfl, hb⟩
    obtain ⟨hw2, hw3, hbw⟩ := HZ.out w1 hb
    have d0 := hw2.read 0
    have d1 := hw2.read 1
    have d2 := hw3.read 0
    have d3 := hw3.read 1
    have z0 := hw2.free 0
    have z1 := hw2.free 1
    have z2 := hw3.free 0
    have z3 := hw3.free 1
    simp at d0 d1 d2 d3
    have HEND := Lib.hid (jerr_end (p1 := .int .u64 0) (p0 := .int .u64 0) (q1 := .int .u64 0) (q0 := .int .u64 0) hbw hw2 hw3)
    clear hb hw2 hw3 hbw HC HZ
    go_wp2
    obtain ⟨hW2, hW3, hB⟩ := HEND.out
    clear HEND
    generalize (((w1.setCell ⟨w.heap.size, 0, none⟩ (.int .u64 0)).setCell ⟨w.heap.size, 1, none⟩ (.int .u64 0)).setCell ⟨w.heap.size + 1, 0, none⟩ (.int .u64 0)).setCell ⟨w.heap.size + 1, 1, none⟩ (.int .u64 0) = wE at *
    have r0 := hW2.read 0
    have r1 := hW2.read 1
    have r2 := hW3.read 0
    have r3 := hW3.read 1
    simp at r0 r1 r2 r3
    exact bodyPost_ret (v := .tuple #[.agg #[.int .u64 0, .int .u64 0], .agg #[.int .u64 0, .int .u64 0], .int .i64 E]) (by simp [results, Try.results15, go_sem, r0, r1, r2, r3]) rfl ⟨rfl, hB⟩
end Go.Proofs.Ytcdeecigiijabaa

