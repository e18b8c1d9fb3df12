/-
  Layer 15: the program's channel: its block, what a place in the ring holds, state, Predict, Score. Written by gen_chp1.py.
-/
import Derived.Test.YtaohfcchejedkaaChHelp
import Derived.Test.YtaohfcchejedkaaChObs
import Derived.Test.YtaohfcchejedkaaBlk
namespace Go.Proofs.Ytaohfcchejedkaa
open Go.ChangeShapes Go.WideShapes Go.ChangeAt Go.RowKit
set_option linter.unusedVariables false

/-- The state that was observed m slots ago, and good if there was none. -/
def agB (l : List Bool) (m : Nat) : Bool := if h : 1 ≤ m ∧ m ≤ l.length then l[l.length - m]'(by omega) else true
/-- The good ones among the last m. -/
def agC (l : List Bool) : Nat → Int
  | 0 => 0
  | m + 1 => agC l m + if agB l (m + 1) = true then 1 else 0
theorem agB_in {l : List Bool} {m : Nat} (h1 : 1 ≤ m) (h2 : m ≤ l.length) : agB l m = l[l.length - m]'(by omega) := by unfold agB; rw [dif_pos ⟨h1, h2⟩]
theorem agB_out {l : List Bool} {m : Nat} (h : l.length < m) : agB l m = true := by unfold agB; rw [dif_neg (by omega)]
theorem agC_eq (l : List Bool) (m : Nat) : agC l m = max ((m : Int) - l.length) 0 + cnt (lastN l m) := by
  induction m with
  | zero =>
    have : lastN l 0 = [] := by unfold lastN; exact List.drop_of_length_le (by omega)
    rw [this]; simp [agC, cnt]; omega
  | succ m ih =>
    unfold agC
    rw [ih]
    by_cases h : m + 1 ≤ l.length
    · have e : lastN l (m + 1) = l[l.length - (m + 1)]'(by omega) :: lastN l m := by
        unfold lastN
        rw [List.drop_eq_getElem_cons (by omega), show l.length - (m + 1) + 1 = l.length - m by omega]
      rw [e, agB_in (by omega) h]
      simp only [cnt]
      omega
    · have e : lastN l (m + 1) = lastN l m := by
        unfold lastN
        rw [show l.length - (m + 1) = 0 by omega, show l.length - m = 0 by omega]
      rw [e, agB_out (by omega), if_pos rfl]
      omega
theorem agC_bd (l : List Bool) (m : Nat) : 0 ≤ agC l m ∧ agC l m ≤ m := by
  induction m with
  | zero => simp [agC]
  | succ m ih => unfold agC; split <;> omega
theorem agC_step (l : List Bool) {i : Nat} (hi : 1 ≤ i) : agC l i = agC l (i - 1) + if agB l i = true then 1 else 0 := by
  obtain ⟨m, rfl⟩ : ∃ m, i = m + 1 := ⟨i - 1, by omega⟩
  rfl
def wnI (p : Pd) : Int := if p.k = 1 then p.N else 1
def ndI (p : Pd) : Int := if p.k = 1 then p.K else 1
theorem wn_bd {p : Pd} (h : pdB p = true) : 1 ≤ wnI p ∧ wnI p ≤ 32 ∧ 1 ≤ ndI p ∧ ndI p ≤ 32 := by
  have := pd_cases h
  unfold wnI ndI
  split <;> omega
theorem pr_said2 {s : Ch} (h : (decide (s.p.k = 2) && s.an) = true) : prB s = s.sa := by
  simp only [Bool.and_eq_true, decide_eq_true_eq] at h
  exact pr_said h.1 h.2
theorem pr_count {s : Ch} (hp : pdB s.p = true) (h : (decide (s.p.k = 2) && s.an) = false) : prB s = decide (ndI s.p ≤ agC s.l (wnI s.p).toNat) := by
  have hw := wn_bd hp
  by_cases hk : s.p.k = 1
  · rw [pr_window hk]
    have e1 : ndI s.p = s.p.K := by unfold ndI; rw [if_pos hk]
    have e2 : wnI s.p = s.p.N := by unfold wnI; rw [if_pos hk]
    rw [e1, e2, agC_eq]
    have h3 : ((s.p.N.toNat : Nat) : Int) = s.p.N := by omega
    unfold winC
    rw [h3]
  · have h2 : ¬ (s.p.k = 2 ∧ s.an = true) := by
      intro ⟨h3, h4⟩
      simp [h3, h4] at h
    rw [pr_last hk h2]
    have e1 : ndI s.p = 1 := by unfold ndI; rw [if_neg hk]
    have e2 : wnI s.p = 1 := by unfold wnI; rw [if_neg hk]
    rw [e1, e2, agC_eq, ← win_one]
    rfl
/-! ### the program's block -/
def chF (s : Ch) (X : Nat → Bool) (i : Nat) : Value :=
  if i = 0 then .int .i64 (wnI s.p) else if i = 1 then .int .i64 (ndI s.p) else if i = 34 then .int .i64 (s.l.length : Nat) else if i = 35 then .int .i64 s.ri
  else if i = 36 then .bool (decide (s.p.k = 2)) else if i = 37 then .bool (decide (s.p.k = 2) && s.an) else if i = 38 then .bool (decide (s.p.k = 2) && s.sa) else .bool (X (i - 2))
theorem chF_st (s : Ch) (X : Nat → Bool) {q : Nat} (h : q < 32) : chF s X (2 + q) = .bool (X q) := by
  unfold chF
  rw [if_neg (by omega), if_neg (by omega), if_neg (by omega), if_neg (by omega), if_neg (by omega), if_neg (by omega), if_neg (by omega), show 2 + q - 2 = q by omega]
/-- The ring holds the last 32 states; what has not been written is good. -/
def RingB (X : Nat → Bool) (l : List Bool) : Prop := RgB 32 X l ∧ ∀ i, l.length ≤ i → i < 32 → X i = true
theorem RingB.new : RingB (fun _ => true) [] := ⟨RgB.nil _ _, fun _ _ _ => rfl⟩
theorem RingB.push {X : Nat → Bool} {l : List Bool} (h : RingB X l) (g : Bool) : RingB (fun i => if i = l.length % 32 then g else X i) (l ++ [g]) := by
  refine ⟨h.1.push (by omega) g, fun i hi h2 => ?_⟩
  rw [List.length_append, List.length_singleton] at hi
  show (if i = l.length % 32 then g else X i) = true
  rw [if_neg (by omega)]
  exact h.2 i (by omega) h2
theorem RingB.at_ {X : Nat → Bool} {l : List Bool} (h : RingB X l) {m : Nat} (h1 : 1 ≤ m) (h2 : m ≤ 32) : X ((l.length + 32 - m) % 32) = agB l m := by
  by_cases hl : m ≤ l.length
  · rw [agB_in h1 hl, show l.length + 32 - m = l.length - m + 32 by omega, Nat.add_mod_right]
    exact h.1.at_ h1 hl h2
  · rw [agB_out (by omega)]
    exact h.2 _ (by rw [Nat.mod_eq_of_lt (by omega)]; omega) (Nat.mod_lt _ (by omega))
/-- The program's channel in block R. -/
def ChB (R : Nat) (s : Ch) (w : World) : Prop := ChOk s ∧ ∃ X, Blk w R 54 39 (chF s X) ∧ RingB X s.l
def ChP (R : Nat) (s : Ch) : RP := fun T w => (∀ k, T k ↔ k = R) ∧ ChB R s w
theorem ChB.carry {R : Nat} {s : Ch} {w w' : World} (h : ChB R s w) (e : w'.heap[R]? = w.heap[R]?) : ChB R s w' := by
  obtain ⟨h0, X, h1, h2⟩ := h
  exact ⟨h0, X, h1.carry e, h2⟩
theorem ChB.lt {R : Nat} {s : Ch} {w : World} (h : ChB R s w) : R < w.heap.size := by
  obtain ⟨h0, X, h1, h2⟩ := h
  exact h1.lt
theorem ChB.later {R : Nat} {s : Ch} {w w' : World} (h : ChB R s w) (hb : Below w.heap.size w w') : ChB R s w' := h.carry (hb.block _ h.lt)
theorem ChP.frm {base R : Nat} {s : Ch} : Frm base (ChP R s) := by
  refine ⟨fun ⟨h1, h2⟩ k hk => by rw [(h1 k).1 hk]; exact h2.lt, fun {T U w w'} ⟨h1, h2⟩ hc hb hs => ⟨h1, h2.carry (hc.block R h2.lt (hs R ((h1 R).2 rfl)))⟩⟩
set_option maxRecDepth 100000 in
set_option maxHeartbeats 4000000 in
theorem pstate_any {R : Nat} {s : Ch} {w : World} (h : ChB R s w) (hn : s.l.length ≤ 100000) {i : Nat} (hi1 : 1 ≤ i) (hi2 : i ≤ 32) :
    Calls Try.prog 25 #[.pointer (some ⟨R, 0, none⟩), .int .i64 i] w (Calm (.bool (agB s.l i)) w) := by
  obtain ⟨h0, X, hB, hR⟩ := h
  obtain ⟨q, hq⟩ : ∃ q, (s.l.length + 32 - i) % 32 = q := ⟨_, rfl⟩
  have hg := hR.at_ hi1 hi2
  rw [hq] at hg
  have hq32 : q < 32 := by omega
  have c1 : w.cell? ⟨R, 34, none⟩ = some (.int .i64 (s.l.length : Nat)) := hB.cell (i := 34) (by omega)
  have c2 := hB.cell (i := 2 + q) (by omega)
  rw [chF_st s X hq32, hg] at c2
  obtain ⟨n, hN⟩ : ∃ n, s.l.length = n := ⟨_, rfl⟩
  rw [hN] at c1 hq hn
  generalize agB s.l i = g at *
  have HC4 := Lib.hid (fun (W : World) (hw : Below w.drew.heap.size w.drew W) => And.intro ((((Below.refl _ w).drew.trans hw).cell (p := ⟨R, 34, none⟩) hB.lt).trans c1) ((((Below.refl _ w).drew.trans hw).cell (p := ⟨R, 2 + q, none⟩) hB.lt).trans c2))
  have w1 : IntKind.i64.wrap ((n : Int) + 32) = (n : Int) + 32 := IntWalk.i64_in _ (by omega)
  have w2 : IntKind.i64.wrap ((n : Int) + 32 - i) = (n : Int) + 32 - i := IntWalk.i64_in _ (by omega)
  have w3 : Int.tmod ((n : Int) + 32 - i) 32 = (q : Int) := by rw [Int.tmod_eq_emod_of_nonneg (by omega)]; omega
  have w4 : ((n : Int) + 32 - i) % 32 = (q : Int) := by omega
  have w5 : IntKind.i64.wrap (q : Int) = (q : Int) := IntWalk.i64_in _ (by omega)
  have hqi : (q : Int) < 32 := by omega
  clear hB c1 c2 hg hq h0 hR hN
  unfold Calm
  go_enter Try.func25, Try.ntmps25
  go_wp2_with fail
  refine wp_region_looseS 18 (by kernel_rfl) (by kernel_rfl) (StB w.drew (fun vI => [.pointer (some ⟨R, 0, none⟩), .pointer (some ⟨R, 0, none⟩), .pointer (some ⟨R, 0, none⟩), .pointer (some ⟨R, 34, none⟩), .int .i64 (n : Nat), .int .i64 (n + 32), .int .i64 (i : Nat), .int .i64 (n + 32 - i), .int .i64 (q : Nat), .pointer (some ⟨R, 0, none⟩), .pointer (some ⟨R, 2, none⟩), .pointer (some ⟨R, 2 + q, none⟩), .bool g, .bool g].getD vI undef)) rfl StB.start ?_ ?_
  · simp only [OblAllS]
    refine ⟨?_, ?_, ?_, ?_, ?_, ?_, ?_, ?_, ?_, ?_, ?_, ?_, ?_, ?_, trivial⟩
    · intro L wx vals hi hu hcl hC
      have HCx := Lib.hid hC
      clear hC hcl hu hi
      simp only [fillA, if_true, Act.put]
      simp
      go_wp2
      exact ⟨rfl, HCx.out.quiet 0 rfl⟩
    · intro L wx vals hi hu hcl hC
      have HCx := Lib.hid hC
      clear hC hcl hu hi
      simp only [fillA, if_true, Act.put]
      simp
      go_wp2
      exact ⟨rfl, HCx.out.quiet 1 rfl⟩
    · intro L wx vals hi hu hcl hC
      simp [predL, predE, Region.binds, UpL] at hu
      have e1 : vals 1 = .pointer (some ⟨R, 0, none⟩) := hC.v 1 (by simp [hu])
      have HCx := Lib.hid hC
      clear hC hcl hu hi
      simp only [fillA, if_true, Act.put]
      simp
      simp only [e1]
      clear e1
      go_wp2
      exact ⟨rfl, HCx.out.quiet 2 rfl⟩
    · intro L wx vals hi hu hcl hC
      simp [predL, predE, Region.binds, UpL] at hu
      have e2 : vals 2 = .pointer (some ⟨R, 0, none⟩) := hC.v 2 (by simp [hu])
      have HCx := Lib.hid hC
      clear hC hcl hu hi
      simp only [fillA, if_true, Act.put]
      simp
      simp only [e2]
      clear e2
      go_wp2
      exact ⟨rfl, HCx.out.quiet 3 rfl⟩
    · intro L wx vals hi hu hcl hC
      simp [predL, predE, Region.binds, UpL] at hu
      have e3 : vals 3 = .pointer (some ⟨R, 34, none⟩) := hC.v 3 (by simp [hu])
      have h0 := (HC4.out wx hC.b).1
      have HCx := Lib.hid hC
      clear hC hcl hu hi
      simp only [fillA, if_true, Act.put]
      simp
      simp only [e3]
      clear e3
      go_wp2
      exact ⟨rfl, HCx.out.quiet 4 rfl⟩
    · intro L wx vals hi hu hcl hC
      simp [predL, predE, Region.binds, UpL] at hu
      have e4 : vals 4 = .int .i64 (n : Nat) := hC.v 4 (by simp [hu])
      have HCx := Lib.hid hC
      clear hC hcl hu hi
      simp only [fillA, if_true, Act.put]
      simp
      simp only [e4]
      clear e4
      go_wp2
      exact ⟨rfl, HCx.out.quiet 5 rfl⟩
    · intro L wx vals hi hu hcl hC
      have HCx := Lib.hid hC
      clear hC hcl hu hi
      simp only [fillA, if_true, Act.put]
      simp
      go_wp2
      exact ⟨rfl, HCx.out.quiet 6 rfl⟩
    · intro L wx vals hi hu hcl hC
      simp [predL, predE, Region.binds, UpL] at hu
      have e5 : vals 5 = .int .i64 (n + 32) := hC.v 5 (by simp [hu])
      have e6 : vals 6 = .int .i64 (i : Nat) := hC.v 6 (by simp [hu])
      have HCx := Lib.hid hC
      clear hC hcl hu hi
      simp only [fillA, if_true, Act.put]
      simp
      simp only [e5, e6]
      clear e5 e6
      go_wp2
      exact ⟨rfl, HCx.out.quiet 7 rfl⟩
    · intro L wx vals hi hu hcl hC
      simp [predL, predE, Region.binds, UpL] at hu
      have e7 : vals 7 = .int .i64 (n + 32 - i) := hC.v 7 (by simp [hu])
      have HCx := Lib.hid hC
      clear hC hcl hu hi
      simp only [fillA, if_true, Act.put]
      simp
      simp only [e7]
      clear e7
      go_wp2
      exact ⟨rfl, HCx.out.quiet 8 rfl⟩
    · intro L wx vals hi hu hcl hC
      simp [predL, predE, Region.binds, UpL] at hu
      have e0 : vals 0 = .pointer (some ⟨R, 0, none⟩) := hC.v 0 (by simp [hu])
      have HCx := Lib.hid hC
      clear hC hcl hu hi
      simp only [fillA, if_true, Act.put]
      simp
      simp only [e0]
      clear e0
      go_wp2
      exact ⟨rfl, HCx.out.quiet 9 rfl⟩
    · intro L wx vals hi hu hcl hC
      simp [predL, predE, Region.binds, UpL] at hu
      have e9 : vals 9 = .pointer (some ⟨R, 0, none⟩) := hC.v 9 (by simp [hu])
      have HCx := Lib.hid hC
      clear hC hcl hu hi
      simp only [fillA, if_true, Act.put]
      simp
      simp only [e9]
      clear e9
      go_wp2
      exact ⟨rfl, HCx.out.quiet 10 rfl⟩
    · intro L wx vals hi hu hcl hC
      simp [predL, predE, Region.binds, UpL] at hu
      have e8 : vals 8 = .int .i64 (q : Nat) := hC.v 8 (by simp [hu])
      have e10 : vals 10 = .pointer (some ⟨R, 2, none⟩) := hC.v 10 (by simp [hu])
      have HCx := Lib.hid hC
      clear hC hcl hu hi
      simp only [fillA, if_true, Act.put]
      simp
      simp only [e8, e10]
      clear e8 e10
      go_wp2
      exact ⟨rfl, HCx.out.quiet 11 rfl⟩
    · intro L wx vals hi hu hcl hC
      simp [predL, predE, Region.binds, UpL] at hu
      have e11 : vals 11 = .pointer (some ⟨R, 2 + q, none⟩) := hC.v 11 (by simp [hu])
      have h0 := (HC4.out wx hC.b).2
      have HCx := Lib.hid hC
      clear hC hcl hu hi
      simp only [fillA, if_true, Act.put]
      simp
      simp only [e11]
      clear e11
      go_wp2
      exact ⟨rfl, HCx.out.quiet 12 rfl⟩
    · intro L wx vals hi hu hcl hC
      simp [predL, predE, Region.binds, UpL] at hu
      have e12 : vals 12 = .bool g := hC.v 12 (by simp [hu])
      have HCx := Lib.hid hC
      clear hC hcl hu hi
      simp only [fillA, if_true, Act.put]
      simp
      simp only [e12]
      clear e12
      go_wp2
      exact ⟨rfl, HCx.out.quiet 13 rfl⟩
  · intro wz vals U hC hall
    have e13 : vals 13 = .bool g := hC.v 13 (hall 13 (by simp))
    have HF := Lib.hid ((Below.refl _ w).drew.trans hC.b)
    simp only [fillA, if_true, Act.put]
    simp
    simp only [e13]
    clear hC hall e13 HC4
    go_wp2
    go_ret
    exact ⟨rfl, HF.out⟩
set_option maxRecDepth 100000 in
set_option maxHeartbeats 4000000 in
theorem pscoreB_any {R : Nat} {s : Ch} {w : World} (h : ChB R s w) : Calls Try.prog 19 #[.pointer (some ⟨R, 0, none⟩)] w (Calm (.tuple #[.int .i64 s.l.length, .int .i64 s.ri]) w) := by
  obtain ⟨h0, X, hB, hR⟩ := h
  have c1 : w.cell? ⟨R, 34, none⟩ = some (.int .i64 (s.l.length : Nat)) := hB.cell (i := 34) (by omega)
  have c2 : w.cell? ⟨R, 35, none⟩ = some (.int .i64 s.ri) := hB.cell (i := 35) (by omega)
  have HC4 := Lib.hid (fun (W : World) (hw : Below w.drew.heap.size w.drew W) => And.intro ((((Below.refl _ w).drew.trans hw).cell (p := ⟨R, 34, none⟩) hB.lt).trans c1) ((((Below.refl _ w).drew.trans hw).cell (p := ⟨R, 35, none⟩) hB.lt).trans c2))
  clear hB c1 c2 h0 hR
  unfold Calm
  go_enter Try.func19, Try.ntmps19
  go_wp2_with fail
  refine wp_region_looseS 12 (by kernel_rfl) (by kernel_rfl) (StB w.drew (fun vI => [.pointer (some ⟨R, 0, none⟩), .pointer (some ⟨R, 0, none⟩), .pointer (some ⟨R, 34, none⟩), .int .i64 (s.l.length : Nat), .pointer (some ⟨R, 0, none⟩), .pointer (some ⟨R, 0, none⟩), .pointer (some ⟨R, 35, none⟩), .int .i64 s.ri, .int .i64 (s.l.length : Nat), .int .i64 s.ri].getD vI undef)) rfl StB.start ?_ ?_
  · simp only [OblAllS]
    refine ⟨?_, ?_, ?_, ?_, ?_, ?_, ?_, ?_, ?_, ?_, trivial⟩
    · intro L wx vals hi hu hcl hC
      have HCx := Lib.hid hC
      clear hC hcl hu hi
      simp only [fillA, if_true, Act.put]
      simp
      go_wp2
      exact ⟨rfl, HCx.out.quiet 0 rfl⟩
    · intro L wx vals hi hu hcl hC
      simp [predL, predE, Region.binds, UpL] at hu
      have e0 : vals 0 = .pointer (some ⟨R, 0, none⟩) := hC.v 0 (by simp [hu])
      have HCx := Lib.hid hC
      clear hC hcl hu hi
      simp only [fillA, if_true, Act.put]
      simp
      simp only [e0]
      clear e0
      go_wp2
      exact ⟨rfl, HCx.out.quiet 1 rfl⟩
    · intro L wx vals hi hu hcl hC
      simp [predL, predE, Region.binds, UpL] at hu
      have e1 : vals 1 = .pointer (some ⟨R, 0, none⟩) := hC.v 1 (by simp [hu])
      have HCx := Lib.hid hC
      clear hC hcl hu hi
      simp only [fillA, if_true, Act.put]
      simp
      simp only [e1]
      clear e1
      go_wp2
      exact ⟨rfl, HCx.out.quiet 2 rfl⟩
    · intro L wx vals hi hu hcl hC
      simp [predL, predE, Region.binds, UpL] at hu
      have e2 : vals 2 = .pointer (some ⟨R, 34, none⟩) := hC.v 2 (by simp [hu])
      have h0 := (HC4.out wx hC.b).1
      have HCx := Lib.hid hC
      clear hC hcl hu hi
      simp only [fillA, if_true, Act.put]
      simp
      simp only [e2]
      clear e2
      go_wp2
      exact ⟨rfl, HCx.out.quiet 3 rfl⟩
    · intro L wx vals hi hu hcl hC
      have HCx := Lib.hid hC
      clear hC hcl hu hi
      simp only [fillA, if_true, Act.put]
      simp
      go_wp2
      exact ⟨rfl, HCx.out.quiet 4 rfl⟩
    · intro L wx vals hi hu hcl hC
      simp [predL, predE, Region.binds, UpL] at hu
      have e4 : vals 4 = .pointer (some ⟨R, 0, none⟩) := hC.v 4 (by simp [hu])
      have HCx := Lib.hid hC
      clear hC hcl hu hi
      simp only [fillA, if_true, Act.put]
      simp
      simp only [e4]
      clear e4
      go_wp2
      exact ⟨rfl, HCx.out.quiet 5 rfl⟩
    · intro L wx vals hi hu hcl hC
      simp [predL, predE, Region.binds, UpL] at hu
      have e5 : vals 5 = .pointer (some ⟨R, 0, none⟩) := hC.v 5 (by simp [hu])
      have HCx := Lib.hid hC
      clear hC hcl hu hi
      simp only [fillA, if_true, Act.put]
      simp
      simp only [e5]
      clear e5
      go_wp2
      exact ⟨rfl, HCx.out.quiet 6 rfl⟩
    · intro L wx vals hi hu hcl hC
      simp [predL, predE, Region.binds, UpL] at hu
      have e6 : vals 6 = .pointer (some ⟨R, 35, none⟩) := hC.v 6 (by simp [hu])
      have h0 := (HC4.out wx hC.b).2
      have HCx := Lib.hid hC
      clear hC hcl hu hi
      simp only [fillA, if_true, Act.put]
      simp
      simp only [e6]
      clear e6
      go_wp2
      exact ⟨rfl, HCx.out.quiet 7 rfl⟩
    · intro L wx vals hi hu hcl hC
      simp [predL, predE, Region.binds, UpL] at hu
      have e3 : vals 3 = .int .i64 (s.l.length : Nat) := hC.v 3 (by simp [hu])
      have HCx := Lib.hid hC
      clear hC hcl hu hi
      simp only [fillA, if_true, Act.put]
      simp
      simp only [e3]
      clear e3
      go_wp2
      exact ⟨rfl, HCx.out.quiet 8 rfl⟩
    · intro L wx vals hi hu hcl hC
      simp [predL, predE, Region.binds, UpL] at hu
      have e7 : vals 7 = .int .i64 s.ri := hC.v 7 (by simp [hu])
      have HCx := Lib.hid hC
      clear hC hcl hu hi
      simp only [fillA, if_true, Act.put]
      simp
      simp only [e7]
      clear e7
      go_wp2
      exact ⟨rfl, HCx.out.quiet 9 rfl⟩
  · intro wz vals U hC hall
    have e8 : vals 8 = .int .i64 (s.l.length : Nat) := hC.v 8 (hall 8 (by simp))
    have e9 : vals 9 = .int .i64 s.ri := hC.v 9 (hall 9 (by simp))
    have HF := Lib.hid ((Below.refl _ w).drew.trans hC.b)
    simp only [fillA, if_true, Act.put]
    simp
    simp only [e8, e9]
    clear hC hall e8 e9 HC4
    go_wp2
    go_ret2
    exact ⟨rfl, HF.out⟩
set_option maxRecDepth 100000 in
set_option maxHeartbeats 4000000 in
theorem ppredB_any {R : Nat} {s : Ch} {w : World} (h : ChB R s w) (hn : s.l.length ≤ 100000) : Calls Try.prog 20 #[.pointer (some ⟨R, 0, none⟩)] w (Calm (.bool (prB s)) w) := by
  have HH := Lib.hid h
  obtain ⟨h0, X, hB, hR⟩ := h
  have c37 : w.cell? ⟨R, 37, none⟩ = some (.bool (decide (s.p.k = 2) && s.an)) := hB.cell (i := 37) (by omega)
  have c38 : w.cell? ⟨R, 38, none⟩ = some (.bool (decide (s.p.k = 2) && s.sa)) := hB.cell (i := 38) (by omega)
  have c0 : w.cell? ⟨R, 0, none⟩ = some (.int .i64 (wnI s.p)) := hB.cell (i := 0) (by omega)
  have c1 : w.cell? ⟨R, 1, none⟩ = some (.int .i64 (ndI s.p)) := hB.cell (i := 1) (by omega)
  have hlt := hB.lt
  unfold Calm
  cases hb : decide (s.p.k = 2) && s.an
  · rw [pr_count h0.p hb]
    rw [hb] at c37
    have hwn := wn_bd h0.p
    obtain ⟨n, hN⟩ : ∃ n : Nat, wnI s.p = n := ⟨(wnI s.p).toNat, by omega⟩
    rw [hN] at c0 hwn ⊢
    rw [Int.toNat_natCast]
    generalize ndI s.p = d at *
    have HC := Lib.hid (fun (W : World) (hw : Below w.heap.size w W) => And.intro ((hw.cell (p := ⟨R, 0, none⟩) hlt).trans c0) ((hw.cell (p := ⟨R, 1, none⟩) hlt).trans c1))
    have HST := Lib.hid (fun (W : World) (hw : Below w.heap.size w W) (i : Nat) (h1 : 1 ≤ i) (h2 : i ≤ 32) => pstate_any (HH.out.later hw) hn h1 h2)
    have HCN := Lib.hid (fun i (hi : 1 ≤ i) => agC_step s.l hi)
    have HBD := Lib.hid (fun m => agC_bd s.l m)
    clear hB hR c38 hN h0 HH hb c0 c1 hn
    go_enter Try.func20, Try.ntmps20
    go_wp2_with fail
    go_loopw [3, 4] (fun s3 s4 wr => ∃ i : Nat, 1 ≤ i ∧ i ≤ n + 1 ∧ s4 = .int .i64 i ∧ s3 = .int .i64 (agC s.l (i - 1)) ∧ Hid (Below w.heap.size w wr)) (fun _ s4 _ => n + 1 - (intOf s4).toNat)
    case atStart => exact ⟨1, Nat.le_refl _, by omega, rfl, rfl, Lib.hid (Below.refl _ _)⟩
    case round =>
      obtain ⟨i, hi1, hi, rfl, rfl, HW⟩ := hrel
      obtain ⟨hc0, hc1⟩ := HC.out wr HW.out
      have hbd := HBD.out (i - 1)
      by_cases hlt2 : i ≤ n
      · have hlt' : (i : Int) ≤ n := by omega
        have HS := Lib.hid (HST.out wr HW.out i (by omega) (by omega))
        have hcn := HCN.out i hi1
        have hwr : IntKind.i64.wrap (agC s.l (i - 1) + 1) = agC s.l (i - 1) + 1 := IntWalk.i64_in _ (by omega)
        generalize agB s.l i = b at *
        clear HST HCN HBD HC
        cases b
        · have HNX := Lib.hid (show agC s.l i = agC s.l (i - 1) by rw [hcn]; simp)
          clear hcn hwr
          go_wp2_with fail
          (with_reducible refine HS.out.mono ?_); rintro e w1 ⟨rfl, hb1⟩
          have HW2 := Lib.hid (HW.out.trans (hb1.mono HW.out.size))
          clear hb1 HS HW
          go_wp2
          go_roundw
          case rel => exact ⟨i + 1, by omega, by omega, by go_num, by rw [Nat.add_sub_cancel, HNX.out], HW2⟩
          case measure => simp [intOf]; omega
        · have HNX := Lib.hid (show agC s.l i = agC s.l (i - 1) + 1 by rw [hcn]; simp)
          clear hcn
          go_wp2_with fail
          (with_reducible refine HS.out.mono ?_); rintro e w1 ⟨rfl, hb1⟩
          have HW2 := Lib.hid (HW.out.trans (hb1.mono HW.out.size))
          clear hb1 HS HW
          go_wp2
          go_roundw
          case rel => exact ⟨i + 1, by omega, by omega, by go_num, by rw [Nat.add_sub_cancel, HNX.out], HW2⟩
          case measure => simp [intOf]; omega
      · have hi2 : i - 1 = n := by omega
        rw [hi2] at *
        have hgt : (n : Int) < (i : Int) := by omega
        clear hi2
        clear HST HCN HBD HC
        go_wp2
        go_ret
        exact ⟨rfl, HW.out⟩
  · rw [pr_said2 hb]
    rw [hb] at c37
    have e2 : (decide (s.p.k = 2) && s.sa) = s.sa := by
      simp only [Bool.and_eq_true] at hb
      rw [hb.1]; rfl
    rw [e2] at c38
    generalize s.sa = g at *
    clear hB hR h0 HH hb e2 c0 c1 hn
    go_enter Try.func20, Try.ntmps20
    go_wp2
    go_ret
    exact ⟨rfl, Below.refl _ _⟩
end Go.Proofs.Ytaohfcchejedkaa

