/-
  Layer 12: contracts of the program's validWeight, validStart, Normalized, Cost, Finish.
-/
import Derived.Test.YtcdeecigiijabaaFixC
import Derived.Test.YtcdeecigiijabaaTgMem
namespace Go.Proofs.Ytcdeecigiijabaa
open Go.ChangeShapes Go.WideShapes Go.ChangeAt Go.RowKit
set_option linter.unusedVariables false

theorem absZ_bd2 {b : Int} (h : -1099511627776 ≤ b ∧ b ≤ 1099511627776) : 0 ≤ absZ b ∧ absZ b ≤ 1099511627776 := by
  unfold absZ; split <;> omega
/-- Scale times a number divided by a weight: exact, so nothing is rounded. -/
theorem md_exact {b x : Int} (hb : bdN b = true) (hx : wtB x = true) : mdV b 720720 x 0 = b * unC x ∧ mdE b 720720 x 0 = 0 := by
  have h1 := bdN_yes hb
  have h2 := wt_yes hx
  have hbd := no_bd hb hx
  have hm := un_mul hx
  obtain ⟨e1, e2⟩ := md_ok (a := b) (b := 720720) (c := x) (round := 0) (by omega) (by omega)
  have ec : absZ x = x := absZ_pos (by omega)
  have es : absZ 720720 = 720720 := absZ_pos (by omega)
  have hdec : decide (x < 0) = false := decide_eq_false (by omega)
  have hq : absZ b * 720720 / x = absZ b * unC x := un_div hx _
  have hr : absZ b * 720720 % x = 0 := by
    rw [← hm, ← Int.mul_assoc]; exact Int.mul_emod_left _ _
  have hQ : mdQ b 720720 x 0 = b * unC x := by
    have ha : ∀ n, away 0 x n 0 = false := fun n => by unfold away; simp
    unfold mdQ
    rw [ec, es, hq, hr, ha, hdec]
    have hneg : (negs b 720720 != false) = negs b (unC x) := by
      have hu := un_bd hx
      unfold negs
      have a1 : decide ((720720 : Int) < 0) = false := by decide
      have a2 : decide (unC x < 0) = false := decide_eq_false (by omega)
      rw [a1, a2]; cases decide (b < 0) <;> rfl
    have hu := un_bd hx
    have := sgn_mul b (unC x)
    rw [absZ_pos (a := unC x) (by omega)] at this
    rw [hneg]
    show sgn (absZ b * unC x + 0) _ = _
    rw [Int.add_zero]; exact this
  rw [e1, e2, hQ]
  exact fit_yes (by omega)
theorem pweight_any (x : Int) (w : World) : Calls Try.prog 45 #[.int .i64 x] w fun e w' => e = .returned (.bool (wtB x)) ∧ w = w' := by
  by_cases h : 1 ≤ x
  · have e : wtB x = decide (x ≤ 16) := by unfold wtB; simp [h]
    rw [e]; clear e
    go_enter Try.func45, Try.ntmps45
    go_wp2
    go_ret
    exact ⟨rfl, rfl⟩
  · rw [wt_not (by omega)]
    go_enter Try.func45, Try.ntmps45
    go_wp2
    go_ret
    exact ⟨rfl, rfl⟩
theorem normalT_any (b x : Int) (w : World) : Calls Try.prog 44 #[.int .i64 b, .int .i64 x] w (Calm (.tuple #[.int .i64 (noV b x), .int .i64 (noE b x)]) w) := by
  have HG := pweight_any x
  unfold Calm
  by_cases h1 : -1099511627776 ≤ b ∧ b ≤ 1099511627776
  · cases hx : wtB x
    · rw [hx] at HG
      have HG := Lib.hid HG
      obtain ⟨e1, e2⟩ := no_no (b := b) (w := x) (fun h => by rw [hx] at h; cases h.2)
      obtain ⟨a1, a2⟩ := h1
      rw [e1, e2]
      clear e1 e2 hx
      go_enter Try.func44, Try.ntmps44
      go_wp2_with fail
      (with_reducible refine (HG.out _).mono ?_); rintro e w' ⟨rfl, rfl⟩
      go_wp2
      go_ret2
      exact ⟨rfl, Below.refl _ _⟩
    · rw [hx] at HG
      have HG := Lib.hid HG
      obtain ⟨e1, e2⟩ := no_yes (bdN_of h1) hx
      obtain ⟨g1, g2⟩ := md_exact (bdN_of h1) hx
      have hxx := wt_yes hx
      have HM := muldiv_any b 720720 x 0 (by omega) (by omega) (by omega) (by omega) (by omega) (by omega) w
      rw [g1, g2] at HM
      have HM := Lib.hid HM
      obtain ⟨a1, a2⟩ := h1
      rw [e1, e2]
      clear e1 e2 hx hxx g1 g2
      generalize b * unC x = v at *
      go_enter Try.func44, Try.ntmps44
      go_wp2_with fail
      (with_reducible refine (HG.out _).mono ?_); rintro e w' ⟨rfl, rfl⟩
      go_wp2_with fail
      (with_reducible refine HM.out.mono ?_); rintro e w' ⟨rfl, hb⟩
      have HB := Lib.hid hb
      clear hb
      go_wp2
      go_ret2
      exact ⟨rfl, HB.out⟩
  · obtain ⟨e1, e2⟩ := no_no (b := b) (w := x) (fun h => h1 (bdN_yes h.1))
    rw [e1, e2]
    clear e1 e2 HG
    rcases (by omega : b < -1099511627776 ∨ (¬ b < -1099511627776 ∧ 1099511627776 < b)) with h | ⟨h, h'⟩
    all_goals
      clear h1
      go_enter Try.func44, Try.ntmps44
      go_wp2
      go_ret2
      exact ⟨rfl, Below.refl _ _⟩
theorem cost_no {l x : Int} (h : leB l = true) : coV l x = noV l x ∧ coE l x = noE l x := by
  have hl := le_yes h
  have hb : bdN l = true := bdN_of (by omega)
  cases hx : wtB x with
  | false =>
    obtain ⟨e1, e2⟩ := co_no (l := l) (w := x) (fun h => by rw [hx] at h; cases h.2)
    obtain ⟨g1, g2⟩ := no_no (b := l) (w := x) (fun h => by rw [hx] at h; cases h.2)
    rw [e1, e2, g1, g2]; exact ⟨rfl, rfl⟩
  | true =>
    obtain ⟨e1, e2⟩ := co_yes h hx
    obtain ⟨g1, g2⟩ := no_yes hb hx
    rw [e1, e2, g1, g2]; exact ⟨rfl, rfl⟩
end Go.Proofs.Ytcdeecigiijabaa

