/-
  Layer 12: contracts of the reference's goodWeight, Cost, Finish, Normalized.
-/
import Derived.Test.YtkfhjpgapmfiaaaTgMem
import Derived.IntWalk
namespace Go.Proofs.Ytkfhjpgapmfiaaa
open Go.ChangeShapes Go.WideShapes Go.ChangeAt Go.RowKit
set_option linter.unusedVariables false

theorem rweight_any (x : Int) (w : World) : Calls Try.prog 42 #[.int .i64 x] w fun e w' => e = .returned (.bool (wtB x)) ∧ w = w' := by
  by_cases h : 1 ≤ x
  · have e : wtB x = decide (x ≤ 16) := by unfold wtB; simp [h]
    rw [e]; clear e
    go_enter Try.func42, Try.ntmps42
    go_wp2
    go_ret
    exact ⟨rfl, rfl⟩
  · rw [wt_not (by omega)]
    go_enter Try.func42, Try.ntmps42
    go_wp2
    go_ret
    exact ⟨rfl, rfl⟩
theorem un_walk {w u : Int} (h : wtB w = true) (hu : unC w = u) : (720720 : Int) / w = u ∧ Int.tdiv 720720 w = u ∧ 45045 ≤ u ∧ u ≤ 720720 := by
  have hb := un_bd h
  rw [hu] at hb
  have e : (720720 : Int) / w = u := hu
  refine ⟨e, ?_, hb.1, hb.2⟩
  rw [Int.tdiv_eq_ediv_of_nonneg (by decide)]
  exact e
theorem rcost_any (l x : Int) (w : World) : Calls Try.prog 55 #[.int .i64 l, .int .i64 x] w fun e w' => e = .returned (.tuple #[.int .i64 (coV l x), .int .i64 (coE l x)]) ∧ w = w' := by
  have HG := rweight_any x
  by_cases h1 : 1 ≤ l ∧ l ≤ 4096
  · cases hx : wtB x
    · rw [hx] at HG
      have HG := Lib.hid HG
      obtain ⟨e1, e2⟩ := co_no (l := l) (w := x) (fun h => by rw [hx] at h; cases h.2)
      obtain ⟨a1, a2⟩ := h1
      rw [e1, e2]
      clear e1 e2 hx
      go_enter Try.func55, Try.ntmps55
      go_wp2_with fail
      (with_reducible refine (HG.out _).mono ?_); rintro e w' ⟨rfl, rfl⟩
      go_wp2
      go_ret2
      exact ⟨rfl, rfl⟩
    · rw [hx] at HG
      have HG := Lib.hid HG
      obtain ⟨e1, e2⟩ := co_yes (le_of h1) hx
      have hbd := co_bd (le_of h1) hx
      obtain ⟨u, hu⟩ : ∃ u, unC x = u := ⟨_, rfl⟩
      obtain ⟨q1, q2, u0, u1⟩ := un_walk hx hu
      rw [hu] at e2 hbd
      have hw : IntKind.i64.wrap (l * u) = l * u := IntWalk.i64_in _ (by omega)
      have hxx := wt_yes hx
      obtain ⟨x0, x1⟩ := hxx
      have hx0 : (x == 0) = false := beq_eq_false_iff_ne.2 (by omega)
      obtain ⟨a1, a2⟩ := h1
      rw [e1, e2]
      clear e1 e2 hx hu hbd
      go_enter Try.func55, Try.ntmps55
      go_wp2_with fail
      (with_reducible refine (HG.out _).mono ?_); rintro e w' ⟨rfl, rfl⟩
      go_wp2
      go_ret2
      exact ⟨rfl, rfl⟩
  · obtain ⟨e1, e2⟩ := co_no (l := l) (w := x) (fun h => h1 (le_yes h.1))
    rw [e1, e2]
    clear e1 e2 HG
    rcases (by omega : l < 1 ∨ (¬ l < 1 ∧ 4096 < l)) with h | ⟨h, h'⟩
    all_goals
      clear h1
      go_enter Try.func55, Try.ntmps55
      go_wp2
      go_ret2
      exact ⟨rfl, rfl⟩
theorem rfinish_any (s l x : Int) (w : World) : Calls Try.prog 44 #[.int .i64 s, .int .i64 l, .int .i64 x] w fun e w' => e = .returned (.tuple #[.int .i64 (fiV s l x), .int .i64 (fiE s l x)]) ∧ w = w' := by
  have HC := rcost_any l x w
  by_cases h : leB l = true ∧ wtB x = true
  · obtain ⟨h1, h2⟩ := h
    obtain ⟨e1, e2⟩ := co_yes h1 h2
    rw [e1, e2] at HC
    have HC := Lib.hid HC
    have hbd := co_bd h1 h2
    by_cases h3 : 0 ≤ s ∧ s ≤ 1099511627776
    · by_cases h4 : s + l * unC x ≤ 1099511627776
      · obtain ⟨g1, g2⟩ := fi_0 h1 h2 (st_of h3) h4
        rw [g1, g2]
        clear e1 e2 g1 g2 h1 h2
        generalize l * unC x = z at *
        have hw : IntKind.i64.wrap (s + z) = s + z := IntWalk.i64_in _ (by omega)
        obtain ⟨a1, a2⟩ := h3
        go_enter Try.func44, Try.ntmps44
        go_wp2_with fail
        (with_reducible refine HC.out.mono ?_); rintro e w' ⟨rfl, rfl⟩
        go_wp2
        go_ret2
        exact ⟨rfl, rfl⟩
      · obtain ⟨g1, g2⟩ := fi_2 h1 h2 (st_of h3) h4
        rw [g1, g2]
        clear e1 e2 g1 g2 h1 h2
        generalize l * unC x = z at *
        have hw : IntKind.i64.wrap (s + z) = s + z := IntWalk.i64_in _ (by omega)
        obtain ⟨a1, a2⟩ := h3
        go_enter Try.func44, Try.ntmps44
        go_wp2_with fail
        (with_reducible refine HC.out.mono ?_); rintro e w' ⟨rfl, rfl⟩
        go_wp2
        go_ret2
        exact ⟨rfl, rfl⟩
    · obtain ⟨g1, g2⟩ := fi_1 (s := s) (l := l) (w := x) (fun h => h3 (st_yes h.2.2))
      rw [g1, g2]
      clear e1 e2 g1 g2 h1 h2
      generalize l * unC x = z at *
      rcases (by omega : s < 0 ∨ (¬ s < 0 ∧ 1099511627776 < s)) with h | ⟨h, h'⟩
      all_goals
        clear h3
        go_enter Try.func44, Try.ntmps44
        go_wp2_with fail
        (with_reducible refine HC.out.mono ?_); rintro e w' ⟨rfl, rfl⟩
        go_wp2
        go_ret2
        exact ⟨rfl, rfl⟩
  · obtain ⟨e1, e2⟩ := co_no h
    rw [e1, e2] at HC
    have HC := Lib.hid HC
    obtain ⟨g1, g2⟩ := fi_1 (s := s) (l := l) (w := x) (fun h2 => h ⟨h2.1, h2.2.1⟩)
    rw [g1, g2]
    clear e1 e2 g1 g2 h
    go_enter Try.func44, Try.ntmps44
    go_wp2_with fail
    (with_reducible refine HC.out.mono ?_); rintro e w' ⟨rfl, rfl⟩
    go_wp2
    go_ret2
    exact ⟨rfl, rfl⟩
end Go.Proofs.Ytkfhjpgapmfiaaa

