/-
  Layer 9: contracts of Valid and of the reference's ValidRule. Every rule (the reference: whose station has up to 2000000 bytes).
-/
import Derived.Test.YtfkbohfelacaoaaDoorPcValid
import Derived.Test.YtfkbohfelacaoaaDoorRuMem
namespace Go.Proofs.YtfkbohfelacaoaaDoor
open Go.ChangeShapes Go.WideShapes Go.ChangeAt Go.RowKit
set_option linter.unusedVariables false

theorem ruNum_no {st : ByteArray} {c f l n : Int} (h : ¬ ((-1 ≤ c ∧ c ≤ 7) ∧ (0 ≤ f ∧ f ≤ l ∧ l ≤ 65535) ∧ (0 ≤ n ∧ n < 32))) : false = ruNum ⟨st, c, f, l, n⟩ := (decide_eq_false h).symm
theorem ruNum_last {st : ByteArray} {c f l n : Int} (h : (-1 ≤ c ∧ c ≤ 7) ∧ (0 ≤ f ∧ f ≤ l ∧ l ≤ 65535) ∧ 0 ≤ n) : decide (n < 32) = ruNum ⟨st, c, f, l, n⟩ := by
  unfold ruNum; rw [decide_eq_decide]; simp only; omega
theorem str_ne {s : ByteArray} (h : ¬ s.size = 0) : ¬ s.toList = [] := by
  rw [Lib.toList_data]; intro k; apply h; rw [Lib.size_eq s, k]; rfl
theorem ruOk_cases (st : ByteArray) (c f l n : Int) : (st.size = 0 ∧ ruOk ⟨st, c, f, l, n⟩ = ruNum ⟨st, c, f, l, n⟩) ∨ (¬ st.size = 0 ∧ (nam st).isSome = true ∧ ruOk ⟨st, c, f, l, n⟩ = ruNum ⟨st, c, f, l, n⟩) ∨ (¬ st.size = 0 ∧ (nam st).isSome = false ∧ ruOk ⟨st, c, f, l, n⟩ = false) := by
  unfold ruOk
  by_cases h : st.size = 0
  · exact .inl ⟨h, by simp [h]⟩
  · right
    cases k : (nam st).isSome
    · exact .inr ⟨h, rfl, by simp [h]⟩
    · exact .inl ⟨h, rfl, by simp [h]⟩
set_option maxHeartbeats 2000000 in
theorem rval_any (st : ByteArray) (c f l n : Int) (w : World) : Calls Tryd.prog 17 #[.agg #[.string st, .int .i64 c, .int .i64 f, .int .i64 l, .int .i64 n]] w (BoolAns (ruOk ⟨st, c, f, l, n⟩) w) := by
  have H := Lib.hid (fun w => valid_any st w)
  have N0 := Lib.hid (fun h => ruNum_no (st := st) (c := c) (f := f) (l := l) (n := n) h)
  have N1 := Lib.hid (fun h => ruNum_last (st := st) (c := c) (f := f) (l := l) (n := n) h)
  unfold BoolAns
  rcases ruOk_cases st c f l n with ⟨h0, hr⟩ | ⟨h0, h1, hr⟩ | ⟨h0, h1, hr⟩
  · rw [hr]
    generalize ruNum ⟨st, c, f, l, n⟩ = r at *
    have e := empty_of h0
    subst e
    clear h0 H hr
    go_enter Tryd.func17, Tryd.ntmps17
    go_wp2
    all_goals
      go_ret
      first
        | exact ⟨ret_bool (N1.out (by omega)), (Below.refl _ _).alloc (Nat.le_refl _) _⟩
        | exact ⟨ret_bool (N0.out (by omega)), (Below.refl _ _).alloc (Nat.le_refl _) _⟩
  · rw [hr]
    generalize ruNum ⟨st, c, f, l, n⟩ = r at *
    rw [h1] at H
    have he := str_ne h0
    clear h1 h0 hr
    have hz := Whole.fresh w 29 #[.string st, .int .i64 c, .int .i64 f, .int .i64 l, .int .i64 n]
    have HZ := Lib.hid hz
    clear hz
    go_enter Tryd.func17, Tryd.ntmps17
    go_wp2_with fail
    (with_reducible refine (H.out _).mono ?_); rintro e w1 ⟨rfl, hb⟩
    have hz := HZ.out.carry (hb.block _ HZ.out.size_lt)
    have d1 := hz.read 1
    have d2 := hz.read 2
    have d3 := hz.read 3
    have d4 := hz.read 4
    simp at d1 d2 d3 d4
    have hb := Lib.hid (((Below.refl _ _).alloc (Nat.le_refl _) _).trans (hb.mono (by simp)))
    clear hz
    go_wp2
    all_goals
      go_ret
      first
        | exact ⟨ret_bool (N1.out (by omega)), hb.out⟩
        | exact ⟨ret_bool (N0.out (by omega)), hb.out⟩
  · rw [hr]
    rw [h1] at H
    have he := str_ne h0
    clear h1 h0 hr N0 N1
    go_enter Tryd.func17, Tryd.ntmps17
    go_wp2_with fail
    (with_reducible refine (H.out _).mono ?_); rintro e w1 ⟨rfl, hb⟩
    have hb := Lib.hid (((Below.refl _ _).alloc (Nat.le_refl _) _).trans (hb.mono (by simp)))
    go_wp2
    go_ret
    exact ⟨rfl, hb.out⟩
set_option maxHeartbeats 2000000 in
theorem rvalR_any (st : ByteArray) (c f l n : Int) (hs : st.size ≤ 2000000) (w : World) : Calls Tryd.prog 18 #[.agg #[.string st, .int .i64 c, .int .i64 f, .int .i64 l, .int .i64 n]] w (BoolAns (ruOk ⟨st, c, f, l, n⟩) w) := by
  have H := Lib.hid (fun w => validName_any st w hs)
  have N0 := Lib.hid (fun h => ruNum_no (st := st) (c := c) (f := f) (l := l) (n := n) h)
  have N1 := Lib.hid (fun h => ruNum_last (st := st) (c := c) (f := f) (l := l) (n := n) h)
  unfold BoolAns
  rcases ruOk_cases st c f l n with ⟨h0, hr⟩ | ⟨h0, h1, hr⟩ | ⟨h0, h1, hr⟩
  · rw [hr]
    generalize ruNum ⟨st, c, f, l, n⟩ = r at *
    have e := empty_of h0
    subst e
    clear h0 H hr
    go_enter Tryd.func18, Tryd.ntmps18
    go_wp2
    all_goals
      go_ret
      first
        | exact ⟨ret_bool (N1.out (by omega)), (Below.refl _ _).alloc (Nat.le_refl _) _⟩
        | exact ⟨ret_bool (N0.out (by omega)), (Below.refl _ _).alloc (Nat.le_refl _) _⟩
  · rw [hr]
    generalize ruNum ⟨st, c, f, l, n⟩ = r at *
    rw [h1] at H
    have he := str_ne h0
    clear h1 h0 hr
    have hz := Whole.fresh w 29 #[.string st, .int .i64 c, .int .i64 f, .int .i64 l, .int .i64 n]
    have HZ := Lib.hid hz
    clear hz
    go_enter Tryd.func18, Tryd.ntmps18
    go_wp2_with fail
    (with_reducible refine (H.out _).mono ?_); rintro e w1 ⟨rfl, hb⟩
    have hz := HZ.out.carry (hb.block _ HZ.out.size_lt)
    have d1 := hz.read 1
    have d2 := hz.read 2
    have d3 := hz.read 3
    have d4 := hz.read 4
    simp at d1 d2 d3 d4
    have hb := Lib.hid (((Below.refl _ _).alloc (Nat.le_refl _) _).trans (hb.mono (by simp)))
    clear hz
    go_wp2
    all_goals
      go_ret
      first
        | exact ⟨ret_bool (N1.out (by omega)), hb.out⟩
        | exact ⟨ret_bool (N0.out (by omega)), hb.out⟩
  · rw [hr]
    rw [h1] at H
    have he := str_ne h0
    clear h1 h0 hr N0 N1
    go_enter Tryd.func18, Tryd.ntmps18
    go_wp2_with fail
    (with_reducible refine (H.out _).mono ?_); rintro e w1 ⟨rfl, hb⟩
    have hb := Lib.hid (((Below.refl _ _).alloc (Nat.le_refl _) _).trans (hb.mono (by simp)))
    go_wp2
    go_ret
    exact ⟨rfl, hb.out⟩
end Go.Proofs.YtfkbohfelacaoaaDoor

