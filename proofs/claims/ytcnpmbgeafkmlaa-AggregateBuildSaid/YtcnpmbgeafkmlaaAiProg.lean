/-
  Layer 19: the program's Valid, Time, Efficiency, Fit and Best.
-/
import Derived.Test.YtcnpmbgeafkmlaaAiRef
import Derived.Test.YtcnpmbgeafkmlaaAiRef2
import Derived.Test.YtcnpmbgeafkmlaaAiGen
import Derived.Test.YtcnpmbgeafkmlaaFixC
namespace Go.Proofs.Ytcnpmbgeafkmlaa
open Go.ChangeShapes Go.WideShapes Go.ChangeAt Go.RowKit
set_option linter.unusedVariables false

theorem md_down19 {a b c : Int} (a0 : 0 ≤ a) (b0 : 0 ≤ b) (hc : 0 < c) (h : a * b / c ≤ 9223372036854775807) : mdV a b c 0 = a * b / c ∧ mdE a b c 0 = 0 := by
  have hb0 : 0 ≤ a * b / c := Int.ediv_nonneg (Int.mul_nonneg a0 b0) (by omega)
  have hq : mdQ a b c 0 = a * b / c := by
    unfold mdQ negs
    rw [absZ_pos (by omega), absZ_pos (by omega), absZ_pos (by omega), decide_eq_false (show ¬ a < 0 by omega), decide_eq_false (show ¬ b < 0 by omega), decide_eq_false (show ¬ c < 0 by omega)]
    simp [sgn, away, ups]
  obtain ⟨m1, m2⟩ := md_ok (a := a) (b := b) (c := c) (round := 0) (by omega) (by omega)
  rw [hq] at m1 m2
  obtain ⟨f1, f2⟩ := fit_yes (x := a * b / c) (by omega)
  rw [m1, m2, f1, f2]; exact ⟨rfl, rfl⟩
theorem md_up19 {b k : Int} (b0 : 0 ≤ b) (b1 : b ≤ 262144) (k0 : 1 ≤ k) : mdV b 8000 k 1 = (8000 * b + k - 1) / k ∧ mdE b 8000 k 1 = 0 := by
  have hp0 : 0 ≤ 8000 * b := by omega
  have hq : mdQ b 8000 k 1 = (8000 * b + k - 1) / k := by
    unfold mdQ negs
    rw [absZ_pos (by omega), absZ_pos (by omega), absZ_pos (by omega), decide_eq_false (show ¬ b < 0 by omega), decide_eq_false (show ¬ (8000 : Int) < 0 by omega), decide_eq_false (show ¬ k < 0 by omega), Int.mul_comm b 8000]
    have e := Int.mul_ediv_add_emod (8000 * b) k
    rw [Int.mul_comm k] at e
    have r0 := Int.emod_nonneg (8000 * b) (show k ≠ 0 by omega)
    have r1 := Int.emod_lt_of_pos (8000 * b) (show 0 < k by omega)
    generalize 8000 * b / k = q at *
    generalize 8000 * b % k = r at *
    have p1 : (q + 1) * k = q * k + k := by rw [Int.add_mul, Int.one_mul]
    have p2 : (q + 1 + 1) * k = q * k + k + k := by rw [Int.add_mul, Int.add_mul, Int.one_mul]
    by_cases hr : 0 < r
    · have : (8000 * b + k - 1) / k = q + 1 := by
        rw [Int.ediv_eq_iff_of_pos (by omega)]
        constructor <;> omega
      rw [this]; simp [sgn, away, ups, hr]
    · have : (8000 * b + k - 1) / k = q := by
        rw [Int.ediv_eq_iff_of_pos (by omega)]
        constructor <;> omega
      rw [this]; simp [sgn, away, ups, hr]
  have hb2 : 0 ≤ (8000 * b + k - 1) / k ∧ (8000 * b + k - 1) / k ≤ 2097152000 := by
    refine ⟨Int.ediv_nonneg (by omega) (by omega), ?_⟩
    rw [up_le k0]; omega
  obtain ⟨m1, m2⟩ := md_ok (a := b) (b := 8000) (c := k) (round := 1) (by omega) (by omega)
  rw [hq] at m1 m2
  obtain ⟨f1, f2⟩ := fit_yes (x := (8000 * b + k - 1) / k) (by omega)
  rw [m1, m2, f1, f2]; exact ⟨rfl, rfl⟩
def aiS (b : Int) : Bool := decide (0 ≤ b ∧ b ≤ 262144)
set_option maxHeartbeats 2000000 in
theorem psize19_any (b : Int) (w : World) : Calls Try.prog 38 #[.int .i64 b] w (AiB (.bool (aiS b)) w) := by
  have N0 := Lib.hid (fun (h : ¬ (0 ≤ b ∧ b ≤ 262144)) => (show false = aiS b from (decide_eq_false h).symm))
  have N1 := Lib.hid (fun (h : 0 ≤ b) => (show decide (b ≤ 262144) = aiS b from by unfold aiS; rw [decide_eq_decide]; omega))
  generalize aiS b = r at *
  unfold AiB
  go_enter Try.func38, Try.ntmps38
  go_wp2
  all_goals
    go_ret
    first
      | exact ⟨ret_bool (N1.out (by omega)), Below.refl _ _⟩
      | exact ⟨ret_bool (N0.out (by omega)), Below.refl _ _⟩
set_option maxHeartbeats 2000000 in
theorem pvalid19_any (k o : Int) (w : World) : Calls Try.prog 27 #[.agg #[.int .i64 k, .int .i64 o]] w (AiB (.bool (aiV k o)) w) := by
  have N0 := Lib.hid (fun h => aiV_no (k := k) (o := o) h)
  have N1 := Lib.hid (fun h => aiV_last (k := k) (o := o) h)
  generalize aiV k o = r at *
  unfold AiB
  have hb := Lib.hid ((Below.refl w.heap.size w).alloc (Nat.le_refl _) (.cells #[.int .i64 k, .int .i64 o] 34))
  go_enter Try.func27, Try.ntmps27
  go_wp2
  all_goals
    go_ret
    first
      | exact ⟨ret_bool (N1.out (by omega)), hb.out⟩
      | exact ⟨ret_bool (N0.out (by omega)), hb.out⟩
set_option maxHeartbeats 4000000 in
theorem ptime_any (k o b : Int) (w : World) : Calls Try.prog 32 #[.agg #[.int .i64 k, .int .i64 o], .int .i64 b] w (AiB (.tuple #[.int .i64 (aiTV k o b), .int .i64 (aiTE k o b)]) w) := by
  have HV := Lib.hid (fun w => pvalid19_any k o w)
  have HS := Lib.hid (fun w => psize19_any b w)
  have HW := Lib.hid (Whole.fresh w 34 #[.int .i64 k, .int .i64 o])
  unfold AiB at *
  by_cases h : aiOk k o b = true
  · have hz : aiTV k o b = aiZ k o b := if_pos h
    have he : aiTE k o b = 0 := if_pos h
    rw [hz, he]
    have hbd := aiZ_bd h
    obtain ⟨⟨h1, h2, h3, h4⟩, h5, h6⟩ := aiOk_cases h
    have hv : aiV k o = true := by unfold aiOk at h; rw [Bool.and_eq_true] at h; exact h.1
    have hs : aiS b = true := decide_eq_true ⟨h5, h6⟩
    rw [hv] at HV
    rw [hs] at HS
    obtain ⟨e1, e2⟩ := md_up19 h5 h6 h1
    have HM := fun w => muldiv_any b 8000 k 1 (by omega) (by omega) (by omega) (by omega) (by omega) (by omega) w
    rw [e1, e2] at HM
    have HM := Lib.hid HM
    have hZ : aiZ k o b = o + (8000 * b + k - 1) / k := rfl
    have m5 : IntKind.i64.wrap (o + (8000 * b + k - 1) / k) = aiZ k o b := by rw [← hZ]; exact IntWalk.i64_in _ (by omega)
    clear h hbd hZ hz he e1 e2 hv hs
    generalize aiZ k o b = z at *
    generalize (8000 * b + k - 1) / k = q at *
    go_enter Try.func32, Try.ntmps32
    go_wp2_with fail
    (with_reducible refine (HV.out _).mono ?_); rintro e w1 ⟨rfl, hb⟩
    have HB := Lib.hid (((Below.refl _ _).alloc (Nat.le_refl _) _).trans (hb.mono (by simp)))
    have HW1 := Lib.hid (HW.out.carry (hb.block _ HW.out.size_lt))
    clear hb HW
    go_wp2_with fail
    (with_reducible refine (HS.out _).mono ?_); rintro e w2 ⟨rfl, hb⟩
    have hw := HW1.out.carry (hb.block _ HW1.out.size_lt)
    have d0 := hw.read 0
    simp at d0
    have HB2 := Lib.hid (HB.out.trans (hb.mono HB.out.size))
    have HW2 := Lib.hid hw
    clear hb hw HW1 HB
    go_wp2_with fail
    (with_reducible refine (HM.out _).mono ?_); rintro e w3 ⟨rfl, hb⟩
    have hw := HW2.out.carry (hb.block _ HW2.out.size_lt)
    clear d0
    have d1 := hw.read 1
    simp at d1
    have HB3 := Lib.hid (HB2.out.trans (hb.mono HB2.out.size))
    clear hb hw HW2 HB2
    go_wp2
    go_ret2
    exact ⟨rfl, HB3.out⟩
  · have hz : aiTV k o b = 0 := if_neg h
    have he : aiTE k o b = 1 := if_neg h
    rw [hz, he]
    rcases hv : aiV k o with _ | _
    · rw [hv] at HV
      clear h hz he HW HS
      go_enter Try.func32, Try.ntmps32
      go_wp2_with fail
      (with_reducible refine (HV.out _).mono ?_); rintro e w1 ⟨rfl, hb⟩
      have HB := Lib.hid (((Below.refl _ _).alloc (Nat.le_refl _) _).trans (hb.mono (by simp)))
      clear hb
      go_wp2
      go_ret2
      exact ⟨rfl, HB.out⟩
    · rw [hv] at HV
      have hn : aiS b = false := decide_eq_false (fun e => h (aiOk_mk hv e.1 e.2))
      rw [hn] at HS
      clear h hz he HW hn
      go_enter Try.func32, Try.ntmps32
      go_wp2_with fail
      (with_reducible refine (HV.out _).mono ?_); rintro e w1 ⟨rfl, hb⟩
      have HB := Lib.hid (((Below.refl _ _).alloc (Nat.le_refl _) _).trans (hb.mono (by simp)))
      clear hb
      go_wp2_with fail
      (with_reducible refine (HS.out _).mono ?_); rintro e w2 ⟨rfl, hb⟩
      have HB2 := Lib.hid (HB.out.trans (hb.mono HB.out.size))
      clear hb HB
      go_wp2
      go_ret2
      exact ⟨rfl, HB2.out⟩
set_option maxHeartbeats 4000000 in
theorem pfit_any (k o t : Int) (t0 : -9223372036854775808 ≤ t) (t1 : t ≤ 9223372036854775807) (w : World) : Calls Try.prog 31 #[.agg #[.int .i64 k, .int .i64 o], .int .i64 t] w (AiB (.tuple #[.int .i64 (aiFV k o t), .int .i64 (aiFE k o t)]) w) := by
  have HT := Lib.hid (fun w => ptime_any k o 262144 w)
  have HW := Lib.hid (Whole.fresh w 34 #[.int .i64 k, .int .i64 o])
  unfold AiB at *
  rcases hv : aiV k o with _ | _
  · have hz : aiFV k o t = 0 := if_neg (by rw [hv]; decide)
    have he : aiFE k o t = 1 := if_neg (by rw [hv]; decide)
    have hno : ¬ aiOk k o 262144 = true := by unfold aiOk; rw [hv]; decide
    have hz1 : aiTV k o 262144 = 0 := if_neg hno
    have he1 : aiTE k o 262144 = 1 := if_neg hno
    rw [hz1, he1] at HT
    rw [hz, he]
    clear hz he hno hz1 he1 HW
    go_enter Try.func31, Try.ntmps31
    go_wp2_with fail
    (with_reducible refine (HT.out _).mono ?_); rintro e w1 ⟨rfl, hb⟩
    have HB := Lib.hid (((Below.refl _ _).alloc (Nat.le_refl _) _).trans (hb.mono (by simp)))
    clear hb
    go_wp2
    go_ret2
    exact ⟨rfl, HB.out⟩
  · have hok := aiOk_mk hv (b := 262144) (by omega) (by omega)
    have hz1 : aiTV k o 262144 = aiZ k o 262144 := if_pos hok
    have he1 : aiTE k o 262144 = 0 := if_pos hok
    rw [hz1, he1] at HT
    have hbd := aiZ_bd hok
    obtain ⟨h1, h2, h3, h4⟩ := aiV_cases hv
    have hle := aiZ_le (k := k) (o := o) (b := 262144) (t := t) h1
    clear hok hz1 he1
    by_cases ht : t < o
    · have hz : aiFV k o t = 0 := by unfold aiFV; rw [if_pos hv, if_pos ht]
      have he : aiFE k o t = 2 := by unfold aiFE; rw [if_pos hv, if_pos ht]
      rw [hz, he]
      clear hle hz he hv
      generalize aiZ k o 262144 = z at *
      go_enter Try.func31, Try.ntmps31
      go_wp2_with fail
      (with_reducible refine (HT.out _).mono ?_); rintro e w1 ⟨rfl, hb⟩
      have hw := HW.out.carry (hb.block _ HW.out.size_lt)
      have d1 := hw.read 1
      simp at d1
      have HB := Lib.hid (((Below.refl _ _).alloc (Nat.le_refl _) _).trans (hb.mono (by simp)))
      clear hb hw HW
      go_wp2
      go_ret2
      exact ⟨rfl, HB.out⟩
    · have hz : aiFV k o t = aiFz k o t := by unfold aiFV; rw [if_pos hv, if_neg ht]
      have he : aiFE k o t = 0 := by unfold aiFE; rw [if_pos hv, if_neg ht]
      rw [hz, he]
      have hF : aiFz k o t = min 262144 ((t - o) * k / 8000) := rfl
      clear hz he hv
      by_cases hlong : aiZ k o 262144 ≤ t
      · have hf : aiFz k o t = 262144 := by have := hle.1 hlong; omega
        rw [hf]
        clear hle hF hf
        generalize aiZ k o 262144 = z at *
        go_enter Try.func31, Try.ntmps31
        go_wp2_with fail
        (with_reducible refine (HT.out _).mono ?_); rintro e w1 ⟨rfl, hb⟩
        have hw := HW.out.carry (hb.block _ HW.out.size_lt)
        have d1 := hw.read 1
        simp at d1
        have HB := Lib.hid (((Below.refl _ _).alloc (Nat.le_refl _) _).trans (hb.mono (by simp)))
        clear hb hw HW
        go_wp2
        go_ret2
        exact ⟨rfl, HB.out⟩
      · have hq : ¬ 262144 ≤ (t - o) * k / 8000 := fun e => hlong (hle.2 e)
        have hf : aiFz k o t = (t - o) * k / 8000 := by omega
        obtain ⟨e1, e2⟩ := md_down19 (a := t - o) (b := k) (c := 8000) (by omega) (by omega) (by omega) (by omega)
        have HM := fun w => muldiv_any (t - o) k 8000 0 (by omega) (by omega) (by omega) (by omega) (by omega) (by omega) w
        rw [e1, e2, ← hf] at HM
        have HM := Lib.hid HM
        have hy : 0 ≤ aiFz k o t ∧ aiFz k o t < 262144 := ⟨by rw [hf]; exact Int.ediv_nonneg (Int.mul_nonneg (by omega) (by omega)) (by omega), by omega⟩
        have m1 : IntKind.i64.wrap (t - o) = t - o := IntWalk.i64_in _ (by omega)
        clear hle hF hf e1 e2 hq
        generalize aiFz k o t = y at *
        have m2 : IntKind.i64.wrap y = y := IntWalk.i64_in _ (by omega)
        generalize aiZ k o 262144 = z at *
        go_enter Try.func31, Try.ntmps31
        go_wp2_with fail
        (with_reducible refine (HT.out _).mono ?_); rintro e w1 ⟨rfl, hb⟩
        have hw := HW.out.carry (hb.block _ HW.out.size_lt)
        have d0 := hw.read 0
        have d1 := hw.read 1
        simp at d0 d1
        have HB := Lib.hid (((Below.refl _ _).alloc (Nat.le_refl _) _).trans (hb.mono (by simp)))
        clear hb hw HW
        go_wp2_with fail
        (with_reducible refine (HM.out _).mono ?_); rintro e w2 ⟨rfl, hb⟩
        have HB2 := Lib.hid (HB.out.trans (hb.mono HB.out.size))
        clear hb HB d0 d1
        go_wp2
        go_ret2
        exact ⟨rfl, HB2.out⟩
end Go.Proofs.Ytcnpmbgeafkmlaa

