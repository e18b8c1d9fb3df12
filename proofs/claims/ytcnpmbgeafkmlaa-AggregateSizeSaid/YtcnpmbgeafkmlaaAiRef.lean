/-
  Layer 19: the reference's ValidRate, Time, Efficiency and Fit. Every rate, every number.
-/
import Derived.Test.YtcnpmbgeafkmlaaAiPlain
import Derived.Test.YtcnpmbgeafkmlaaWhl
import Derived.Test.YtcnpmbgeafkmlaaOpen
import Derived.Lib.Hide
import Derived.BigQuiet
import Derived.IntWalk
namespace Go.Proofs.Ytcnpmbgeafkmlaa
open Go.ChangeShapes Go.WideShapes Go.ChangeAt Go.RowKit
set_option linter.unusedVariables false

theorem aiV_no {k o : Int} (h : ¬ (1 ≤ k ∧ k ≤ 10000000 ∧ 0 ≤ o ∧ o ≤ 100000)) : false = aiV k o := (decide_eq_false h).symm
theorem aiV_last {k o : Int} (h : 1 ≤ k ∧ k ≤ 10000000 ∧ 0 ≤ o) : decide (o ≤ 100000) = aiV k o := by unfold aiV; rw [decide_eq_decide]; omega
def AiB (v : Value) (w : World) (e : Ending) (w' : World) : Prop := e = .returned v ∧ Below w.heap.size w w'
set_option maxHeartbeats 2000000 in
theorem rvalidrate_any (k o : Int) (w : World) : Calls Try.prog 33 #[.agg #[.int .i64 k, .int .i64 o]] w (AiB (.bool (aiV k o)) w) := by
  have N0 := Lib.hid (fun h => aiV_no (k := k) (o := o) h)
  have N1 := Lib.hid (fun h => aiV_last (k := k) (o := o) h)
  generalize aiV k o = r at *
  unfold AiB
  have hb := Lib.hid ((Below.refl w.heap.size w).alloc (Nat.le_refl _) (.cells #[.int .i64 k, .int .i64 o] 34))
  go_enter Try.func33, Try.ntmps33
  go_wp2
  all_goals
    go_ret
    first
      | exact ⟨ret_bool (N1.out (by omega)), hb.out⟩
      | exact ⟨ret_bool (N0.out (by omega)), hb.out⟩
set_option maxHeartbeats 4000000 in
theorem rtime_any (k o b : Int) (w : World) : Calls Try.prog 35 #[.agg #[.int .i64 k, .int .i64 o], .int .i64 b] w (AiB (.tuple #[.int .i64 (aiTV k o b), .int .i64 (aiTE k o b)]) w) := by
  have HV := Lib.hid (fun w => rvalidrate_any k o w)
  by_cases h : aiOk k o b = true
  · have hz : aiTV k o b = aiZ k o b := if_pos h
    have he : aiTE k o b = 0 := if_pos h
    rw [hz, he]
    have hbd := aiZ_bd h
    obtain ⟨⟨h1, h2, h3, h4⟩, h5, h6⟩ := aiOk_cases h
    have hv : aiV k o = true := by unfold aiOk at h; rw [Bool.and_eq_true] at h; exact h.1
    rw [hv] at HV
    have hq : (8000 * b + k - 1).tdiv k = (8000 * b + k - 1) / k := Int.tdiv_eq_ediv_of_nonneg (by omega)
    have hZ : aiZ k o b = o + (8000 * b + k - 1) / k := rfl
    have m1 : IntKind.i64.wrap (8000 * b) = 8000 * b := IntWalk.i64_in _ (by omega)
    have m2 : IntKind.i64.wrap (8000 * b + k) = 8000 * b + k := IntWalk.i64_in _ (by omega)
    have m3 : IntKind.i64.wrap (8000 * b + k - 1) = 8000 * b + k - 1 := IntWalk.i64_in _ (by omega)
    have m4 : IntKind.i64.wrap ((8000 * b + k - 1) / k) = (8000 * b + k - 1) / k := IntWalk.i64_in _ (by omega)
    have m5 : IntKind.i64.wrap (o + (8000 * b + k - 1) / k) = aiZ k o b := by rw [← hZ]; exact IntWalk.i64_in _ (by omega)
    have hk0 : (k == 0) = false := by simp; omega
    clear h hbd hZ hz he
    generalize aiZ k o b = z at *
    generalize (8000 * b + k - 1) / k = q at *
    unfold AiB
    have HW := Lib.hid (Whole.fresh w 34 #[.int .i64 k, .int .i64 o])
    go_enter Try.func35, Try.ntmps35
    go_wp2_with fail
    (with_reducible refine (HV.out _).mono ?_); rintro e w1 ⟨rfl, hb⟩
    have hw := HW.out.carry (hb.block _ HW.out.size_lt)
    have d0 := hw.read 0
    have d1 := hw.read 1
    simp at d0 d1
    have hsz := hw.size_lt
    have HB := Lib.hid (((Below.refl _ _).alloc (Nat.le_refl _) _).trans (hb.mono (by simp)))
    clear hw hb
    go_wp2
    go_quiet (fail)
    go_wp2
    go_ret2
    exact ⟨rfl, Below_drewN HB.out _⟩
  · have hz : aiTV k o b = 0 := if_neg h
    have he : aiTE k o b = 1 := if_neg h
    rw [hz, he]
    unfold AiB
    rcases hv : aiV k o with _ | _
    · rw [hv] at HV
      go_enter Try.func35, Try.ntmps35
      go_wp2_with fail
      (with_reducible refine (HV.out _).mono ?_); rintro e w1 ⟨rfl, hb⟩
      have HB := Lib.hid (((Below.refl _ _).alloc (Nat.le_refl _) _).trans (hb.mono (by simp)))
      clear hb
      go_wp2
      go_ret2
      exact ⟨rfl, HB.out⟩
    · rw [hv] at HV
      have hn : ¬ (0 ≤ b ∧ b ≤ 262144) := fun e => h (aiOk_mk hv e.1 e.2)
      clear h hz he
      go_enter Try.func35, Try.ntmps35
      go_wp2_with fail
      (with_reducible refine (HV.out _).mono ?_); rintro e w1 ⟨rfl, hb⟩
      have HB := Lib.hid (((Below.refl _ _).alloc (Nat.le_refl _) _).trans (hb.mono (by simp)))
      clear hb
      by_cases hb0 : b < 0
      · go_wp2
        go_ret2
        exact ⟨rfl, HB.out⟩
      · have hb1 : 262144 < b := by omega
        go_wp2
        go_ret2
        exact ⟨rfl, HB.out⟩
/-- Halving: what is between. -/
def FtI (k o t : Int) (l h : Int) : Prop := (0 ≤ l ∧ l < h ∧ h ≤ 262145) ∧ aiZ k o l ≤ t ∧ (h ≤ 262144 → t < aiZ k o h)
set_option maxHeartbeats 4000000 in
theorem rfit_any (k o t : Int) (w : World) : Calls Try.prog 34 #[.agg #[.int .i64 k, .int .i64 o], .int .i64 t] w (AiB (.tuple #[.int .i64 (aiFV k o t), .int .i64 (aiFE k o t)]) w) := by
  have HV := Lib.hid (fun w => rvalidrate_any k o w)
  have HW := Lib.hid (Whole.fresh w 34 #[.int .i64 k, .int .i64 o])
  unfold AiB
  rcases hv : aiV k o with _ | _
  · have hz : aiFV k o t = 0 := if_neg (by rw [hv]; decide)
    have he : aiFE k o t = 1 := if_neg (by rw [hv]; decide)
    rw [hv] at HV
    rw [hz, he]
    go_enter Try.func34, Try.ntmps34
    go_wp2_with fail
    (with_reducible refine (HV.out _).mono ?_); rintro e w1 ⟨rfl, hb⟩
    have HB := Lib.hid (((Below.refl _ _).alloc (Nat.le_refl _) _).trans (hb.mono (by simp)))
    clear hb
    go_wp2
    go_ret2
    exact ⟨rfl, HB.out⟩
  · rw [hv] at HV
    by_cases ht : t < o
    · have hz : aiFV k o t = 0 := by unfold aiFV; rw [if_pos hv, if_pos ht]
      have he : aiFE k o t = 2 := by unfold aiFE; rw [if_pos hv, if_pos ht]
      rw [hz, he]
      go_enter Try.func34, Try.ntmps34
      go_wp2_with fail
      (with_reducible refine (HV.out _).mono ?_); rintro e w1 ⟨rfl, hb⟩
      have hw := HW.out.carry (hb.block _ HW.out.size_lt)
      have d1 := hw.read 1
      simp at d1
      have HB := Lib.hid (((Below.refl _ _).alloc (Nat.le_refl _) _).trans (hb.mono (by simp)))
      clear hb hw
      go_wp2
      go_ret2
      exact ⟨rfl, HB.out⟩
    · have hz : aiFV k o t = aiFz k o t := by unfold aiFV; rw [if_pos hv, if_neg ht]
      have he : aiFE k o t = 0 := by unfold aiFE; rw [if_pos hv, if_neg ht]
      rw [hz, he]
      have hk := (aiV_cases hv).1
      have HT := Lib.hid (fun b (h0 : 0 ≤ b) (h1 : b ≤ 262144) (w : World) => (show Calls Try.prog 35 #[.agg #[.int .i64 k, .int .i64 o], .int .i64 b] w (AiB (.tuple #[.int .i64 (aiZ k o b), .int .i64 0]) w) from by
        have e1 : aiTV k o b = aiZ k o b := if_pos (aiOk_mk hv h0 h1)
        have e2 : aiTE k o b = 0 := if_pos (aiOk_mk hv h0 h1)
        have := rtime_any k o b w
        rw [e1, e2] at this; exact this))
      have HE := Lib.hid (fun (l h : Int) (hi : FtI k o t l h) (h1 : h - l ≤ 1) => (show l = aiFz k o t from aiFz_of hk (by have := hi.1; omega) hi.2.1 (fun h2 => by
        have h3 := hi.1
        obtain rfl : h = l + 1 := by omega
        exact hi.2.2 (by omega))))
      have HS := Lib.hid (show FtI k o t 0 262145 from ⟨by omega, by rw [aiZ_zero hk]; omega, fun h => by omega⟩)
      clear hz he
      generalize aiFz k o t = y at *
      go_enter Try.func34, Try.ntmps34
      go_wp2_with fail
      (with_reducible refine (HV.out _).mono ?_); rintro e w1 ⟨rfl, hb⟩
      have hw := HW.out.carry (hb.block _ HW.out.size_lt)
      have d1 := hw.read 1
      simp at d1
      have HB := Lib.hid (((Below.refl _ _).alloc (Nat.le_refl _) _).trans (hb.mono (by simp)))
      have HC := Lib.hid (fun (W : World) (h : Below w1.heap.size w1 W) => hw.carry (h.block _ hw.size_lt))
      clear hb hw HV HW
      go_wp2_with fail
      obtain ⟨wo, rfl⟩ : ∃ wo : World, wo = w1 := ⟨_, rfl⟩
      go_loopw [6, 7, 8, 9, 10] (fun s6 s7 _ _ _ wr => ∃ l h : Int, s6 = .int .i64 l ∧ s7 = .int .i64 h ∧ Hid (FtI k o t l h) ∧ Hid (Below wo.heap.size wo wr)) (fun s6 s7 _ _ _ _ => (intOf s7 - intOf s6).toNat)
      case atStart => exact ⟨0, 262145, rfl, rfl, HS, Lib.hid (Below.refl _ _)⟩
      case round =>
        obtain ⟨l, h, rfl, rfl, HI, HX⟩ := hrel
        obtain ⟨⟨i0, i1, i2⟩, i3, i4⟩ := HI.out
        by_cases hc : h - l ≤ 1
        · have hy := Lib.hid (HE.out l h HI.out hc)
          have HF := Lib.hid (HB.out.trans (HX.out.mono HB.out.size))
          clear i3 i4 HT HE HC HS
          go_wp2
          go_ret2
          exact ⟨by rw [hy.out]; rfl, HF.out⟩
        · have hw := HC.out wr HX.out
          have c0 := hw.read 0
          have c1 := hw.read 1
          simp at c0 c1
          have m1 : IntKind.i64.wrap (l + h) = l + h := IntWalk.i64_in _ (by omega)
          have hq : (l + h).tdiv 2 = (l + h) / 2 := Int.tdiv_eq_ediv_of_nonneg (by omega)
          have hm : l < (l + h) / 2 ∧ (l + h) / 2 < h := by omega
          generalize (l + h) / 2 = m at *
          have m2 : IntKind.i64.wrap m = m := IntWalk.i64_in _ (by omega)
          have HTM := Lib.hid (fun w => HT.out m (by omega) (by omega) w)
          have HA := Lib.hid (fun (h5 : aiZ k o m ≤ t) => (show FtI k o t m h from ⟨by omega, h5, i4⟩))
          have HN := Lib.hid (fun (h5 : t < aiZ k o m) => (show FtI k o t l m from ⟨by omega, i3, fun _ => h5⟩))
          clear i3 i4 HT HE HC HS HI hw
          generalize aiZ k o m = z at *
          go_wp2_with fail
          (with_reducible refine (HTM.out _).mono ?_); rintro e w2 ⟨rfl, hb2⟩
          have HX2 := Lib.hid (HX.out.trans (hb2.mono HX.out.size))
          clear hb2 HX HTM
          by_cases h5 : z ≤ t
          · have HI := Lib.hid (HA.out h5)
            clear HA HN
            go_wp2
            go_roundw
            case rel => exact ⟨_, _, rfl, rfl, HI, HX2⟩
            case measure => simp [intOf]; omega
          · have HI := Lib.hid (HN.out (by omega))
            clear HA HN
            go_wp2
            go_roundw
            case rel => exact ⟨_, _, rfl, rfl, HI, HX2⟩
            case measure => simp [intOf]; omega
end Go.Proofs.Ytcnpmbgeafkmlaa

