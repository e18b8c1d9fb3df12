/-
  Layer 20: the reference's ValidCaps, lengthsOK, Size and Permitted. Every input.
-/
import Derived.Test.YtcnpmbgeafkmlaaAgPlain
import Derived.Test.YtcnpmbgeafkmlaaAiRef
import Derived.Test.YtcnpmbgeafkmlaaIntL
import Derived.LoopTactic
namespace Go.Proofs.Ytcnpmbgeafkmlaa
open Go.ChangeShapes Go.WideShapes Go.ChangeAt Go.RowKit
set_option linter.unusedVariables false

theorem agV_no {p b t : Int} (h : ¬ (1 ≤ p ∧ p ≤ 32 ∧ 1 ≤ b ∧ b ≤ 262144 ∧ 1 ≤ t ∧ t ≤ 1048576)) : false = agV p b t := (decide_eq_false h).symm
theorem agV_last {p b t : Int} (h : 1 ≤ p ∧ p ≤ 32 ∧ 1 ≤ b ∧ b ≤ 262144 ∧ 1 ≤ t) : decide (t ≤ 1048576) = agV p b t := by unfold agV; rw [decide_eq_decide]; omega
set_option maxHeartbeats 4000000 in
theorem rvalidcaps_any (p b t : Int) (w : World) : Calls Try.prog 12 #[.agg #[.int .i64 p, .int .i64 b, .int .i64 t]] w (AiB (.bool (agV p b t)) w) := by
  have N0 := Lib.hid (fun h => agV_no (p := p) (b := b) (t := t) h)
  have N1 := Lib.hid (fun h => agV_last (p := p) (b := b) (t := t) h)
  generalize agV p b t = r at *
  unfold AiB
  have hb := Lib.hid ((Below.refl w.heap.size w).alloc (Nat.le_refl _) (.cells #[.int .i64 p, .int .i64 b, .int .i64 t] 24))
  go_enter Try.func12, Try.ntmps12
  go_wp2
  all_goals
    go_ret
    first
      | exact ⟨ret_bool (N1.out (by omega)), hb.out⟩
      | exact ⟨ret_bool (N0.out (by omega)), hb.out⟩
set_option maxRecDepth 100000 in
set_option maxHeartbeats 8000000 in
theorem rlok_any {A : Option Addr} {c : Nat} {L : List Int} {w : World} (h : SlI A c L w) (hn : L.length ≤ 9223372036854775807) (m : Int) : Calls Try.prog 36 #[.slice A L.length c, .int .i64 m] w fun e w' => e = .returned (.bool (agL L && decide ((L.length : Int) ≤ m))) ∧ w = w' := by
  have HV := Lib.hid (fun k (hk : k < L.length) => h.el hk)
  have HNO := Lib.hid (fun k (hk : k < L.length) (h : ¬ (1 ≤ L[k] ∧ L[k] ≤ 4096)) => agL_no hk h)
  have HYES := Lib.hid (fun h => agL_all L L.length h)
  obtain ⟨n, hn_⟩ : ∃ n, L.length = n := ⟨_, rfl⟩
  have HNN := Lib.hid hn_
  rw [hn_] at hn
  rw [hn_]
  clear h hn_
  generalize hr : agL L = r at *
  clear hr
  go_enter Try.func36, Try.ntmps36
  go_wp2_with fail
  go_loopw [5] (fun s5 wr => ∃ k : Nat, k ≤ n ∧ s5 = .int .i64 k ∧ Hid (∀ j (hj : j < L.length), j < k → 1 ≤ L[j] ∧ L[j] ≤ 4096) ∧ Hid (wr = w)) (fun s5 _ => n - (intOf s5).toNat)
  case atStart => exact ⟨0, Nat.zero_le _, rfl, Lib.hid (fun j _ hj => by omega), Lib.hid rfl⟩
  case round =>
    obtain ⟨k, hk, rfl, HN, HWW⟩ := hrel
    obtain rfl := HWW.out
    by_cases hlt : k < n
    · have hlt' : (k : Int) < n := by omega
      have hk0 : (0 : Int) ≤ k := by omega
      have hkq : k < L.length := by have := HNN.out; omega
      obtain ⟨bb, off, rfl, hbw, q0⟩ := HV.out k hkq
      have HN2 := Lib.hid (fun (h : 1 ≤ L[k] ∧ L[k] ≤ 4096) j (hj : j < L.length) (hjk : j < k + 1) => (by
        rcases Nat.lt_or_ge j k with h1 | h1
        · exact HN.out j hj h1
        · obtain rfl : j = k := by omega
          exact h : 1 ≤ L[j] ∧ L[j] ≤ 4096))
      have HX := Lib.hid (fun (h : ¬ (1 ≤ L[k] ∧ L[k] ≤ 4096)) => HNO.out k hkq h)
      generalize L[k] = g at *
      clear HV HNO HYES HN HNN
      by_cases h1 : g < 1
      · have hr := HX.out (by omega)
        subst hr
        clear HX HN2
        go_wp2
        go_ret
        exact ⟨rfl, rfl⟩
      · by_cases h2 : 4096 < g
        · have hr := HX.out (by omega)
          subst hr
          clear HX HN2
          go_wp2
          go_ret
          exact ⟨rfl, rfl⟩
        · have HN3 := Lib.hid (HN2.out (by omega))
          have h1' : 1 ≤ g := by omega
          have h2' : g ≤ 4096 := by omega
          clear HN2 HX h1 h2
          go_wp2
          go_roundw
          case rel => exact ⟨k + 1, by omega, by go_num, HN3, by first | exact Lib.hid rfl | exact Lib.hid trivial⟩
          case measure => simp [intOf]; omega
    · obtain rfl : k = n := by omega
      have hr := HYES.out fun j hj => HN.out j hj (by have := HNN.out; omega)
      subst hr
      clear HV HNO HYES HN HNN
      go_wp2
      go_ret
      exact ⟨by simp, rfl⟩
theorem agSE_cases (L : List Int) : ((agL L && decide ((L.length : Int) ≤ 32)) = false ∧ agSE L = 1) ∨ ((agL L && decide ((L.length : Int) ≤ 32)) = true ∧ ((L.length = 0 ∧ agSE L = 5) ∨ (L.length ≠ 0 ∧ agSE L = 0))) := by
  unfold agSE
  by_cases h : agL L = true ∧ L.length ≤ 32
  · right
    rw [if_pos h]
    refine ⟨by rw [h.1]; simp; omega, ?_⟩
    by_cases h0 : L.length = 0
    · exact .inl ⟨h0, by rw [if_pos h0]⟩
    · exact .inr ⟨h0, by rw [if_neg h0]⟩
  · left
    rw [if_neg h]
    refine ⟨?_, rfl⟩
    cases e : agL L
    · rfl
    · have : ¬ L.length ≤ 32 := fun h2 => h ⟨e, h2⟩
      simp; omega
set_option maxRecDepth 100000 in
set_option maxHeartbeats 8000000 in
theorem rsize_any {A : Option Addr} {c : Nat} {L : List Int} {w : World} (h : SlI A c L w) (hn : L.length ≤ 100000) : Calls Try.prog 24 #[.slice A L.length c] w fun e w' => e = .returned (.tuple #[.int .i64 (agSV L), .int .i64 (agSE L)]) ∧ w = w' := by
  have HK := Lib.hid (rlok_any h (by omega) 32)
  rcases agSE_cases L with ⟨h1, h2⟩ | ⟨h1, ⟨h0, h2⟩ | ⟨h0, h2⟩⟩
  · have e1 : agSV L = 0 := by unfold agSV; rw [h2]; rfl
    rw [h1] at HK
    rw [e1, h2]
    clear h1 h2 e1 h
    generalize L.length = n at *
    go_enter Try.func24, Try.ntmps24
    go_wp2_with fail
    (with_reducible refine HK.out.mono ?_); rintro e w1 ⟨rfl, rfl⟩
    go_wp2
    go_ret2
    exact ⟨rfl, rfl⟩
  · have e1 : agSV L = 0 := by unfold agSV; rw [h2]; rfl
    rw [h1] at HK
    rw [e1, h2]
    rw [h0] at HK ⊢
    clear h1 h2 e1 h
    go_enter Try.func24, Try.ntmps24
    go_wp2_with fail
    (with_reducible refine HK.out.mono ?_); rintro e w1 ⟨rfl, rfl⟩
    go_wp2
    go_ret2
    exact ⟨rfl, rfl⟩
  · have e1 : agSV L = agZ L := by unfold agSV; rw [if_pos h2]
    obtain ⟨g1, g2, _⟩ := agSE_zero.1 h2
    rw [h1] at HK
    rw [e1, h2]
    have HV := Lib.hid (fun k (hk : k < L.length) => h.el hk)
    have HNX := Lib.hid (fun k (hk : k < L.length) => agS_next hk)
    have HBD := Lib.hid (fun k (hk : k ≤ L.length) => agS_bd g1 k hk)
    have HEN := Lib.hid (show agZ L = 4 * ((L.length : Int) - 1) + agS L L.length by unfold agZ; rw [agS_all])
    have HS0 := Lib.hid (agS_zero L)
    obtain ⟨n, hn_⟩ : ∃ n, L.length = n := ⟨_, rfl⟩
    have HNN := Lib.hid hn_
    rw [hn_] at h0 hn g2 HK HEN
    rw [hn_]
    have hn0 : ((n : Int) == 0) = false := by simp; omega
    clear h1 h2 e1 h g1 hn_
    generalize agZ L = z at *
    generalize agS L = S at *
    have m1 : IntKind.i64.wrap ((n : Int) - 1) = n - 1 := IntWalk.i64_in _ (by omega)
    have m2 : IntKind.i64.wrap (4 * ((n : Int) - 1)) = 4 * ((n : Int) - 1) := IntWalk.i64_in _ (by omega)
    go_enter Try.func24, Try.ntmps24
    go_wp2_with fail
    (with_reducible refine HK.out.mono ?_); rintro e w1 ⟨rfl, rfl⟩
    go_wp2_with fail
    go_loopw [4, 5] (fun s4 s5 wr => ∃ k : Nat, k ≤ n ∧ s5 = .int .i64 k ∧ s4 = .int .i64 (4 * ((n : Int) - 1) + S k) ∧ Hid (wr = w)) (fun _ s5 _ => n - (intOf s5).toNat)
    case atStart => exact ⟨0, Nat.zero_le _, rfl, by rw [HS0.out, Int.add_zero], Lib.hid rfl⟩
    case round =>
      obtain ⟨k, hk, rfl, rfl, HWW⟩ := hrel
      obtain rfl := HWW.out
      by_cases hlt : k < n
      · have hlt' : (k : Int) < n := by omega
        have hk0 : (0 : Int) ≤ k := by omega
        have hkq : k < L.length := by have := HNN.out; omega
        obtain ⟨bb, off, rfl, hbw, q0⟩ := HV.out k hkq
        have hnx := HNX.out k hkq
        have hb1 := HBD.out k (by omega)
        have hb2 := HBD.out (k + 1) (by omega)
        generalize L[k] = g at *
        have m3 : IntKind.i64.wrap (4 * ((n : Int) - 1) + S k + g) = 4 * ((n : Int) - 1) + S (k + 1) := by rw [hnx, IntWalk.i64_in _ (by omega)]; omega
        clear HV HNX HBD HEN HS0 HNN hnx
        go_wp2
        go_roundw
        case rel => exact ⟨k + 1, by omega, by go_num, rfl, by first | exact Lib.hid rfl | exact Lib.hid trivial⟩
        case measure => simp [intOf]; omega
      · obtain rfl : k = n := by omega
        have hz := HEN.out
        subst hz
        clear HV HNX HBD HEN HS0 HNN
        go_wp2
        go_ret2
        exact ⟨rfl, rfl⟩
/-! ### Permitted -/
set_option maxRecDepth 100000 in
set_option maxHeartbeats 8000000 in
theorem rpermitted_any {A : Option Addr} {c : Nat} {L : List Int} {w : World} (h : SlI A c L w) (hn : L.length ≤ 100000) (p b t k o : Int) : Calls Try.prog 26 #[.slice A L.length c, .agg #[.int .i64 p, .int .i64 b, .int .i64 t], .agg #[.int .i64 k, .int .i64 o]] w (AiB (.bool (agP L p b t k o)) w) := by
  have hbA := (Below.refl w.heap.size w).alloc (Nat.le_refl _) (.cells #[.int .i64 p, .int .i64 b, .int .i64 t] 24)
  have hbB := hbA.alloc (by simp) (.cells #[.int .i64 k, .int .i64 o] 34)
  obtain ⟨wB, hwB⟩ : ∃ wB, (w.alloc (.cells #[.int .i64 p, .int .i64 b, .int .i64 t] 24)).alloc (.cells #[.int .i64 k, .int .i64 o] 34) = wB := ⟨_, rfl⟩
  have hfA : Whole wB w.heap.size 24 #[.int .i64 p, .int .i64 b, .int .i64 t] := hwB ▸ (Whole.fresh w _ _).alloc _
  have hfB : Whole wB (w.heap.size + 1) 34 #[.int .i64 k, .int .i64 o] := by
    have := Whole.fresh (w.alloc (.cells #[.int .i64 p, .int .i64 b, .int .i64 t] 24)) 34 #[.int .i64 k, .int .i64 o]
    rw [hwB] at this; simpa using this
  rw [hwB] at hbB
  have HK := Lib.hid (rsize_any (h.later hbB) hn)
  have HVC := Lib.hid (fun W => rvalidcaps_any p b t W)
  have HVR := Lib.hid (fun W => rvalidrate_any k o W)
  have HRD := Lib.hid (fun (W : World) (hb : Below wB.heap.size wB W) => (by
    have g1 := hfA.later hb
    have g2 := hfB.later hb
    exact ⟨(g1.read 0).trans rfl, (g1.read 1).trans rfl, (g1.read 2).trans rfl, (g2.read 0).trans rfl, (g2.read 1).trans rfl⟩ :
    W.cell? ⟨w.heap.size, 0, none⟩ = some (.int .i64 p) ∧ W.cell? ⟨w.heap.size, 1, none⟩ = some (.int .i64 b) ∧ W.cell? ⟨w.heap.size, 2, none⟩ = some (.int .i64 t) ∧ W.cell? ⟨w.heap.size + 1, 0, none⟩ = some (.int .i64 k) ∧ W.cell? ⟨w.heap.size + 1, 1, none⟩ = some (.int .i64 o)))
  have HB0 := Lib.hid hbB
  have hz := fun e => agZ_bd (l := L) e
  have hS : agSE L = 0 → agZ L = agSV L := fun e => by unfold agSV; rw [if_pos e]
  have HTM := Lib.hid (fun (z : Int) (h1 : aiV k o = true) (h2 : 0 ≤ z) (h3 : z ≤ 262144) (W : World) => (by
    have h9 := rtime_any k o z W
    have e1 : aiTV k o z = aiZ k o z := if_pos (aiOk_mk h1 h2 h3)
    rw [e1] at h9; exact h9 : Calls Try.prog 35 #[.agg #[.int .i64 k, .int .i64 o], .int .i64 z] W (AiB (.tuple #[.int .i64 (aiZ k o z), .int .i64 (aiTE k o z)]) W)))
  have HNO := Lib.hid (fun h => agP_no (l := L) (p := p) (b := b) (t := t) (k := k) (o := o) h)
  have HYES := Lib.hid (fun h => agP_yes (l := L) (p := p) (b := b) (t := t) (k := k) (o := o) h)
  clear hbA hfA hfB h
  generalize agP L p b t k o = r at *
  generalize agSV L = sv at *
  generalize agSE L = se at *
  generalize agZ L = z at *
  obtain ⟨n, hn_⟩ : ∃ n, L.length = n := ⟨_, rfl⟩
  rw [hn_] at hn HK HNO HYES ⊢
  clear hn_
  obtain ⟨cv, hcv⟩ : ∃ cv, agV p b t = cv := ⟨_, rfl⟩
  obtain ⟨rv, hrv⟩ : ∃ rv, aiV k o = rv := ⟨_, rfl⟩
  rw [hcv] at HVC HNO HYES
  rw [hrv] at HVR HNO HYES HTM
  unfold AiB at *
  obtain ⟨d0, d1, d2, d3, d4⟩ := HRD.out wB (Below.refl _ _)
  by_cases hse : se = 0
  · have hsz := hS hse
    have hzb := hz hse
    subst hse hsz
    clear hS hz
    cases cv
    · have hr := HNO.out (by simp)
      subst hr
      clear HNO HYES HTM hcv hrv HVR
      go_enter Try.func26, Try.ntmps26
      go_wp2_with fail
      (with_reducible refine HK.out.mono ?_); rintro e w1 ⟨rfl, rfl⟩
      go_wp2_with fail
      (with_reducible refine (HVC.out _).mono ?_); rintro e w1 ⟨rfl, hb⟩
      have HF := Lib.hid (HB0.out.trans (hb.mono HB0.out.size))
      clear hb
      go_wp2
      go_ret
      exact ⟨rfl, HF.out⟩
    · cases rv
      · have hr := HNO.out (by simp)
        subst hr
        clear HNO HYES HTM hcv hrv
        go_enter Try.func26, Try.ntmps26
        go_wp2_with fail
        (with_reducible refine HK.out.mono ?_); rintro e w1 ⟨rfl, rfl⟩
        go_wp2_with fail
        (with_reducible refine (HVC.out _).mono ?_); rintro e w1 ⟨rfl, hb⟩
        obtain ⟨d0, d1, d2, d3, d4⟩ := HRD.out w1 hb
        have HF := Lib.hid (HB0.out.trans (hb.mono HB0.out.size))
        clear hb
        go_wp2_with fail
        (with_reducible refine (HVR.out _).mono ?_); rintro e w2 ⟨rfl, hb⟩
        have HF := Lib.hid (HF.out.trans (hb.mono HF.out.size))
        clear hb
        go_wp2
        go_ret
        exact ⟨rfl, HF.out⟩
      · have hcases : ((p : Int) < n) ∨ (¬ (p < (n : Int)) ∧ b < z) ∨ ((n : Int) ≤ p ∧ z ≤ b) := by omega
        rcases hcases with h1 | ⟨h1, h2⟩ | ⟨h1, h2⟩
        · have hr := HNO.out (by simp; omega)
          subst hr
          clear HNO HYES HTM hcv hrv
          go_enter Try.func26, Try.ntmps26
          go_wp2_with fail
          (with_reducible refine HK.out.mono ?_); rintro e w1 ⟨rfl, rfl⟩
          go_wp2_with fail
          (with_reducible refine (HVC.out _).mono ?_); rintro e w1 ⟨rfl, hb⟩
          obtain ⟨d0, d1, d2, d3, d4⟩ := HRD.out w1 hb
          have HF := Lib.hid hb
          clear hb
          go_wp2_with fail
          (with_reducible refine (HVR.out _).mono ?_); rintro e w2 ⟨rfl, hb⟩
          have HF := Lib.hid (HF.out.trans (hb.mono HF.out.size))
          clear hb
          obtain ⟨d0, d1, d2, d3, d4⟩ := HRD.out w2 HF.out
          have HF2 := Lib.hid (HB0.out.trans (HF.out.mono HB0.out.size))
          go_wp2
          go_ret
          exact ⟨rfl, HF2.out⟩
        · have hr := HNO.out (by simp; omega)
          subst hr
          clear HNO HYES HTM hcv hrv
          have h1' : (n : Int) ≤ p := by omega
          clear h1
          go_enter Try.func26, Try.ntmps26
          go_wp2_with fail
          (with_reducible refine HK.out.mono ?_); rintro e w1 ⟨rfl, rfl⟩
          go_wp2_with fail
          (with_reducible refine (HVC.out _).mono ?_); rintro e w1 ⟨rfl, hb⟩
          obtain ⟨d0, d1, d2, d3, d4⟩ := HRD.out w1 hb
          have HF := Lib.hid hb
          clear hb
          go_wp2_with fail
          (with_reducible refine (HVR.out _).mono ?_); rintro e w2 ⟨rfl, hb⟩
          have HF := Lib.hid (HF.out.trans (hb.mono HF.out.size))
          clear hb
          obtain ⟨d0, d1, d2, d3, d4⟩ := HRD.out w2 HF.out
          have HF2 := Lib.hid (HB0.out.trans (HF.out.mono HB0.out.size))
          go_wp2
          go_ret
          exact ⟨rfl, HF2.out⟩
        · have hcb := agV_cases hcv
          have hr := HYES.out ⟨rfl, rfl, rfl, h1, h2⟩
          have HT := Lib.hid (HTM.out z rfl (by omega) (by omega))
          subst hr
          clear HNO HYES HTM hcv hrv hcb hzb
          generalize aiTE k o z = te at *
          generalize aiZ k o z = zz at *
          go_enter Try.func26, Try.ntmps26
          go_wp2_with fail
          (with_reducible refine HK.out.mono ?_); rintro e w1 ⟨rfl, rfl⟩
          go_wp2_with fail
          (with_reducible refine (HVC.out _).mono ?_); rintro e w1 ⟨rfl, hb⟩
          obtain ⟨d0, d1, d2, d3, d4⟩ := HRD.out w1 hb
          have HF := Lib.hid hb
          clear hb
          go_wp2_with fail
          (with_reducible refine (HVR.out _).mono ?_); rintro e w2 ⟨rfl, hb⟩
          have HF := Lib.hid (HF.out.trans (hb.mono HF.out.size))
          clear hb
          obtain ⟨d0, d1, d2, d3, d4⟩ := HRD.out w2 HF.out
          go_wp2_with fail
          (with_reducible refine (HT.out _).mono ?_); rintro e w3 ⟨rfl, hb⟩
          have HF := Lib.hid (HF.out.trans (hb.mono HF.out.size))
          clear hb
          obtain ⟨d0, d1, d2, d3, d4⟩ := HRD.out w3 HF.out
          have HF2 := Lib.hid (HB0.out.trans (HF.out.mono HB0.out.size))
          go_wp2
          go_ret
          exact ⟨rfl, HF2.out⟩
  · have hr := HNO.out (fun e => hse e.1)
    subst hr
    have hse' : (se != 0) = true := by simpa using hse
    clear HNO HYES HTM hcv hrv hse hS hz
    go_enter Try.func26, Try.ntmps26
    go_wp2_with fail
    (with_reducible refine HK.out.mono ?_); rintro e w1 ⟨rfl, rfl⟩
    go_wp2
    go_ret
    exact ⟨rfl, HB0.out⟩
end Go.Proofs.Ytcnpmbgeafkmlaa

