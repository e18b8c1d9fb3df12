/-
  Layer 6: contracts of Advance and of the reference's Advance. Every word; no other condition.
-/
import Derived.Test.YtimnndjegfiniaaBmMove
namespace Go.Proofs.Ytimnndjegfiniaa
open Go.ChangeShapes Go.WideShapes Go.ChangeAt Go.RowKit
set_option linter.unusedVariables false

/-- What Advance answers. -/
def AvAns (b x : Int) (w : World) (e : Ending) (w' : World) : Prop := e = .returned (.tuple #[.agg #[.int .i64 (avB b x), .int .u64 (avX b x)], .int .i64 (avN b x)]) ∧ Below w.heap.size w w'
set_option maxHeartbeats 2000000 in
theorem advance_any (b x : Int) (hx : Wd x) (w : World) : Calls Try.prog 21 #[.agg #[.int .i64 b, .int .u64 x]] w (AvAns b x w) := by
  have HV := fun w => valid_any b x w
  unfold AvAns
  rcases hb : isNum b with _ | _
  · obtain ⟨e1, e2, e3⟩ := av_no (x := x) hb
    rw [e1, e2, e3]
    rw [hb] at HV
    have HV := Lib.hid HV
    clear e1 e2 e3 hb
    go_enter Try.func21, Try.ntmps21
    go_wp2_with fail
    (with_reducible refine (HV.out _).mono ?_); rintro e w1 ⟨rfl, hb1⟩
    have H1 := Two.start hb1
    obtain ⟨c0, c1, d0, d1, z0, z1, y0, y1⟩ := H1.cells
    have HF := Lib.hid ((H1.res 0 (.int .i64 0)).res 1 (.int .u64 0)).2.2
    clear hb1 H1
    go_wp2
    exact bodyPost_ret (v := .tuple #[.agg #[.int .i64 0, .int .u64 0], .int .i64 0]) (by simp [results, Try.results21, go_sem, d0, d1]) rfl ⟨rfl, HF.out⟩
  · have HM := Lib.hid (fun k hk w => moved_any b x k hb hk hx w)
    have HA := Lib.hid (fun k hk => av_yes (x := x) hb (k := k) hk)
    rw [hb] at HV
    have HV := Lib.hid HV
    have HX := Lib.hid hx
    clear hb hx
    go_enter Try.func21, Try.ntmps21
    go_wp2_with fail
    (with_reducible refine (HV.out _).mono ?_); rintro e w1 ⟨rfl, hb1⟩
    have H1 := Two.start hb1
    obtain ⟨c0, c1, d0, d1, z0, z1, y0, y1⟩ := H1.cells
    have H1 := Lib.hid H1
    clear hb1
    go_wp2
    go_loop [4, 5] (fun s r => ∃ k : Nat, s = .int .i64 k ∧ r = .int .u64 (x / 2 ^ k) ∧ Hid (Ones x k)) (fun s _ => 64 - (intOf s).toNat)
    case atStart => exact ⟨0, rfl, by rw [shr_none], Ones.zero x⟩
    case round =>
      obtain ⟨k, rfl, rfl, HO⟩ := hrel
      have hwd := shr_wd HX.out k
      have ha := and_low hwd
      have hn := Lib.hid (shr_next x k)
      obtain ⟨X0, X1⟩ := hwd
      have hk := HO.out.1
      rcases (by omega : x / 2 ^ k % 2 = 1 ∨ x / 2 ^ k % 2 = 0) with h | h
      · have HO' := Lib.hid (HO.out.next HX.out h)
        have hk' := HO.out.lt HX.out h
        rw [h] at ha
        clear h HO
        go_wp2
        go_round
        case rel => exact ⟨k + 1, by go_num, by rw [← hn.out], HO'.out⟩
        case measure => simp [intOf]; omega
      · obtain ⟨e1, e2, e3⟩ := HA.out k (adv_is HX.out HO.out h)
        have HE := Lib.hid (And.intro e1 (And.intro e2 e3))
        have HM' := Lib.hid (HM.out k (by omega))
        rw [h] at ha
        clear h HO e1 e2 e3
        go_wp2_with fail
        (with_reducible refine (HM'.out _).mono ?_); rintro e w2 ⟨rfl, hb2⟩
        have H2 := H1.out.later hb2
        clear c0 c1 d0 d1 z0 z1 y0 y1 H1 hb2
        obtain ⟨c0, c1, d0, d1, z0, z1, y0, y1⟩ := H2.cells
        have HF := Lib.hid ((H2.res 0 (.int .i64 ((b + k) % 65536))).res 1 (.int .u64 (x / 2 ^ k))).2.2
        clear H2
        go_wp2
        exact bodyPost_ret (v := .tuple #[.agg #[.int .i64 ((b + k) % 65536), .int .u64 (x / 2 ^ k)], .int .i64 k]) (by simp [results, Try.results21, go_sem, d0, d1]) rfl ⟨by rw [HE.out.1, HE.out.2.1, HE.out.2.2], HF.out⟩
set_option maxRecDepth 100000 in
set_option maxHeartbeats 2000000 in
theorem refAdvance_any (b x : Int) (hx : Wd x) (w : World) : Calls Try.prog 35 #[.agg #[.int .i64 b, .int .u64 x]] w (AvAns b x w) := by
  have HV := fun w => validMap_any b x w
  unfold AvAns
  rcases hb : isNum b with _ | _
  · obtain ⟨e1, e2, e3⟩ := av_no (x := x) hb
    rw [e1, e2, e3]
    rw [hb] at HV
    have HV := Lib.hid HV
    clear e1 e2 e3 hb
    go_enter Try.func35, Try.ntmps35
    go_wp2_with fail
    (with_reducible refine (HV.out _).mono ?_); rintro e w1 ⟨rfl, hb1⟩
    have H1 := Two.start hb1
    obtain ⟨c0, c1, d0, d1, z0, z1, y0, y1⟩ := H1.cells
    have HF := Lib.hid ((H1.res 0 (.int .i64 0)).res 1 (.int .u64 0)).2.2
    clear hb1 H1
    go_wp2
    exact bodyPost_ret (v := .tuple #[.agg #[.int .i64 0, .int .u64 0], .int .i64 0]) (by simp [results, Try.results35, go_sem, d0, d1]) rfl ⟨rfl, HF.out⟩
  · have HA := Lib.hid (fun k hk => av_yes (x := x) hb (k := k) hk)
    obtain ⟨b0, b1⟩ := isNum_bd hb
    have hb0 : b % 65536 = b := by omega
    have HB := Lib.hid (And.intro b0 b1)
    rw [hb] at HV
    have HV := Lib.hid HV
    have HX := Lib.hid hx
    clear hb hx b0 b1
    go_enter Try.func35, Try.ntmps35
    go_wp2_with fail
    (with_reducible refine (HV.out _).mono ?_); rintro e w1 ⟨rfl, hb1⟩
    have H1 := Two.start hb1
    have H1 := Lib.hid H1
    have hb0 := Lib.hid hb0
    clear hb1
    go_wp2
    go_loopw [4] (fun s wr => ∃ (k : Nat) (B : Int), s = .int .i64 k ∧ Hid ((b + k) % 65536 = B) ∧ Hid (Ones x k) ∧ Hid (Two w wr 32 #[.int .i64 B, .int .u64 (x / 2 ^ k)] #[.int .i64 0, .int .u64 0])) (fun s _ => 64 - (intOf s).toNat)
    case atStart => exact ⟨0, b, rfl, Lib.hid (by have := hb0.out; omega), Ones.zero x, (by rw [shr_none]; exact H1.out)⟩
    case round =>
      obtain ⟨k, B, rfl, hB, HO, HT⟩ := hrel
      have hwd := shr_wd HX.out k
      have hn := Lib.hid (shr_next x k)
      obtain ⟨X0, X1⟩ := hwd
      obtain ⟨B0, B1⟩ : 0 ≤ B ∧ B < 65536 := by have := hB.out; omega
      obtain ⟨c0, c1, d0, d1, z0, z1, y0, y1⟩ := HT.out.cells
      have hk := HO.out.1
      rcases (by omega : x / 2 ^ k % 2 = 1 ∨ x / 2 ^ k % 2 = 0) with h | h
      · have HO' := Lib.hid (HO.out.next HX.out h)
        have hk' := HO.out.lt HX.out h
        have HT' := Lib.hid ((HT.out.arg 1 (.int .u64 (x / 2 ^ k / 2))).arg 0 (.int .i64 ((B + 1) % 65536)))
        have hB' : Hid ((b + ((k + 1 : Nat) : Int)) % 65536 = (B + 1) % 65536) := Lib.hid (by have := hB.out; omega)
        clear HO HT H1 hB
        go_wp2
        go_roundw
        case rel => exact ⟨k + 1, _, by go_num, hB', HO', by rw [← hn.out]; exact HT'.out⟩
        case measure => simp [intOf]; omega
      · obtain ⟨e1, e2, e3⟩ := HA.out k (adv_is HX.out HO.out h)
        rw [hB.out] at e2
        have HE := Lib.hid (And.intro e1 (And.intro e2 e3))
        have HF := Lib.hid ((HT.out.res 0 (.int .i64 B)).res 1 (.int .u64 (x / 2 ^ k))).2.2
        clear HO e1 e2 e3 HT H1 hB
        go_wp2
        exact bodyPost_ret (v := .tuple #[.agg #[.int .i64 B, .int .u64 (x / 2 ^ k)], .int .i64 k]) (by simp [results, Try.results35, go_sem, d0, d1]) rfl ⟨by rw [HE.out.1, HE.out.2.1, HE.out.2.2], HF.out⟩
end Go.Proofs.Ytimnndjegfiniaa

