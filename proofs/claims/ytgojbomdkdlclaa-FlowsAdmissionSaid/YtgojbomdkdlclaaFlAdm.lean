/-
  Layer 10: the walk of the statement on admission (FlowsAdmission). Every input; no condition.
-/
import Derived.Test.YtgojbomdkdlclaaFlKeep
namespace Go.Proofs.Ytgojbomdkdlclaa
open Go.ChangeShapes Go.WideShapes Go.ChangeAt Go.RowKit
set_option linter.unusedVariables false

theorem tot_new {t : Tb} (h : TbOk t) (s w : Int) : ({ t with F := t.F ++ [newF t s w], G := t.G ++ [false] } : Tb).tot = t.tot + w := by
  unfold Tb.tot; rw [tot_snoc _ _ _ _ h.len]; rfl
/-- A flow is asked for at station 0, which is there. -/
theorem adm_cases {t : Tb} (h : TbOk t) (hs : t.S.length = 1) (hf : t.F.length < 32) {w : Int} (w1 : 1 ≤ w) (w2 : w ≤ 16) :
    (t.cap < t.tot + w ∧ afE t 0 w = 12 ∧ afT t 0 w = t) ∨ (¬ t.cap < t.tot + w ∧ afE t 0 w = 0 ∧ (afT t 0 w).tot = t.tot + w ∧ (afT t 0 w).cap = t.cap ∧ (afT t 0 w).S.length = 1 ∧ (afT t 0 w).F.length = t.F.length + 1) := by
  have h1 : hsB t 0 = true := by unfold hsB; rw [hs]; rfl
  have h2 : gwB w = true := by unfold gwB; simp; omega
  by_cases h3 : t.cap < t.tot + w
  · obtain ⟨e1, _, e2⟩ := af_12 h1 h2 (by omega) h3
    exact .inl ⟨h3, e1, e2⟩
  · obtain ⟨e1, _, e2⟩ := af_0 h1 h2 (by omega) h3
    refine .inr ⟨h3, e1, ?_, ?_, ?_, ?_⟩
    · rw [e2]; exact tot_new h 0 w
    · rw [e2]
    · rw [e2]; exact hs
    · rw [e2]; simp
theorem rm_shape (t : Tb) (f : Int) : (rmT t f).cap = t.cap ∧ (rmT t f).S = t.S ∧ (rmT t f).F = t.F := by
  unfold rmT; split <;> exact ⟨rfl, rfl, rfl⟩
set_option maxRecDepth 100000 in
set_option maxHeartbeats 8000000 in
theorem walkAdmission (a : Option Addr) (len cap : Nat) (w : World) (he : Elems w.heap.size a len w) :
    Calls Try.prog 4 #[.slice a len cap] w fun e w' => e = .returned (.bool true) ∧ Below w.heap.size w w' := by
  have hg := Has.new (cap := cap) he
  have HG := Lib.hid (has_next w.heap.size a len cap 0 40 w _ hg (by omega) (by omega) (by omega))
  clear he hg
  go_enter Try.func4, Try.ntmps4
  go_wp2_with (go_at_call 7; (with_reducible refine (new_any a len cap _).mono ?_); rintro e w' ⟨rfl, rfl⟩)
  (with_reducible refine HG.out.mono ?_)
  rintro e w1 ⟨r, r0, r1, rfl, hg1, _⟩
  obtain ⟨N, eN⟩ : ∃ N : Int, 1 + r = N := ⟨_, rfl⟩
  have hN : 1 ≤ N ∧ N ≤ 40 := by omega
  have HN := Lib.hid (fun W => pnew_any (c := N) (r := 1) (by omega) W)
  have HG1 := Lib.hid hg1
  clear hg1 HG
  go_wp2_with fail
  (with_reducible refine (HN.out _).mono ?_)
  intro e w2 ha
  obtain ⟨H, rfl, h2⟩ := GP.new HG1.out ha
  generalize w1.heap.size = C at h2
  have hc := h2.call (fun S hS => addStation_any hS ⟨#[97]⟩ 1 0)
  have hS1 : (asT ⟨N, 1, [], [], []⟩ ⟨#[97]⟩ 1 0).cap = N ∧ (asT ⟨N, 1, [], [], []⟩ ⟨#[97]⟩ 1 0).S.length = 1 ∧ (asT ⟨N, 1, [], [], []⟩ ⟨#[97]⟩ 1 0).F.length = 0 := by
    have e : asE ⟨N, 1, [], [], []⟩ ⟨#[97]⟩ 1 0 = 0 := by
      have k : asE ⟨1, 1, [], [], []⟩ ⟨#[97]⟩ 1 0 = 0 := by decide +kernel
      exact k
    unfold asT; rw [if_pos e]; exact ⟨rfl, rfl, rfl⟩
  generalize asT ⟨N, 1, [], [], []⟩ ⟨#[97]⟩ 1 0 = t1 at *
  have HC := Lib.hid hc
  clear ha h2 HN HG1 hc
  go_wp2_with fail
  (with_reducible refine HC.out.mono ?_)
  rintro e w3 ⟨rfl, h3⟩
  have H3 := Lib.hid h3
  clear h3 HC
  go_wp2_with fail
  go_loopw [7] (fun i wr => ∃ (j q : Nat) (t : Tb), j ≤ 30 ∧ i = .int .i64 j ∧ q ≤ 1 + 3 * j ∧ t.cap = N ∧ t.S.length = 1 ∧ t.F.length ≤ j ∧ Hid (GP w.heap.size a len cap q w C H t wr)) (fun i _ => 30 - (intOf i).toNat)
  case atStart => exact ⟨0, 0 + 1, t1, Nat.zero_le _, rfl, by omega, hS1.1, hS1.2.1, by omega, H3⟩
  case round =>
    obtain ⟨j, q, t, hj, rfl, hq, t2, t3, t4, HJ⟩ := hrel
    clear H3 hS1
    by_cases hlt : j < 30
    · have hlt' : (j : Int) < 30 := by omega
      have HX := Lib.hid (HJ.out.ask (fun S hS => total_any hS))
      have hok := Lib.hid HJ.out.ok
      have hsum := HJ.out.ok.sums
      have htc := HJ.out.ok.tot
      rw [t2] at htc
      clear HJ
      go_wp2_with fail
      (with_reducible refine HX.out.mono ?_)
      rintro e w4 ⟨rfl, h4⟩
      have HX := Lib.hid (h4.weight (by omega))
      clear h4
      go_wp2_with fail
      (with_reducible refine HX.out.mono ?_)
      rintro e w5 ⟨x, x0, x1, rfl, h5⟩
      have HX := Lib.hid (h5.next (n := 3) (by omega) (by omega) (by omega))
      clear h5
      go_wp2_with fail
      (with_reducible refine HX.out.mono ?_)
      rintro e w6 ⟨s, s0, s1, rfl, h6⟩
      clear HX
      have hca := adm_cases hok.out t3 (by omega) x0 x1
      rw [t2] at hca
      obtain ⟨T, hT⟩ : ∃ T, t.tot = T := ⟨_, rfl⟩
      rw [hT] at hca htc hsum
      by_cases hs : s = 2
      · subst hs
        have HX := Lib.hid (h6.next (n := (j : Int) + 1) (by omega) (by omega) (by omega))
        clear h6 hca hsum htc x0 x1
        go_wp2_with fail
        (with_reducible refine HX.out.mono ?_)
        rintro e w7 ⟨f, f0, f1, rfl, h7⟩
        have HX := Lib.hid (h7.call (fun S hS => remove_any hS f))
        obtain ⟨k1, k2, k3⟩ := rm_shape t f
        rw [← k1] at t2
        rw [← k2] at t3
        rw [← k3] at t4
        generalize rmT t f = t' at *
        clear h7 k1 k2 k3 f0 f1
        go_wp2_with fail
        (with_reducible refine HX.out.mono ?_)
        rintro e w8 ⟨rfl, h8⟩
        have HT := Lib.hid (h8.ask (fun S hS => total_any hS))
        have hle := h8.ok.tot
        have hge := h8.ok.sums.1
        rw [t2] at hle
        obtain ⟨T2, hT2⟩ : ∃ T2, t'.tot = T2 := ⟨_, rfl⟩
        rw [hT2] at hle hge HT
        have d1 : decide (N < T2) = false := decide_eq_false (by omega)
        have d2 : decide (T2 < 0) = false := decide_eq_false (by omega)
        clear h8 HX
        go_wp2_with fail
        (with_reducible refine HT.out.mono ?_)
        rintro e w9 ⟨rfl, h9⟩
        have HX := Lib.hid (h9.ask (fun S hS => total_any hS))
        rw [hT2] at HX
        clear h9 HT
        go_wp2_with fail
        (with_reducible refine HX.out.mono ?_)
        rintro e w10 ⟨rfl, h10⟩
        have H10 := Lib.hid h10
        clear h10 HX
        go_wp2
        go_roundw
        case rel => exact ⟨j + 1, q + 1 + 1 + 1, t', by omega, by go_num, by omega, t2, t3, by omega, H10⟩
        case measure => simp [intOf]; omega
      · have HA := h6.call (fun S hS => addFlow_any hS 0 x)
        generalize afX t 0 x = vx at HA
        have wr : IntKind.i64.wrap (T + x) = T + x := IntWalk.i64_in _ (by omega)
        have g1 : (T + x != T + x) = false := by simp
        have g2 : (T != T) = false := by simp
        rcases hca with ⟨p1, p2, p3⟩ | ⟨p1, p2, p3, p4, p5, p6⟩
        · rw [p2, p3] at HA
          have HA := Lib.hid HA
          have p1' : decide (N < T + x) = true := decide_eq_true p1
          have d1 : decide (N < T) = false := decide_eq_false (by omega)
          have d2 : decide (T < 0) = false := decide_eq_false (by omega)
          clear h6 p1 p2 p3 htc hsum x0 x1
          rcases (by omega : s = 0 ∨ s = 1) with rfl | rfl
          all_goals
            go_wp2_with fail
            (with_reducible refine HA.out.mono ?_)
            rintro e w7 ⟨rfl, h7⟩
            have HT := Lib.hid (h7.ask (fun S hS => total_any hS))
            rw [hT] at HT
            clear h7
            go_wp2_with fail
            (with_reducible refine HT.out.mono ?_)
            rintro e w8 ⟨rfl, h8⟩
            have HT := Lib.hid (h8.ask (fun S hS => total_any hS))
            rw [hT] at HT
            clear h8
            go_wp2_with fail
            (with_reducible refine HT.out.mono ?_)
            rintro e w9 ⟨rfl, h9⟩
            have HT := Lib.hid (h9.ask (fun S hS => total_any hS))
            rw [hT] at HT
            clear h9
            go_wp2_with fail
            (with_reducible refine HT.out.mono ?_)
            rintro e w10 ⟨rfl, h10⟩
            have H10 := Lib.hid h10
            clear h10 HT
            go_wp2
            go_roundw
            case rel => exact ⟨j + 1, q + 1 + 1, t, by omega, by go_num, by omega, t2, t3, by omega, H10⟩
            case measure => simp [intOf]; omega
        · rw [p2] at HA
          generalize afT t 0 x = t' at *
          have HA := Lib.hid HA
          have p1' : decide (N < T + x) = false := decide_eq_false p1
          have d2 : decide (T + x < 0) = false := decide_eq_false (by omega)
          have t2' : t'.cap = N := p4
          clear h6 p1 p2 p4 htc hsum x0 x1
          rcases (by omega : s = 0 ∨ s = 1) with rfl | rfl
          all_goals
            go_wp2_with fail
            (with_reducible refine HA.out.mono ?_)
            rintro e w7 ⟨rfl, h7⟩
            have HT := Lib.hid (h7.ask (fun S hS => total_any hS))
            rw [p3] at HT
            clear h7
            go_wp2_with fail
            (with_reducible refine HT.out.mono ?_)
            rintro e w8 ⟨rfl, h8⟩
            have HT := Lib.hid (h8.ask (fun S hS => total_any hS))
            rw [p3] at HT
            clear h8
            go_wp2_with fail
            (with_reducible refine HT.out.mono ?_)
            rintro e w9 ⟨rfl, h9⟩
            have HT := Lib.hid (h9.ask (fun S hS => total_any hS))
            rw [p3] at HT
            clear h9
            go_wp2_with fail
            (with_reducible refine HT.out.mono ?_)
            rintro e w10 ⟨rfl, h10⟩
            have H10 := Lib.hid h10
            clear h10 HT
            go_wp2
            go_roundw
            case rel => exact ⟨j + 1, q + 1 + 1, t', by omega, by go_num, by omega, t2', p5, by omega, H10⟩
            case measure => simp [intOf]; omega
    · obtain rfl : j = 30 := by omega
      have HW := Lib.hid (fun w => awake10_any w)
      unfold Quiet at HW
      have HB := Lib.hid HJ.out.bel
      clear HJ
      go_wp2_with fail
      (with_reducible refine (HW.out _).mono ?_); rintro e w4 ⟨rfl, hb⟩
      have HF := Lib.hid (HB.out.trans (hb.mono HB.out.size))
      clear hb
      go_wp2
      go_ret
      exact ⟨rfl, HF.out⟩
end Go.Proofs.Ytgojbomdkdlclaa

