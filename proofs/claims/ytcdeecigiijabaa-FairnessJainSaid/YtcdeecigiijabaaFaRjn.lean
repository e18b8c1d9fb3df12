/-
  Layer 14: the reference's Jain. Written by gen_farjn.py.
-/
import Derived.Test.YtcdeecigiijabaaFaJn
namespace Go.Proofs.Ytcdeecigiijabaa
open Go.ChangeShapes Go.WideShapes Go.ChangeAt Go.RowKit
set_option linter.unusedVariables false

theorem wdC_start (L : List Sp) (n : Nat) : wdC (((0 : Nat) : Int) * sqK L n) = #[.int .u64 0, .int .u64 0] := by unfold wdC; rw [show ((0 : Nat) : Int) = 0 from rfl, Int.zero_mul]; rfl
theorem sq_inner (L : List Sp) (k n : Nat) : ((k : Int)) * sqK L n + sqK L 0 = (k : Int) * sqK L n := by rw [show sqK L 0 = 0 from rfl, Int.add_zero]
theorem sq_outer (L : List Sp) (k n : Nat) : (k : Int) * sqK L n + sqK L n = ((k + 1 : Nat) : Int) * sqK L n := by rw [show ((k + 1 : Nat) : Int) = (k : Int) + 1 by omega, Int.add_mul, Int.one_mul]
set_option maxRecDepth 100000 in
set_option maxHeartbeats 8000000 in
theorem rjain_any (A : Option Addr) (c : Nat) (L : List Sp) (L1 B1 : Nat) (w : World) (hB1 : B1 ≤ w.heap.size) (hn : L.length ≤ 100000) (ha : SrAt csP 3 w L1 B1 A L) :
    Calls Try.prog 29 #[.slice A L.length c] w (Calm (.tuple #[aggW (jaN L), aggW (jaD L), .int .i64 (ckE L 1)]) w) := by
  have HC := fun (W : World) (hb : Below w.heap.size w W) => rsamples_any A c L L1 B1 W (Nat.le_trans hB1 hb.size) hn (ha.below hb hB1)
  have hb2 : Below w.heap.size w ((w.alloc (.cells #[.int .u64 0, .int .u64 0] 37)).alloc (.cells #[.int .u64 0, .int .u64 0] 37)) := ((Below.refl w.heap.size w).alloc (Nat.le_refl _) _).alloc (by simp) _
  have HC := HC _ hb2
  have HZ := Lib.hid (two_zero 37 #[.int .u64 0, .int .u64 0] w)
  clear hb2
  cases hv : vsB L
  · have hE := ck_bad (n := 1) hv
    obtain ⟨e1, e2⟩ := ja_no (L := L) (by rw [hE]; decide)
    rw [hv] at HC
    rw [e1, e2, hE]
    have HC := Lib.hid HC
    clear e1 e2 ha hE hv
    unfold Calm at *
    go_enter Try.func29, Try.ntmps29
    go_wp2_with fail
    (with_reducible refine HC.out.mono ?_); rintro e w1 ⟨rfl, hb⟩
    obtain ⟨hw2, hw3, hbw⟩ := HZ.out w1 hb
    have d0 := hw2.read 0
    have d1 := hw2.read 1
    have d2 := hw3.read 0
    have d3 := hw3.read 1
    have z0 := hw2.free 0
    have z1 := hw2.free 1
    have z2 := hw3.free 0
    have z3 := hw3.free 1
    simp at d0 d1 d2 d3
    have HEND := Lib.hid (jerr_end (p1 := .int .u64 0) (p0 := .int .u64 0) (q1 := .int .u64 0) (q0 := .int .u64 0) hbw hw2 hw3)
    clear hb hw2 hw3 hbw HC HZ
    go_wp2
    obtain ⟨hW2, hW3, hB⟩ := HEND.out
    clear HEND
    generalize (((w1.setCell ⟨w.heap.size, 0, none⟩ (.int .u64 0)).setCell ⟨w.heap.size, 1, none⟩ (.int .u64 0)).setCell ⟨w.heap.size + 1, 0, none⟩ (.int .u64 0)).setCell ⟨w.heap.size + 1, 1, none⟩ (.int .u64 0) = wE at *
    have r0 := hW2.read 0
    have r1 := hW2.read 1
    have r2 := hW3.read 0
    have r3 := hW3.read 1
    simp at r0 r1 r2 r3
    exact bodyPost_ret (v := .tuple #[.agg #[.int .u64 0, .int .u64 0], .agg #[.int .u64 0, .int .u64 0], .int .i64 1]) (by simp [results, Try.results29, go_sem, r0, r1, r2, r3]) rfl ⟨rfl, hB⟩
  by_cases h1 : L.length = 0
  · have hE := ck_few (n := 1) hv (by omega)
    obtain ⟨e1, e2⟩ := ja_no (L := L) (by rw [hE]; decide)
    rw [hv] at HC
    rw [e1, e2, hE]
    have h1' : ((L.length : Int) == 0) = true := by simp [h1]
    rw [h1] at h1' HC ⊢
    have HC := Lib.hid HC
    clear e1 e2 ha hE hv
    unfold Calm at *
    go_enter Try.func29, Try.ntmps29
    go_wp2_with fail
    (with_reducible refine HC.out.mono ?_); rintro e w1 ⟨rfl, hb⟩
    obtain ⟨hw2, hw3, hbw⟩ := HZ.out w1 hb
    have d0 := hw2.read 0
    have d1 := hw2.read 1
    have d2 := hw3.read 0
    have d3 := hw3.read 1
    have z0 := hw2.free 0
    have z1 := hw2.free 1
    have z2 := hw3.free 0
    have z3 := hw3.free 1
    simp at d0 d1 d2 d3
    have HEND := Lib.hid (jerr_end (p1 := .int .u64 0) (p0 := .int .u64 0) (q1 := .int .u64 0) (q0 := .int .u64 0) hbw hw2 hw3)
    clear hb hw2 hw3 hbw HC HZ
    go_wp2
    obtain ⟨hW2, hW3, hB⟩ := HEND.out
    clear HEND
    generalize (((w1.setCell ⟨w.heap.size, 0, none⟩ (.int .u64 0)).setCell ⟨w.heap.size, 1, none⟩ (.int .u64 0)).setCell ⟨w.heap.size + 1, 0, none⟩ (.int .u64 0)).setCell ⟨w.heap.size + 1, 1, none⟩ (.int .u64 0) = wE at *
    have r0 := hW2.read 0
    have r1 := hW2.read 1
    have r2 := hW3.read 0
    have r3 := hW3.read 1
    simp at r0 r1 r2 r3
    exact bodyPost_ret (v := .tuple #[.agg #[.int .u64 0, .int .u64 0], .agg #[.int .u64 0, .int .u64 0], .int .i64 5]) (by simp [results, Try.results29, go_sem, r0, r1, r2, r3]) rfl ⟨rfl, hB⟩
  · have hE := ck_ok (n := 1) hv (by omega)
    obtain ⟨hvs, h32⟩ := vs_yes hv
    obtain ⟨e1, e2⟩ := ja_yes hE
    rw [hv] at HC
    rw [hE, e1, e2]
    obtain ⟨bb, off, rfl, -⟩ := ha.sp (k := 0) (by omega)
    obtain ⟨N, hN⟩ : ∃ N, L.length = N := ⟨_, rfl⟩
    have HTA := Lib.hid (fun i (hi : i < L.length) (W : World) (hb : Below w.heap.size w W) => two_at ha hB1 hi hi rfl W hb)
    have HSV := Lib.hid (fun i (hi : i < L.length) (W : World) => rservice_any L[i] (hvs i hi) W)
    have HSB := Lib.hid (fun i (hi : i < L.length) => (And.intro (sv_bd (hvs i hi)) (x_bd (hvs i hi))))
    have HSM := Lib.hid (fun k => smK_bd hvs h32 k)
    have HSQ := Lib.hid (fun k => sqK_bd hvs h32 k)
    have HNX := Lib.hid (fun k (hk : k < L.length) => And.intro (sm_next hk) (sq_next hk))
    have HN0 := Lib.hid hN
    rw [hN] at HC
    rw [show (Value.slice (some ⟨bb, off, none⟩) L.length c) = .slice (some ⟨bb, off, none⟩) N c by rw [hN]]
    rw [hN]
    have hN1 : ((N : Int) == 0) = false := by simp; omega
    have hN32 : N ≤ 32 := by omega
    have HC := Lib.hid HC
    clear hv hvs e1 e2 hE ha hN h32 h1
    unfold Calm aggSp at *
    go_enter Try.func29, Try.ntmps29
    go_wp2_with fail
    (with_reducible refine HC.out.mono ?_); rintro e w1 ⟨rfl, hb⟩
    obtain ⟨hw2, hw3, hbw⟩ := HZ.out w1 hb
    have HW2 := Lib.hid hw2
    have HW3 := Lib.hid hw3
    have HBW := Lib.hid hbw
    obtain ⟨g, hg⟩ : ∃ g, w1.heap.size = g := ⟨_, rfl⟩
    have hgt : w.heap.size + 1 < g := by rw [← hg]; exact hw3.size_lt
    have HGT := Lib.hid hgt
    have HLP := Lib.hid (show Whole (w1.alloc (.cells #[.int .u64 0, .int .u64 0] 37)) g 37 (wdC (((0 : Nat) : Int) * sqK L N)) ∧ Below g w1 (w1.alloc (.cells #[.int .u64 0, .int .u64 0] 37)) from
      ⟨by rw [wdC_start, ← hg]; exact Whole.fresh _ _ _, (Below.refl _ _).alloc (by omega) _⟩)
    clear hb hw2 hw3 hbw HC HZ hgt
    go_wp2_with fail
    clear hg
    go_loopw [5, 7] (fun s5 s7 wr => ∃ k : Nat, k ≤ N ∧ s7 = .int .i64 k ∧ s5 = .int .u64 (smK L k) ∧ Hid (Whole wr g 37 (wdC ((k : Int) * sqK L N)) ∧ Below g w1 wr)) (fun _ s7 _ => N - (intOf s7).toNat)
    case atStart => exact ⟨0, by omega, rfl, rfl, HLP⟩
    case round =>
      obtain ⟨k, hk, rfl, rfl, HL⟩ := hrel
      clear HLP
      by_cases hlt : k < N
      · have hlt' : (k : Int) < N := by omega
        have hk32 : k ≤ 32 := by omega
        have kL : k < L.length := by have := HN0.out; omega
        have HLI := Lib.hid (show Whole wr g 37 (wdC ((k : Int) * sqK L N + sqK L 0)) ∧ Below g w1 wr from ⟨by rw [sq_inner]; exact HL.out.1, HL.out.2⟩)
        clear HL
        go_wp2_with fail
        obtain ⟨wo, rfl⟩ : ∃ wo : World, wo = wr := ⟨_, rfl⟩
        go_loopw [8] (fun s8 wr => ∃ i : Nat, i ≤ N ∧ s8 = .int .i64 i ∧ Hid (Whole wr g 37 (wdC ((k : Int) * sqK L N + sqK L i)) ∧ Below g w1 wr)) (fun s8 _ => N - (intOf s8).toNat)
        case atStart => exact ⟨0, by omega, rfl, HLI⟩
        case round =>
          obtain ⟨i, hi, rfl, HL⟩ := hrel
          clear HLI
          have hbwr : Below w.heap.size w wr := HBW.out.trans (HL.out.2.mono (by have := HGT.out; omega))
          by_cases hlt2 : i < N
          · have hlt2' : (i : Int) < N := by omega
            have iL : i < L.length := by have := HN0.out; omega
            obtain ⟨d0, d1, d2, -⟩ := HTA.out i iL wr hbwr
            have hsv := HSV.out i iL
            obtain ⟨⟨v0, v1⟩, x0, x1⟩ := HSB.out i iL
            obtain ⟨hsm, hsq⟩ := HNX.out i iL
            obtain ⟨s, hs⟩ : ∃ s, L[i] = s := ⟨_, rfl⟩
            rw [hs] at d0 d1 d2 hsv v0 v1 x0 x1 hsm hsq
            obtain ⟨x, hxe⟩ : ∃ x, xI s = x := ⟨_, rfl⟩
            rw [hxe] at x0 x1 hsm hsq
            unfold xI at hxe
            obtain ⟨sv, hsve⟩ : ∃ v, svI s = v := ⟨_, rfl⟩
            rw [hsve] at hsv v0 v1 hxe
            obtain ⟨s0, s1, s2⟩ := s
            simp only at d0 d1 d2 hsv
            have hdv : IntKind.i64.wrap (Int.tdiv sv 1024) = x := by rw [Int.tdiv_eq_ediv_of_nonneg v0, hxe]; exact IntWalk.i64_in _ (by omega)
            have hcv2 : IntKind.u64.wrap x = x := IntWalk.u64_in _ (by omega)
            have hq1 := mulN (B := 73104335549675162598835200) hk32 (HSQ.out N).1 (HSQ.out N).2
            have hqi := HSQ.out i
            have hqj := HSQ.out (i + 1)
            have hxx : 0 ≤ x * x := Int.mul_nonneg x0 x0
            obtain ⟨A, hA⟩ : ∃ A, (k : Int) * sqK L N + sqK L i = A := ⟨_, rfl⟩
            have hAB : A + x * x = (k : Int) * sqK L N + sqK L (i + 1) := by rw [hsq, ← hA]; omega
            have hA0 : 0 ≤ A := by omega
            have hA1 : A + x * x < 340282366920938463463374607431768211456 := by omega
            obtain ⟨t1, t2, t3⟩ := w_sum hA0 hxx hA1
            obtain ⟨⟨u0, u1⟩, u2, u3⟩ := wd_bd hxx (by omega)
            obtain ⟨⟨y0, y1⟩, y2, y3⟩ := wd_bd (V := A + x * x) (by omega) hA1
            have HMU := fun W => rmul_w x x x0 (by omega) x0 (by omega) W
            have HAD := fun W => radd_w A (wdL (x * x)) hA0 u2 u3 t1 W
            have hwr3 : IntKind.u64.wrap (wdH (A + wdL (x * x)) + wdH (x * x)) = wdH (A + x * x) := by rw [t2]; exact IntWalk.u64_in _ (by omega)
            have hWr := HL.out.1
            rw [hA] at hWr
            have HST : Hid (wdC ((k : Int) * sqK L N + sqK L (i + 1)) = #[.int .u64 (wdH (A + x * x)), .int .u64 (wdL (A + x * x))]) := Lib.hid (by rw [← hAB]; rfl)
            unfold aggW at HMU HAD
            rw [t3] at HAD
            unfold wdC at hWr
            generalize wdH (A + wdL (x * x)) = m1 at *
            generalize wdH (A + x * x) = c1 at *
            generalize wdL (A + x * x) = c0 at *
            generalize wdH (x * x) = b1 at *
            generalize wdL (x * x) = b0 at *
            generalize wdH A = a1 at *
            generalize wdL A = a0 at *
            unfold Calm at HMU HAD
            have HMU := Lib.hid HMU
            have HAD := Lib.hid HAD
            have HSVk := Lib.hid hsv
            have HWR := Lib.hid hWr
            have HBR := Lib.hid HL.out.2
            clear hsv hWr hs hsve hsm hsq hAB hq1 hqi hqj HL hbwr HTA HSV HSB HNX HSM HSQ t1 t2 t3 u0 u1 u2 u3 y0 y1 y2 y3 hA hA0 hA1 hxx HW2 HW3
            go_wp2_with fail
            (with_reducible refine (HSVk.out _).mono ?_); rintro e w2 ⟨rfl, hb⟩
            have HWR2 := Lib.hid (HWR.out.later hb)
            have HBR2 := Lib.hid (HBR.out.trans (hb.mono (by have := HWR.out.size_lt; omega)))
            clear hb HWR HBR HSVk d0 d1 d2
            go_wp2_with fail
            (with_reducible refine (HMU.out _).mono ?_); rintro e w3 ⟨rfl, hb⟩
            have hg3 := HWR2.out.later hb
            have hne : g ≠ w3.heap.size := by have := hg3.size_lt; omega
            have hne2 : w3.heap.size ≠ g := Ne.symm hne
            have HBR3 := Lib.hid ((HBR2.out.trans (hb.mono (by have := HWR2.out.size_lt; omega))).alloc (by have := hg3.size_lt; omega) (.cells #[.int .u64 b1, .int .u64 b0] 37))
            have HP3 := Lib.hid (Whole.fresh w3 37 #[.int .u64 b1, .int .u64 b0])
            have HG3 := Lib.hid (hg3.alloc (.cells #[.int .u64 b1, .int .u64 b0] 37))
            have d0 := HG3.out.read 0
            have d1 := HG3.out.read 1
            simp at d0 d1
            clear hb hg3 HWR2 HBR2 HMU
            go_wp2_with fail
            (with_reducible refine (HAD.out _).mono ?_); rintro e w4 ⟨rfl, hb⟩
            have hg4 := HG3.out.later hb
            have hp4 := HP3.out.later hb
            have d0 := hg4.read 0
            have d1 := hg4.read 1
            have z0 := hg4.free 0
            have z1 := hg4.free 1
            have d2 := hp4.read 0
            simp at d0 d1 d2
            have HE4 := Lib.hid (show Whole (((w4.setCell ⟨g, 0, none⟩ (.int .u64 m1)).setCell ⟨g, 1, none⟩ (.int .u64 c0)).setCell ⟨g, 0, none⟩ (.int .u64 c1)) g 37 (wdC ((k : Int) * sqK L N + sqK L (i + 1))) ∧ Below g w1 (((w4.setCell ⟨g, 0, none⟩ (.int .u64 m1)).setCell ⟨g, 1, none⟩ (.int .u64 c0)).setCell ⟨g, 0, none⟩ (.int .u64 c1)) from
              ⟨by rw [HST.out]; exact (whole2 hg4).put 0 (.int .u64 c1), ((HBR3.out.trans (hb.mono (by simp; have := HG3.out.size_lt; simp at this; omega))).trans below2).setCell (p := ⟨g, 0, none⟩) (Nat.le_refl _) _⟩)
            clear hb hg4 hp4 HG3 HP3 HBR3 HST HAD
            go_wp2
            go_roundw
            case rel => exact ⟨i + 1, by omega, by go_num, HE4⟩
            case measure => simp [intOf]; omega
          · obtain rfl : i = N := by omega
            obtain ⟨d0, d1, d2, -⟩ := HTA.out k kL wr hbwr
            have hsv := HSV.out k kL
            obtain ⟨⟨v0, v1⟩, x0, x1⟩ := HSB.out k kL
            obtain ⟨hsm, hsq⟩ := HNX.out k kL
            obtain ⟨s, hs⟩ : ∃ s, L[k] = s := ⟨_, rfl⟩
            rw [hs] at d0 d1 d2 hsv v0 v1 x0 x1 hsm hsq
            obtain ⟨x, hxe⟩ : ∃ x, xI s = x := ⟨_, rfl⟩
            rw [hxe] at x0 x1 hsm hsq
            unfold xI at hxe
            obtain ⟨sv, hsve⟩ : ∃ v, svI s = v := ⟨_, rfl⟩
            rw [hsve] at hsv v0 v1 hxe
            obtain ⟨s0, s1, s2⟩ := s
            simp only at d0 d1 d2 hsv
            have hdv : IntKind.i64.wrap (Int.tdiv sv 1024) = x := by rw [Int.tdiv_eq_ediv_of_nonneg v0, hxe]; exact IntWalk.i64_in _ (by omega)
            have hcv2 : IntKind.u64.wrap x = x := IntWalk.u64_in _ (by omega)
            have hs1 := HSM.out k
            have hs2 := HSM.out (k + 1)
            have hsum : IntKind.u64.wrap (smK L k + x) = smK L (k + 1) := by rw [hsm]; exact IntWalk.u64_in _ (by omega)
            have HSVk := Lib.hid hsv
            have HWR := Lib.hid HL.out.1
            have HBR := Lib.hid HL.out.2
            have HOU := Lib.hid (sq_outer L k i)
            clear hsv hs hsve hsm hsq hs1 hs2 HL hbwr HTA HSV HSB HNX HSM HSQ HW2 HW3
            go_wp2_with fail
            (with_reducible refine (HSVk.out _).mono ?_); rintro e w2 ⟨rfl, hb⟩
            have HE4 := Lib.hid (show Whole w2 g 37 (wdC (((k + 1 : Nat) : Int) * sqK L i)) ∧ Below g w1 w2 from ⟨by rw [← HOU.out]; exact HWR.out.later hb, HBR.out.trans (hb.mono (by have := HWR.out.size_lt; omega))⟩)
            clear hb HWR HBR HSVk HOU
            go_wp2
            go_roundw
            case rel => exact ⟨k + 1, by omega, by go_num, rfl, HE4⟩
            case measure => simp [intOf]; omega
      · obtain rfl : k = N := by omega
        have hS := HSM.out k
        have HMS := fun W => rmul_w (smK L k) (smK L k) hS.1 (by omega) hS.1 (by omega) W
        have hWr := HL.out.1
        have hbr := HL.out.2
        have hw2r : Whole wr w.heap.size 37 #[.int .u64 0, .int .u64 0] := HW2.out.carry (hbr.block _ (by have := HGT.out; omega))
        have hw3r : Whole wr (w.heap.size + 1) 37 #[.int .u64 0, .int .u64 0] := HW3.out.carry (hbr.block _ (by have := HGT.out; omega))
        have hbwr : Below w.heap.size w wr := HBW.out.trans (hbr.mono (by have := HGT.out; omega))
        unfold aggW at HMS
        unfold wdC at hWr
        unfold Calm at HMS
        clear HW2 HW3 HBW hS
        have HW2 := Lib.hid (show Whole wr.drew w.heap.size 37 #[.int .u64 0, .int .u64 0] from hw2r)
        have HW3 := Lib.hid (show Whole wr.drew (w.heap.size + 1) 37 #[.int .u64 0, .int .u64 0] from hw3r)
        have HBW := Lib.hid hbwr.drew
        have HMS := Lib.hid HMS
        obtain ⟨p1, hp1⟩ : ∃ y, wdH (smK L k * smK L k) = y := ⟨_, rfl⟩
        obtain ⟨p0, hp0⟩ : ∃ y, wdL (smK L k * smK L k) = y := ⟨_, rfl⟩
        obtain ⟨q1, hq1⟩ : ∃ y, wdH ((k : Int) * sqK L k) = y := ⟨_, rfl⟩
        obtain ⟨q0, hq0⟩ : ∃ y, wdL ((k : Int) * sqK L k) = y := ⟨_, rfl⟩
        rw [hp1, hp0] at HMS
        rw [hq1, hq0] at hWr
        have HWD := Lib.hid (show Whole wr.drew g 37 #[.int .u64 q1, .int .u64 q0] from hWr)
        have HEQ := Lib.hid (And.intro (And.intro hp1 hp0) (And.intro hq1 hq0))
        clear HL hWr hbr hw2r hw3r hbwr hp1 hp0 hq1 hq0 HTA HSV HSB HNX HSM HSQ
        go_wp2_with fail
        refine wp_region_looseS 69 (by kernel_rfl) (by kernel_rfl) (JnF wr.drew (fun vI => [.int .u64 (smK L k), .int .u64 (smK L k), .agg #[.int .u64 p1, .int .u64 p0], .agg #[.int .u64 q1, .int .u64 q0], undef, undef, .int .i64 0].getD vI undef) w.heap.size (w.heap.size + 1) g 37 #[.int .u64 0, .int .u64 0] #[.int .u64 p1, .int .u64 p0] #[.int .u64 q1, .int .u64 q0]) rfl (JnF.start HW2.out HW3.out HWD.out) ?_ ?_
        · simp only [OblAllS]
          refine ⟨?_, ?_, ?_, ?_, ?_, ?_, ?_, trivial⟩
          · intro U wx vals hi hu hcl hC
            have HCx := Lib.hid hC
            clear hC hcl hu hi
            simp only [fillA, if_true, Act.put]
            simp
            go_wp2
            exact ⟨rfl, HCx.out.quiet 0 (by decide) rfl⟩
          · intro U wx vals hi hu hcl hC
            have HCx := Lib.hid hC
            clear hC hcl hu hi
            simp only [fillA, if_true, Act.put]
            simp
            go_wp2
            exact ⟨rfl, HCx.out.quiet 1 (by decide) rfl⟩
          · intro U wx vals hi hu hcl hC
            simp [predL, predE, Region.binds, UpL] at hu
            have e0 : vals 0 = .int .u64 (smK L k) := hC.v 0 (by decide) (by simp [hu])
            have e1 : vals 1 = .int .u64 (smK L k) := hC.v 1 (by decide) (by simp [hu])
            have HCx := Lib.hid hC
            clear hC hcl hu hi
            simp only [fillA, if_true, Act.put]
            simp
            simp only [e0, e1]
            clear e0 e1
            have HL := Lib.hid (HMS.out wx)
            go_wp2_with fail
            (with_reducible refine HL.out.mono ?_); rintro e w9 ⟨rfl, hb⟩
            have HX := Lib.hid (HCx.out.step 2 (by decide) (x := .agg #[.int .u64 p1, .int .u64 p0]) rfl hb)
            clear hb HL
            go_wp2
            exact ⟨rfl, HX.out⟩
          · intro U wx vals hi hu hcl hC
            have d0 := hC.k.read 0
            have d1 := hC.k.read 1
            simp at d0 d1
            have HCx := Lib.hid hC
            clear hC hcl hu hi
            simp only [fillA, if_true, Act.put]
            simp
            go_wp2
            exact ⟨rfl, HCx.out.quiet 3 (by decide) rfl⟩
          · intro U wx vals hi hu hcl hC
            simp [predL, predE, Region.binds, UpL] at hu
            have e2 : vals 2 = .agg #[.int .u64 p1, .int .u64 p0] := hC.v 2 (by decide) (by simp [hu])
            have d0 := (hC.o4 hi).read 0
            have d1 := (hC.o4 hi).read 1
            have z0 := (hC.o4 hi).free 0
            have z1 := (hC.o4 hi).free 1
            simp at d0 d1
            have HX := Lib.hid (hC.write4 (x := undef) hi rfl (by omega) (by have := HGT.out; omega))
            have HCx := Lib.hid hC
            clear hC hcl hu hi
            simp only [fillA, if_true, Act.put]
            simp
            simp only [e2]
            clear e2
            clear HCx
            go_wp2
            exact ⟨rfl, HX.out⟩
          · intro U wx vals hi hu hcl hC
            simp [predL, predE, Region.binds, UpL] at hu
            have e3 : vals 3 = .agg #[.int .u64 q1, .int .u64 q0] := hC.v 3 (by decide) (by simp [hu])
            have d0 := (hC.o5 hi).read 0
            have d1 := (hC.o5 hi).read 1
            have z0 := (hC.o5 hi).free 0
            have z1 := (hC.o5 hi).free 1
            simp at d0 d1
            have HX := Lib.hid (hC.write5 (x := undef) hi rfl (by omega) (by have := HGT.out; omega))
            have HCx := Lib.hid hC
            clear hC hcl hu hi
            simp only [fillA, if_true, Act.put]
            simp
            simp only [e3]
            clear e3
            clear HCx
            go_wp2
            exact ⟨rfl, HX.out⟩
          · intro U wx vals hi hu hcl hC
            have HCx := Lib.hid hC
            clear hC hcl hu hi
            simp only [fillA, if_true, Act.put]
            simp
            go_wp2
            exact ⟨rfl, HCx.out.quiet 6 (by decide) rfl⟩
        · intro wz vals U hC hall
          have e6 : vals 6 = .int .i64 0 := hC.v 6 (by decide) (hall 6 (by simp))
          have f4 := hall 4 (by simp)
          have f5 := hall 5 (by simp)
          have r2 := hC.n4 f4
          have r3 := hC.n5 f5
          have q0' := r2.read 0
          have q1' := r2.read 1
          have q2' := r3.read 0
          have q3' := r3.read 1
          simp at q0' q1' q2' q3'
          have HB9 := Lib.hid (HBW.out.trans hC.b)
          clear r2 r3 f4 f5
          simp only [fillA, if_true, Act.put]
          simp
          simp only [e6]
          clear hC hall e6
          generalize vals 0 = t0 at *
          generalize vals 1 = t1 at *
          generalize vals 2 = t2 at *
          generalize vals 3 = t3 at *
          generalize vals 4 = t4 at *
          generalize vals 5 = t5 at *
          clear HW2 HW3 HBW HMS HWD
          go_wp2
          obtain ⟨⟨hp1, hp0⟩, hq1, hq0⟩ := HEQ.out
          refine bodyPost_ret (v := .tuple #[.agg #[.int .u64 p1, .int .u64 p0], .agg #[.int .u64 q1, .int .u64 q0], .int .i64 0]) (by simp [results, Try.results29, go_sem, q0', q1', q2', q3']) rfl ⟨?_, HB9.out⟩
          unfold aggW
          rw [hp1, hp0, hq1, hq0]
end Go.Proofs.Ytcdeecigiijabaa

