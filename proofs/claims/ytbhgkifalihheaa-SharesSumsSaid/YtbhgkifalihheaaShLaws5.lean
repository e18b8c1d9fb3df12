/-
  Layer 3: the walk of the statement about sums (package shares). Every input; no condition.
-/
import Derived.Test.YtbhgkifalihheaaShLaws3
namespace Go.Proofs.Ytbhgkifalihheaa
open Go.ChangeShapes Go.WideShapes Go.ChangeAt Go.RowKit
set_option linter.unusedVariables false

theorem spl_part {a : Int} {V : Nat → Int} {n : Nat} (a0 : -9223372036854775808 ≤ a) (a1 : a ≤ 9223372036854775807) (hn0 : 0 < n) (hn : n ≤ 64) (h : ∀ i, i < n → 1 ≤ V i ∧ V i ≤ 2147483648) (k : Nat) (hk : k ≤ n) :
    -9223372036854775808 ≤ sumTo (spl a V n) k ∧ sumTo (spl a V n) k ≤ 9223372036854775807 := by
  have hs := spl_sum (a := a) (V := V) hn0
  rcases (by omega : 0 ≤ a ∨ a < 0) with ha | ha
  · have hb := fun i (hi : i < n) => ((spl_bd a0 a1 hn h hi).1 ha).1
    have h1 := sumTo_mono hk hb
    have h2 := sumTo_ge (n := k) (fun i hi => hb i (by omega))
    omega
  · have hb := fun i (hi : i < n) => ((spl_bd a0 a1 hn h hi).2 ha).2
    have h1 := sumTo_mono (X := fun i => -(spl a V n i)) hk (fun i hi => by have := hb i hi; omega)
    have h2 := sumTo_ge (X := fun i => -(spl a V n i)) (n := k) (fun i hi => by have := hb i (by omega); omega)
    rw [sumTo_neg] at h1 h2
    rw [sumTo_neg] at h1
    omega
/-- What the state at the end holds. -/
theorem end_facts {C V X : Nat → Int} {n : Nat} {a r : Int} (a0 : 0 ≤ a) (a1 : a ≤ 9223372036854775807) (hn : n ≤ 64) (hv : ∀ i, i < n → 1 ≤ V i ∧ V i ≤ 2147483648) (hC : ∀ i, i < n → 0 ≤ C i) (h : FirstEnd C V n a (X, r)) :
    (∀ i, i < n → 0 ≤ X i ∧ X i ≤ C i) ∧ 0 ≤ r ∧ r ≤ a ∧ sumTo X n + r = a ∧ (r = 0 ∨ ∀ i, i < n → X i = C i) := by
  obtain ⟨j, hj, he, hf⟩ := h
  have hok := fillIt_ok a0 a1 hn hv hC j hf
  rw [← hj] at hok he
  obtain ⟨h1, h2, h3, h4⟩ := hok
  refine ⟨h1, h2, h3, h4, ?_⟩
  rcases he with h | h
  · left; exact Int.le_antisymm h h2
  · right
    intro i hi
    have h5 := (h1 i hi).2
    have h6 : ¬ X i < C i := fun hlt => by
      have := (opens_mem X C n i).2 ⟨hi, hlt⟩
      rw [List.eq_nil_of_length_eq_zero h] at this
      cases this
    exact Int.le_antisymm h5 (by omega)
set_option maxRecDepth 100000 in
set_option maxHeartbeats 4000000 in
theorem walkSums3 (a : Option Addr) (len cap : Nat) (x : Int) (x0 : -9223372036854775808 ≤ x) (x1 : x ≤ 9223372036854775807) (w : World) (he : Elems w.heap.size a len w) :
    Calls Try.prog 6 #[.slice a len cap, .int .i64 x] w fun e w' => e = .returned (.bool true) ∧ Below w.heap.size w w' := by
  have hg := Has.new (cap := cap) he
  obtain ⟨i1, hii', hy0, hy1, hy2⟩ := info_parts info_part
  obtain ⟨i0, hii, hz0, hz1, hz2⟩ := info_parts infoInt64
  clear he
  go_enter Try.func6, Try.ntmps6
  go_wp2_with (go_at_call 8; (with_reducible refine (new_any a len cap _).mono ?_); rintro e w' ⟨rfl, rfl⟩)
  have hgl := hg.1.lt
  generalize w.alloc _ = w1 at *
  refine (has_parts w.heap.size a len cap 0 4 w _ (by omega) (by omega) hg).mono ?_
  rintro e w2 ⟨m, A, c, I1, V1, q2, hm, hq2, rfl, _, hown2, hok2, hg2, ho2⟩
  clear hg
  go_wp2_with fail
  refine (has_weight w.heap.size a len cap q2 w _ hg2 (by omega)).mono ?_
  rintro e w3 ⟨y, y0, y1, rfl, hg3, ho3⟩
  have hO3 := ho2.trans ho3
  have hown3 := ownsRow_only hown2 ho3 hgl
  have hs3 := hO3.size
  have HOK2 := Lib.hid hok2
  clear hg2 ho2 ho3 hown2 hok2
  have hownA := hown3.alloc (.cells #[.int .i64 60, .int .i64 y] 39)
  go_wp2_with (at_builtin; refine wpList_append_own _ rfl (.tmp 20) (.tmp 24) 23 rfl w1.heap.size 39 i1 (.agg #[.int .i64 0, .int .i64 0]) 2 16 Try.underlying23 hii' hy0 hy1 hy2 rfl (by decide) _ m (flatP I1 V1 m) rfl hownA ⟨w3.heap.size, 0, none⟩ 1 1 [.int .i64 60, .int .i64 y] rfl rfl (cells2 _ _ _ _) (one2 _ _) (by unfold maxLen; omega) (by omega) (by simp; omega) ?_; intro v8 w8 hown8 hg8 _)
  obtain ⟨hg9, hO9, A9, c9, rfl, hp9, hval9, hfi9, hfv9⟩ := push_part hgl hm HOK2.out y0 y1 hg3 hO3 hownA hown8 hg8
  clear hownA hown8 hg8 hg3 hO3 hown3
  generalize upd I1 m 60 = I at *
  generalize upd V1 m y = V at *
  generalize hM : m + 1 = M at *
  have HVAL := Lib.hid hval9
  have HFI := Lib.hid hfi9
  have HFV := Lib.hid hfv9
  have hM1 : 1 ≤ M ∧ M ≤ 5 := by omega
  have HVW := Lib.hid (fun i hi => (hval9.2 i hi).2.2)
  clear hM hval9 hfi9 hfv9
  have hS := split_any x A9 M c9 I V w8 x0 x1 (by omega) HFI.out HFV.out (Cells.wider hp9 (Nat.zero_le _) (Nat.le_refl _))
  unfold SplitTo spLen spErr at hS
  rw [if_pos HVAL.out, if_pos HVAL.out, if_neg (by omega)] at hS
  have HS := Lib.hid hS
  clear hS
  go_wp2_with fail
  (with_reducible refine HS.out.mono ?_)
  rintro e w9 ⟨A2, c2, rfl, hn2, hb9⟩
  have hSum := sum_any A2 M c2 (spl x V M) _ _ w9 (by omega) (fun k hk => spl_part x0 x1 (by omega) HVAL.out.1 HVW.out k hk) hn2
  rw [spl_sum (by omega)] at hSum
  have HSum := Lib.hid hSum
  have hp10 := Cells.below hp9 hb9 (Nat.le_refl _)
  have hg10 := hg9.below hb9
  have hs9 := hb9.size
  have hs8 := hO9.size
  have hxx : (x != x) = false := by simp
  clear hSum hn2 hb9 hg9 hO9 hp9 HS
  go_wp2_with fail
  (with_reducible refine HSum.out.mono ?_)
  rintro e w9' ⟨rfl, rfl⟩
  have hBw : w.heap.size < w9.heap.size := by omega
  go_wp2
  go_loopw [9, 10] (fun v i wr => ∃ (k : Nat) (C : Nat → Int), k ≤ M ∧ i = .int .i64 k ∧ (∀ i, i < k → 0 ≤ C i ∧ C i ≤ 499) ∧ Has w.heap.size a len cap (q2 + 1 + k) w wr ∧ Only w.heap.size w9 wr ∧ wr.ownsRow w9.heap.size 2 1 v k (flatN C k)) (fun _ i _ => M - (intOf i).toNat)
  case atStart => exact ⟨0, fun _ => 0, by omega, rfl, fun i hi => by omega, hg10, Only.refl _ _, World.ownsRow_nil _ _ _ _⟩
  case round =>
    obtain ⟨k, C, hk, rfl, hC, hgk, hok, hown⟩ := hrel
    clear hg10
    by_cases hlt : k < M
    · have HC := Lib.hid hC
      clear hC
      go_wp2_with fail
      refine (has_next w.heap.size a len cap (q2 + 1 + k) 500 w _ hgk (by decide) (by decide) (by omega)).mono ?_
      rintro e w10 ⟨z, z0, z1, rfl, hg11, ho11⟩
      have hO11 := hok.trans ho11
      have hown11 := ownsRow_only hown ho11 hBw
      have hs11 := hO11.size
      clear hgk hok ho11 hown
      have hownA := hown11.alloc (.cells #[.int .i64 z] 2)
      go_wp2_with (at_builtin; refine wpList_append_own _ rfl (.tmp 46) (.tmp 49) 31 rfl w9.heap.size 2 i0 (.int .i64 0) 1 8 Try.underlying31 hii hz0 hz1 hz2 rfl (by decide) _ k (flatN C k) rfl hownA ⟨w10.heap.size, 0, none⟩ 1 1 [.int .i64 z] rfl rfl (cells1 _ _ _) (one1 _) (by unfold maxLen; omega) (by omega) (by simp; omega) ?_; intro v8 w11 hown8 hg8 _)
      obtain ⟨k1, k2, k3⟩ := push_num hBw hg11 hO11 hownA hown8 hg8
      clear hg11 hO11 hown11 hownA hown8 hg8
      go_wp2
      go_roundw
      case rel => exact ⟨k + 1, upd C k z, by omega, by go_num, fun i hi => by
        rcases (by omega : i = k ∨ i < k) with rfl | h
        · rw [upd_at]; omega
        · rw [upd_ne (by omega)]; exact HC.out i h, k1, k2, k3⟩
      case measure => simp [intOf]; omega
    · obtain rfl : M = k := by omega
      obtain ⟨A3, c3, rfl⟩ := own_shape hown
      have HC := Lib.hid hC
      clear hC
      go_wp2_with fail
      refine (has_next w.heap.size a len cap (q2 + 1 + M) 2000 w _ hgk (by decide) (by decide) (by omega)).mono ?_
      rintro e w10 ⟨z, z0, z1, rfl, hg11, ho11⟩
      have hO11 := hok.trans ho11
      have hown11 := ownsRow_only hown ho11 hBw
      have hs11 := hO11.size
      have hp11 := Cells.only hp10 hO11 (.inl (by omega)) (by omega)
      have hc11 := Nums.of_flat hown11
      have hF := Lib.hid (fill_any z A9 A3 M M c9 c3 I V C w10 (by omega) (by omega) (by omega) HFI.out HFV.out (Cells.wider hp11 (Nat.zero_le _) (by omega)) (Cells.wider hc11 (Nat.zero_le _) (Nat.le_refl _)))
      have hb11 := hg11.2
      clear hgk hok ho11 hown hp10 hp11 hown11 hg11
      go_wp2_with fail
      (with_reducible refine hF.out.mono ?_)
      rintro e w11 ⟨A4, c4, L, X, r, E, rfl, hn4, hb4, hres⟩
      have hcap : VCaps M C := fun i hi => by have := HC.out i hi; omega
      rcases hres with ⟨_, rfl, rfl, hfe⟩ | ⟨hno, _⟩
      · have hef := end_facts z0 (by omega) HVAL.out.1 HVW.out (fun i hi => (HC.out i hi).1) hfe
        obtain ⟨e1, e2, e3, e4, e5⟩ := hef
        have HE1 := Lib.hid e1
        have HE5 := Lib.hid e5
        have hSum := sum_any A4 L c4 X _ _ w11 (by omega) (fun k hk => by
          have h1 := sumTo_mono hk (fun i hi => (e1 i hi).1)
          have h2 := sumTo_ge (X := X) (n := k) (fun i hi => (e1 i (by omega)).1)
          omega) hn4
        have hsz : 0 ≤ sumTo X L := sumTo_ge (fun i hi => (e1 i hi).1)
        have hne : ((sumTo X L + r) != z) = false := by rw [e4]; simp
        have hMM : ((L : Int) != (L : Int)) = false := by simp
        have HSum2 := Lib.hid hSum
        have hb12 := hb11.trans (hb4.mono hb11.size)
        have hc12 := Cells.below hc11 hb4 (Nat.le_refl _)
        have hszz : sumTo X L ≤ 2000 := by omega
        clear hSum e1 e4 e5 hfe hb11 hb4 hc11 hF
        generalize sumTo X L = S at *
        go_wp2_with fail
        (with_reducible refine HSum2.out.mono ?_)
        rintro e w11' ⟨rfl, rfl⟩
        go_wp2
        go_loopw [15, 16] (fun f i wr => ∃ (k : Nat) (b : Bool), k ≤ L ∧ i = .int .i64 k ∧ f = .bool b ∧ ((∀ i, i < k → X i = C i) → b = true) ∧ Below w11.heap.size w11 wr) (fun _ i _ => L - (intOf i).toNat)
        case atStart => exact ⟨0, true, by omega, rfl, rfl, fun _ => rfl, Below.refl _ _⟩
        case round =>
          obtain ⟨k, b, hk, rfl, rfl, hfull, hB⟩ := hrel
          by_cases hltk : k < L
          · obtain ⟨b1, o1, rfl, _, _, c1⟩ := Nums.at_ (Cells.below hn4 hB (Nat.le_refl _)) hltk
            obtain ⟨b2, o2, rfl, _, _, c2'⟩ := Nums.at_ (Cells.below hc12 hB (by have := hB.size; omega)) hltk
            have hxk := HE1.out k hltk
            have d1 : decide (X k < 0) = false := decide_eq_false (by omega)
            have d2 : decide (C k < X k) = false := decide_eq_false (by omega)
            have HFULL := Lib.hid hfull
            clear hfull hn4 hc12
            cases b
            · go_wp2
              go_quiet (fail)
              go_wp2
              go_quiet (fail)
              go_wp2
              go_roundw
              case rel => exact ⟨k + 1, false, by omega, by go_num, rfl, fun h => HFULL.out (fun i hi => h i (by omega)), by first | exact Below_drewN (Below_drewN hB _) _ | exact Below_drewN hB _⟩
              case measure => simp [intOf]; omega
            · by_cases heq : X k = C k
              · have d3 : (X k == C k) = true := beq_iff_eq.2 heq
                clear heq
                go_wp2
                go_quiet (fail)
                go_wp2
                go_quiet (fail)
                go_wp2
                go_roundw
                case rel => exact ⟨k + 1, true, by omega, by go_num, rfl, fun h => rfl, by first | exact Below_drewN (Below_drewN hB _) _ | exact Below_drewN hB _⟩
                case measure => simp [intOf]; omega
              · have d3 : (X k == C k) = false := beq_eq_false_iff_ne.2 heq
                have HNE := Lib.hid heq
                clear heq
                go_wp2
                go_quiet (fail)
                go_wp2
                go_quiet (fail)
                go_wp2
                go_roundw
                case rel => exact ⟨k + 1, false, by omega, by go_num, rfl, fun h => absurd (h k (by omega)) HNE.out, by first | exact Below_drewN (Below_drewN hB _) _ | exact Below_drewN hB _⟩
                case measure => simp [intOf]; omega
          · obtain rfl : L = k := by omega
            have hfin := hb12.trans (hB.mono hb12.size)
            have hor : r = 0 ∨ b = true := by
              rcases HE5.out with h | h
              · exact .inl h
              · exact .inr (hfull h)
            clear hB hn4 hc12 hfull hb12
            by_cases hr0 : r = 0
            · subst hr0
              clear hor
              go_wp2_with fail
              (with_reducible refine (awake3_any _).mono ?_)
              rintro e w4 ⟨rfl, hb4⟩
              have hb' := hfin.trans (hb4.mono hfin.size)
              clear hfin hb4
              go_wp2
              go_ret
              exact ⟨rfl, hb'⟩
            · obtain rfl : b = true := by
                rcases hor with h | h
                · exact absurd h hr0
                · exact h
              have hr1 : (r == 0) = false := beq_eq_false_iff_ne.2 hr0
              clear hor hr0
              go_wp2_with fail
              (with_reducible refine (awake3_any _).mono ?_)
              rintro e w4 ⟨rfl, hb4⟩
              have hb' := hfin.trans (hb4.mono hfin.size)
              clear hfin hb4
              go_wp2
              go_ret
              exact ⟨rfl, hb'⟩
      · exact absurd ⟨HVAL.out, rfl, hcap, z0⟩ hno
end Go.Proofs.Ytbhgkifalihheaa
