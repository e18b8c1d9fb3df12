/-
  Layer 14: contracts of the program's Valid, normalized, service, gap, bound, excess, Gap, Bound, Fair. Written by gen_faprog.py.
-/
import Derived.Test.YtcdeecigiijabaaJnRef
import Derived.Test.YtcdeecigiijabaaTgNorm
namespace Go.Proofs.Ytcdeecigiijabaa
open Go.ChangeShapes Go.WideShapes Go.ChangeAt Go.RowKit
set_option linter.unusedVariables false

theorem pvalidS_any (s : Sp) (w : World) : Calls Try.prog 21 #[aggSp s] w (Calm (.bool (spB s)) w) := by
  obtain ⟨x, b, m⟩ := s
  have HB := Lib.hid ((Below.refl w.heap.size w).alloc (Nat.le_refl _) (.cells #[.int .i64 x, .int .i64 b, .int .i64 m] 24))
  have hcases : (x < 1 ∧ spB ⟨x, b, m⟩ = false) ∨ (1 ≤ x ∧ 16 < x ∧ spB ⟨x, b, m⟩ = false) ∨ (1 ≤ x ∧ x ≤ 16 ∧ b < 0 ∧ spB ⟨x, b, m⟩ = false) ∨ (1 ≤ x ∧ x ≤ 16 ∧ 0 ≤ b ∧ 2147483648 < b ∧ spB ⟨x, b, m⟩ = false) ∨ (1 ≤ x ∧ x ≤ 16 ∧ 0 ≤ b ∧ b ≤ 2147483648 ∧ m < 0 ∧ spB ⟨x, b, m⟩ = false) ∨ (1 ≤ x ∧ x ≤ 16 ∧ 0 ≤ b ∧ b ≤ 2147483648 ∧ 0 ≤ m ∧ 4096 < m ∧ spB ⟨x, b, m⟩ = false) ∨ (1 ≤ x ∧ x ≤ 16 ∧ 0 ≤ b ∧ b ≤ 2147483648 ∧ 0 ≤ m ∧ m ≤ 4096 ∧ spB ⟨x, b, m⟩ = true) := by
    have hn : ¬ ((1 ≤ x ∧ x ≤ 16) ∧ (0 ≤ b ∧ b ≤ 2147483648) ∧ (0 ≤ m ∧ m ≤ 4096)) → spB ⟨x, b, m⟩ = false := fun h => by
      cases h2 : spB ⟨x, b, m⟩ with
      | false => rfl
      | true => obtain ⟨k1, k2, k3⟩ := sp_yes h2; exact absurd ⟨wt_yes k1, k2, k3⟩ h
    by_cases h1 : x < 1
    · exact .inl ⟨h1, hn (by omega)⟩
    by_cases h2 : 16 < x
    · exact .inr (.inl ⟨by omega, h2, hn (by omega)⟩)
    by_cases h3 : b < 0
    · exact .inr (.inr (.inl ⟨by omega, by omega, h3, hn (by omega)⟩))
    by_cases h4 : 2147483648 < b
    · exact .inr (.inr (.inr (.inl ⟨by omega, by omega, by omega, h4, hn (by omega)⟩)))
    by_cases h5 : m < 0
    · exact .inr (.inr (.inr (.inr (.inl ⟨by omega, by omega, by omega, by omega, h5, hn (by omega)⟩))))
    by_cases h6 : 4096 < m
    · exact .inr (.inr (.inr (.inr (.inr (.inl ⟨by omega, by omega, by omega, by omega, by omega, h6, hn (by omega)⟩)))))
    · exact .inr (.inr (.inr (.inr (.inr (.inr ⟨by omega, by omega, by omega, by omega, by omega, by omega, sp_of (show wtB x = true from wt_of ⟨by omega, by omega⟩) (show 0 ≤ b ∧ b ≤ 2147483648 from ⟨by omega, by omega⟩) (show 0 ≤ m ∧ m ≤ 4096 from ⟨by omega, by omega⟩)⟩)))))
  unfold Calm aggSp
  rcases hcases with ⟨h1, e⟩ | ⟨h1, h2, e⟩ | ⟨h1, h2, h3, e⟩ | ⟨h1, h2, h3, h4, e⟩ | ⟨h1, h2, h3, h4, h5, e⟩ | ⟨h1, h2, h3, h4, h5, h6, e⟩ | ⟨h1, h2, h3, h4, h5, h6, e⟩
  all_goals
    rw [e]
    clear e
    go_enter Try.func21, Try.ntmps21
    go_wp2
    go_ret
    first | exact ⟨rfl, HB.out⟩ | exact ⟨ret_bool (decide_eq_true (by omega)), HB.out⟩ | exact ⟨ret_bool (decide_eq_false (by omega)), HB.out⟩
theorem pnormal_any (b x : Int) (h1 : 0 ≤ b ∧ b ≤ 2147483648) (h2 : wtB x = true) (w : World) : Calls Try.prog 42 #[.int .i64 b, .int .i64 x] w (Calm (.int .i64 (b * unC x)) w) := by
  have HN := normalT_any b x w
  obtain ⟨e1, e2⟩ := no_yes (b := b) (w := x) (bdN_of (by omega)) h2
  rw [e1, e2] at HN
  have HN := Lib.hid HN
  clear e1 e2 h1 h2
  generalize b * unC x = v at *
  unfold Calm at *
  go_enter Try.func42, Try.ntmps42
  go_wp2_with fail
  (with_reducible refine HN.out.mono ?_); rintro e w' ⟨rfl, hb⟩
  have HB := Lib.hid hb
  clear hb
  go_wp2
  go_ret
  exact ⟨rfl, HB.out⟩
theorem pservice_any (s : Sp) (h : spB s = true) (w : World) : Calls Try.prog 31 #[aggSp s] w (Calm (.int .i64 (svI s)) w) := by
  obtain ⟨h1, h2, h3⟩ := sp_yes h
  obtain ⟨x, b, m⟩ := s
  have HN := pnormal_any b x h2 h1
  have HB := Lib.hid ((Below.refl w.heap.size w).alloc (Nat.le_refl _) (.cells #[.int .i64 x, .int .i64 b, .int .i64 m] 24))
  unfold svI
  simp only
  generalize b * unC x = v at *
  have HN := Lib.hid HN
  unfold Calm aggSp at *
  clear h h1 h2 h3
  go_enter Try.func31, Try.ntmps31
  go_wp2_with fail
  (with_reducible refine (HN.out _).mono ?_); rintro e w3 ⟨rfl, hb⟩
  have HF := Lib.hid (HB.out.trans (hb.mono HB.out.size))
  clear hb
  go_wp2
  go_ret
  exact ⟨rfl, HF.out⟩
set_option maxRecDepth 100000 in
set_option maxHeartbeats 4000000 in
theorem pgapI_any (a b : Sp) (h1 : spB a = true) (h2 : spB b = true) (w : World) : Calls Try.prog 34 #[aggSp a, aggSp b] w (Calm (.int .i64 (gaI a b)) w) := by
  have HA := two_sp a b 24 w
  have HSA := pservice_any a h1
  have HSB := pservice_any b h2
  obtain ⟨hx, hy, hi⟩ : (0 ≤ svI a ∧ svI a ≤ 1547734414786560) ∧ (0 ≤ svI b ∧ svI b ≤ 1547734414786560) ∧ gaI a b = max (svI a - svI b) (svI b - svI a) := ⟨sv_bd h1, sv_bd h2, rfl⟩
  rw [hi]
  clear hi h1 h2
  generalize svI a = x at *
  generalize svI b = y at *
  obtain ⟨a0, a1, a2⟩ := a
  obtain ⟨b0, b1, b2⟩ := b
  unfold Calm aggSp at *
  unfold spC at HA
  simp only at HA HSA HSB ⊢
  have HA := Lib.hid HA
  have HA4 := Lib.hid (fun (W : World) (hw : Below ((w.alloc (.cells #[.int .i64 a0, .int .i64 a1, .int .i64 a2] 24)).alloc (.cells #[.int .i64 b0, .int .i64 b1, .int .i64 b2] 24)).drew.heap.size ((w.alloc (.cells #[.int .i64 a0, .int .i64 a1, .int .i64 a2] 24)).alloc (.cells #[.int .i64 b0, .int .i64 b1, .int .i64 b2] 24)).drew W) => (HA.out W ((Below.refl _ ((w.alloc (.cells #[.int .i64 a0, .int .i64 a1, .int .i64 a2] 24)).alloc (.cells #[.int .i64 b0, .int .i64 b1, .int .i64 b2] 24))).drew.trans hw)).1)
  have HSX := Lib.hid (fun (W : World) (hw : Below ((w.alloc (.cells #[.int .i64 a0, .int .i64 a1, .int .i64 a2] 24)).alloc (.cells #[.int .i64 b0, .int .i64 b1, .int .i64 b2] 24)).drew.heap.size ((w.alloc (.cells #[.int .i64 a0, .int .i64 a1, .int .i64 a2] 24)).alloc (.cells #[.int .i64 b0, .int .i64 b1, .int .i64 b2] 24)).drew W) => HSA W)
  have HSY := Lib.hid (fun (W : World) (hw : Below ((w.alloc (.cells #[.int .i64 a0, .int .i64 a1, .int .i64 a2] 24)).alloc (.cells #[.int .i64 b0, .int .i64 b1, .int .i64 b2] 24)).drew.heap.size ((w.alloc (.cells #[.int .i64 a0, .int .i64 a1, .int .i64 a2] 24)).alloc (.cells #[.int .i64 b0, .int .i64 b1, .int .i64 b2] 24)).drew W) => HSB W)
  clear HSA HSB
  have hs1 : IntKind.i64.wrap (x - y) = x - y := IntWalk.i64_in _ (by omega)
  have hs2 : IntKind.i64.wrap (y - x) = y - x := IntWalk.i64_in _ (by omega)
  have hs3 : IntKind.i64.wrap (max x y - min x y) = max x y - min x y := IntWalk.i64_in _ (by omega)
  go_enter Try.func34, Try.ntmps34
  go_wp2_with fail
  refine wp_region_looseS 18 (by kernel_rfl) (by kernel_rfl) (StB ((w.alloc (.cells #[.int .i64 a0, .int .i64 a1, .int .i64 a2] 24)).alloc (.cells #[.int .i64 b0, .int .i64 b1, .int .i64 b2] 24)).drew (fun i => [.agg #[.int .i64 a0, .int .i64 a1, .int .i64 a2], .int .i64 x, .agg #[.int .i64 b0, .int .i64 b1, .int .i64 b2], .int .i64 y, .int .i64 x, .int .i64 y].getD i undef)) rfl StB.start ?_ ?_
  · simp only [OblAllS]
    refine ⟨?_, ?_, ?_, ?_, ?_, ?_, trivial⟩
    · intro L wx vals hi hu hcl hC
      obtain ⟨h0, h1, h2, _, _, _⟩ := HA4.out wx hC.b
      have HCx := Lib.hid hC
      clear hC hcl hu hi
      simp only [fillA, if_true, Act.put]
      simp
      go_wp2
      exact ⟨rfl, HCx.out.quiet 0 rfl⟩
    · intro L wx vals hi hu hcl hC
      simp [predL, predE, Region.binds, UpL] at hu
      have e0 : vals 0 = .agg #[.int .i64 a0, .int .i64 a1, .int .i64 a2] := hC.v 0 (by simp [hu])
      have HL := Lib.hid (HSX.out wx hC.b)
      have HCx := Lib.hid hC
      clear hC hcl hu hi
      simp only [fillA, if_true, Act.put]
      simp
      simp only [e0]
      clear e0
      go_wp2_with fail
      (with_reducible refine HL.out.mono ?_); rintro e w9 ⟨rfl, hb⟩
      have HX := Lib.hid (HCx.out.step 1 (x := .int .i64 x) rfl (HCx.out.b.trans (hb.mono HCx.out.b.size)))
      clear hb
      go_wp2
      exact ⟨rfl, HX.out⟩
    · intro L wx vals hi hu hcl hC
      obtain ⟨_, _, _, h0, h1, h2⟩ := HA4.out wx hC.b
      have HCx := Lib.hid hC
      clear hC hcl hu hi
      simp only [fillA, if_true, Act.put]
      simp
      go_wp2
      exact ⟨rfl, HCx.out.quiet 2 rfl⟩
    · intro L wx vals hi hu hcl hC
      simp [predL, predE, Region.binds, UpL] at hu
      have e2 : vals 2 = .agg #[.int .i64 b0, .int .i64 b1, .int .i64 b2] := hC.v 2 (by simp [hu])
      have HL := Lib.hid (HSY.out wx hC.b)
      have HCx := Lib.hid hC
      clear hC hcl hu hi
      simp only [fillA, if_true, Act.put]
      simp
      simp only [e2]
      clear e2
      go_wp2_with fail
      (with_reducible refine HL.out.mono ?_); rintro e w9 ⟨rfl, hb⟩
      have HX := Lib.hid (HCx.out.step 3 (x := .int .i64 y) rfl (HCx.out.b.trans (hb.mono HCx.out.b.size)))
      clear hb
      go_wp2
      exact ⟨rfl, HX.out⟩
    · intro L wx vals hi hu hcl hC
      simp [predL, predE, Region.binds, UpL] at hu
      have e1 : vals 1 = .int .i64 x := hC.v 1 (by simp [hu])
      have HCx := Lib.hid hC
      clear hC hcl hu hi
      simp only [fillA, if_true, Act.put]
      simp
      simp only [e1]
      clear e1
      go_wp2
      exact ⟨rfl, HCx.out.quiet 4 rfl⟩
    · intro L wx vals hi hu hcl hC
      simp [predL, predE, Region.binds, UpL] at hu
      have e3 : vals 3 = .int .i64 y := hC.v 3 (by simp [hu])
      have HCx := Lib.hid hC
      clear hC hcl hu hi
      simp only [fillA, if_true, Act.put]
      simp
      simp only [e3]
      clear e3
      go_wp2
      exact ⟨rfl, HCx.out.quiet 5 rfl⟩
  · intro wz vals L hC hall
    have e4 : vals 4 = .int .i64 x := hC.v 4 (hall 4 (by simp))
    have e5 : vals 5 = .int .i64 y := hC.v 5 (hall 5 (by simp))
    have HF := Lib.hid (HA.out wz ((Below.refl _ ((w.alloc (.cells #[.int .i64 a0, .int .i64 a1, .int .i64 a2] 24)).alloc (.cells #[.int .i64 b0, .int .i64 b1, .int .i64 b2] 24))).drew.trans hC.b)).2
    simp only [fillA, if_true, Act.put]
    simp
    simp only [e4, e5]
    clear hC hall e4 e5
    go_wp2
    all_goals
      go_ret
      exact ⟨ret_int (by omega), HF.out⟩
set_option maxRecDepth 100000 in
set_option maxHeartbeats 4000000 in
theorem pboundI_any (a b : Sp) (h1 : spB a = true) (h2 : spB b = true) (w : World) : Calls Try.prog 36 #[aggSp a, aggSp b] w (Calm (.int .i64 (boI a b)) w) := by
  have HA := two_sp a b 24 w
  obtain ⟨k1, _, k3⟩ := sp_yes h1
  obtain ⟨j1, _, j3⟩ := sp_yes h2
  have HSA := pnormal_any a.m a.w (by omega) k1
  have HSB := pnormal_any b.m b.w (by omega) j1
  have hx := mul_bd (A := 4096) (B := 720720) k3.1 k3.2 (by have := un_bd k1; omega) (un_bd k1).2
  have hy := mul_bd (A := 4096) (B := 720720) j3.1 j3.2 (by have := un_bd j1; omega) (un_bd j1).2
  obtain ⟨I, hI⟩ : ∃ I, boI a b = I := ⟨_, rfl⟩
  have hi : a.m * unC a.w + b.m * unC b.w = I := hI
  rw [hI]
  clear hI h1 h2 k1 k3 j1 j3
  generalize a.m * unC a.w = x at *
  generalize b.m * unC b.w = y at *
  subst hi
  obtain ⟨a0, a1, a2⟩ := a
  obtain ⟨b0, b1, b2⟩ := b
  unfold Calm aggSp at *
  unfold spC at HA
  simp only at HA HSA HSB ⊢
  have HA := Lib.hid HA
  have HA4 := Lib.hid (fun (W : World) (hw : Below ((w.alloc (.cells #[.int .i64 a0, .int .i64 a1, .int .i64 a2] 24)).alloc (.cells #[.int .i64 b0, .int .i64 b1, .int .i64 b2] 24)).drew.heap.size ((w.alloc (.cells #[.int .i64 a0, .int .i64 a1, .int .i64 a2] 24)).alloc (.cells #[.int .i64 b0, .int .i64 b1, .int .i64 b2] 24)).drew W) => (HA.out W ((Below.refl _ ((w.alloc (.cells #[.int .i64 a0, .int .i64 a1, .int .i64 a2] 24)).alloc (.cells #[.int .i64 b0, .int .i64 b1, .int .i64 b2] 24))).drew.trans hw)).1)
  have HSX := Lib.hid (fun (W : World) (hw : Below ((w.alloc (.cells #[.int .i64 a0, .int .i64 a1, .int .i64 a2] 24)).alloc (.cells #[.int .i64 b0, .int .i64 b1, .int .i64 b2] 24)).drew.heap.size ((w.alloc (.cells #[.int .i64 a0, .int .i64 a1, .int .i64 a2] 24)).alloc (.cells #[.int .i64 b0, .int .i64 b1, .int .i64 b2] 24)).drew W) => HSA W)
  have HSY := Lib.hid (fun (W : World) (hw : Below ((w.alloc (.cells #[.int .i64 a0, .int .i64 a1, .int .i64 a2] 24)).alloc (.cells #[.int .i64 b0, .int .i64 b1, .int .i64 b2] 24)).drew.heap.size ((w.alloc (.cells #[.int .i64 a0, .int .i64 a1, .int .i64 a2] 24)).alloc (.cells #[.int .i64 b0, .int .i64 b1, .int .i64 b2] 24)).drew W) => HSB W)
  clear HSA HSB
  have hs1 : IntKind.i64.wrap (x + y) = x + y := IntWalk.i64_in _ (by omega)
  go_enter Try.func36, Try.ntmps36
  go_wp2_with fail
  refine wp_region_looseS 16 (by kernel_rfl) (by kernel_rfl) (StB ((w.alloc (.cells #[.int .i64 a0, .int .i64 a1, .int .i64 a2] 24)).alloc (.cells #[.int .i64 b0, .int .i64 b1, .int .i64 b2] 24)).drew (fun i => [.pointer (some ⟨w.heap.size, 2, none⟩), .int .i64 a2, .pointer (some ⟨w.heap.size, 0, none⟩), .int .i64 a0, .int .i64 x, .pointer (some ⟨w.heap.size + 1, 2, none⟩), .int .i64 b2, .pointer (some ⟨w.heap.size + 1, 0, none⟩), .int .i64 b0, .int .i64 y, .int .i64 (x + y), .int .i64 (x + y)].getD i undef)) rfl StB.start ?_ ?_
  · simp only [OblAllS]
    refine ⟨?_, ?_, ?_, ?_, ?_, ?_, ?_, ?_, ?_, ?_, ?_, ?_, trivial⟩
    · intro L wx vals hi hu hcl hC
      have HCx := Lib.hid hC
      clear hC hcl hu hi
      simp only [fillA, if_true, Act.put]
      simp
      go_wp2
      exact ⟨rfl, HCx.out.quiet 0 rfl⟩
    · intro L wx vals hi hu hcl hC
      simp [predL, predE, Region.binds, UpL] at hu
      have e0 : vals 0 = .pointer (some ⟨w.heap.size, 2, none⟩) := hC.v 0 (by simp [hu])
      obtain ⟨_, _, h2, _, _, _⟩ := HA4.out wx hC.b
      have HCx := Lib.hid hC
      clear hC hcl hu hi
      simp only [fillA, if_true, Act.put]
      simp
      simp only [e0]
      clear e0
      go_wp2
      exact ⟨rfl, HCx.out.quiet 1 rfl⟩
    · intro L wx vals hi hu hcl hC
      have HCx := Lib.hid hC
      clear hC hcl hu hi
      simp only [fillA, if_true, Act.put]
      simp
      go_wp2
      exact ⟨rfl, HCx.out.quiet 2 rfl⟩
    · intro L wx vals hi hu hcl hC
      simp [predL, predE, Region.binds, UpL] at hu
      have e2 : vals 2 = .pointer (some ⟨w.heap.size, 0, none⟩) := hC.v 2 (by simp [hu])
      obtain ⟨h0, _, _, _, _, _⟩ := HA4.out wx hC.b
      have HCx := Lib.hid hC
      clear hC hcl hu hi
      simp only [fillA, if_true, Act.put]
      simp
      simp only [e2]
      clear e2
      go_wp2
      exact ⟨rfl, HCx.out.quiet 3 rfl⟩
    · intro L wx vals hi hu hcl hC
      simp [predL, predE, Region.binds, UpL] at hu
      have e1 : vals 1 = .int .i64 a2 := hC.v 1 (by simp [hu])
      have e3 : vals 3 = .int .i64 a0 := hC.v 3 (by simp [hu])
      have HL := Lib.hid (HSX.out wx hC.b)
      have HCx := Lib.hid hC
      clear hC hcl hu hi
      simp only [fillA, if_true, Act.put]
      simp
      simp only [e1, e3]
      clear e1 e3
      go_wp2_with fail
      (with_reducible refine HL.out.mono ?_); rintro e w9 ⟨rfl, hb⟩
      have HX := Lib.hid (HCx.out.step 4 (x := .int .i64 x) rfl (HCx.out.b.trans (hb.mono HCx.out.b.size)))
      clear hb
      go_wp2
      exact ⟨rfl, HX.out⟩
    · intro L wx vals hi hu hcl hC
      have HCx := Lib.hid hC
      clear hC hcl hu hi
      simp only [fillA, if_true, Act.put]
      simp
      go_wp2
      exact ⟨rfl, HCx.out.quiet 5 rfl⟩
    · intro L wx vals hi hu hcl hC
      simp [predL, predE, Region.binds, UpL] at hu
      have e5 : vals 5 = .pointer (some ⟨w.heap.size + 1, 2, none⟩) := hC.v 5 (by simp [hu])
      obtain ⟨_, _, _, _, _, h2⟩ := HA4.out wx hC.b
      have HCx := Lib.hid hC
      clear hC hcl hu hi
      simp only [fillA, if_true, Act.put]
      simp
      simp only [e5]
      clear e5
      go_wp2
      exact ⟨rfl, HCx.out.quiet 6 rfl⟩
    · intro L wx vals hi hu hcl hC
      have HCx := Lib.hid hC
      clear hC hcl hu hi
      simp only [fillA, if_true, Act.put]
      simp
      go_wp2
      exact ⟨rfl, HCx.out.quiet 7 rfl⟩
    · intro L wx vals hi hu hcl hC
      simp [predL, predE, Region.binds, UpL] at hu
      have e7 : vals 7 = .pointer (some ⟨w.heap.size + 1, 0, none⟩) := hC.v 7 (by simp [hu])
      obtain ⟨_, _, _, h0, _, _⟩ := HA4.out wx hC.b
      have HCx := Lib.hid hC
      clear hC hcl hu hi
      simp only [fillA, if_true, Act.put]
      simp
      simp only [e7]
      clear e7
      go_wp2
      exact ⟨rfl, HCx.out.quiet 8 rfl⟩
    · intro L wx vals hi hu hcl hC
      simp [predL, predE, Region.binds, UpL] at hu
      have e6 : vals 6 = .int .i64 b2 := hC.v 6 (by simp [hu])
      have e8 : vals 8 = .int .i64 b0 := hC.v 8 (by simp [hu])
      have HL := Lib.hid (HSY.out wx hC.b)
      have HCx := Lib.hid hC
      clear hC hcl hu hi
      simp only [fillA, if_true, Act.put]
      simp
      simp only [e6, e8]
      clear e6 e8
      go_wp2_with fail
      (with_reducible refine HL.out.mono ?_); rintro e w9 ⟨rfl, hb⟩
      have HX := Lib.hid (HCx.out.step 9 (x := .int .i64 y) rfl (HCx.out.b.trans (hb.mono HCx.out.b.size)))
      clear hb
      go_wp2
      exact ⟨rfl, HX.out⟩
    · intro L wx vals hi hu hcl hC
      simp [predL, predE, Region.binds, UpL] at hu
      have e4 : vals 4 = .int .i64 x := hC.v 4 (by simp [hu])
      have e9 : vals 9 = .int .i64 y := hC.v 9 (by simp [hu])
      have HCx := Lib.hid hC
      clear hC hcl hu hi
      simp only [fillA, if_true, Act.put]
      simp
      simp only [e4, e9]
      clear e4 e9
      go_wp2
      exact ⟨rfl, HCx.out.quiet 10 rfl⟩
    · intro L wx vals hi hu hcl hC
      simp [predL, predE, Region.binds, UpL] at hu
      have e10 : vals 10 = .int .i64 (x + y) := hC.v 10 (by simp [hu])
      have HCx := Lib.hid hC
      clear hC hcl hu hi
      simp only [fillA, if_true, Act.put]
      simp
      simp only [e10]
      clear e10
      go_wp2
      exact ⟨rfl, HCx.out.quiet 11 rfl⟩
  · intro wz vals L hC hall
    have e11 : vals 11 = .int .i64 (x + y) := hC.v 11 (hall 11 (by simp))
    have HF := Lib.hid (HA.out wz ((Below.refl _ ((w.alloc (.cells #[.int .i64 a0, .int .i64 a1, .int .i64 a2] 24)).alloc (.cells #[.int .i64 b0, .int .i64 b1, .int .i64 b2] 24))).drew.trans hC.b)).2
    simp only [fillA, if_true, Act.put]
    simp
    simp only [e11]
    clear hC hall e11
    go_wp2
    go_ret
    exact ⟨rfl, HF.out⟩
def exI (a b : Sp) : Int := gaI a b - boI a b
theorem ga_bd {a b : Sp} (h1 : spB a = true) (h2 : spB b = true) : 0 ≤ gaI a b ∧ gaI a b ≤ 1547734414786560 := by
  have := sv_bd h1
  have := sv_bd h2
  unfold gaI; omega
set_option maxRecDepth 100000 in
set_option maxHeartbeats 4000000 in
theorem pexcess_any (a b : Sp) (h1 : spB a = true) (h2 : spB b = true) (w : World) : Calls Try.prog 38 #[aggSp a, aggSp b] w (Calm (.int .i64 (exI a b)) w) := by
  have HA := two_sp a b 24 w
  have HSA := pgapI_any a b h1 h2
  have HSB := pboundI_any a b h1 h2
  have hx := ga_bd h1 h2
  have hy := bo_bd h1 h2
  unfold exI
  clear h1 h2
  generalize gaI a b = g at *
  generalize boI a b = m at *
  obtain ⟨a0, a1, a2⟩ := a
  obtain ⟨b0, b1, b2⟩ := b
  unfold Calm aggSp at *
  unfold spC at HA
  simp only at HA HSA HSB ⊢
  have HA := Lib.hid HA
  have HA4 := Lib.hid (fun (W : World) (hw : Below ((w.alloc (.cells #[.int .i64 a0, .int .i64 a1, .int .i64 a2] 24)).alloc (.cells #[.int .i64 b0, .int .i64 b1, .int .i64 b2] 24)).drew.heap.size ((w.alloc (.cells #[.int .i64 a0, .int .i64 a1, .int .i64 a2] 24)).alloc (.cells #[.int .i64 b0, .int .i64 b1, .int .i64 b2] 24)).drew W) => (HA.out W ((Below.refl _ ((w.alloc (.cells #[.int .i64 a0, .int .i64 a1, .int .i64 a2] 24)).alloc (.cells #[.int .i64 b0, .int .i64 b1, .int .i64 b2] 24))).drew.trans hw)).1)
  have HSX := Lib.hid (fun (W : World) (hw : Below ((w.alloc (.cells #[.int .i64 a0, .int .i64 a1, .int .i64 a2] 24)).alloc (.cells #[.int .i64 b0, .int .i64 b1, .int .i64 b2] 24)).drew.heap.size ((w.alloc (.cells #[.int .i64 a0, .int .i64 a1, .int .i64 a2] 24)).alloc (.cells #[.int .i64 b0, .int .i64 b1, .int .i64 b2] 24)).drew W) => HSA W)
  have HSY := Lib.hid (fun (W : World) (hw : Below ((w.alloc (.cells #[.int .i64 a0, .int .i64 a1, .int .i64 a2] 24)).alloc (.cells #[.int .i64 b0, .int .i64 b1, .int .i64 b2] 24)).drew.heap.size ((w.alloc (.cells #[.int .i64 a0, .int .i64 a1, .int .i64 a2] 24)).alloc (.cells #[.int .i64 b0, .int .i64 b1, .int .i64 b2] 24)).drew W) => HSB W)
  clear HSA HSB
  have hs1 : IntKind.i64.wrap (g - m) = g - m := IntWalk.i64_in _ (by omega)
  go_enter Try.func38, Try.ntmps38
  go_wp2_with fail
  refine wp_region_looseS 12 (by kernel_rfl) (by kernel_rfl) (StB ((w.alloc (.cells #[.int .i64 a0, .int .i64 a1, .int .i64 a2] 24)).alloc (.cells #[.int .i64 b0, .int .i64 b1, .int .i64 b2] 24)).drew (fun i => [.agg #[.int .i64 a0, .int .i64 a1, .int .i64 a2], .agg #[.int .i64 b0, .int .i64 b1, .int .i64 b2], .int .i64 g, .agg #[.int .i64 a0, .int .i64 a1, .int .i64 a2], .agg #[.int .i64 b0, .int .i64 b1, .int .i64 b2], .int .i64 m, .int .i64 (g - m), .int .i64 (g - m)].getD i undef)) rfl StB.start ?_ ?_
  · simp only [OblAllS]
    refine ⟨?_, ?_, ?_, ?_, ?_, ?_, ?_, ?_, trivial⟩
    · intro L wx vals hi hu hcl hC
      obtain ⟨h0, h1, h2, _, _, _⟩ := HA4.out wx hC.b
      have HCx := Lib.hid hC
      clear hC hcl hu hi
      simp only [fillA, if_true, Act.put]
      simp
      go_wp2
      exact ⟨rfl, HCx.out.quiet 0 rfl⟩
    · intro L wx vals hi hu hcl hC
      obtain ⟨_, _, _, h0, h1, h2⟩ := HA4.out wx hC.b
      have HCx := Lib.hid hC
      clear hC hcl hu hi
      simp only [fillA, if_true, Act.put]
      simp
      go_wp2
      exact ⟨rfl, HCx.out.quiet 1 rfl⟩
    · intro L wx vals hi hu hcl hC
      simp [predL, predE, Region.binds, UpL] at hu
      have e0 : vals 0 = .agg #[.int .i64 a0, .int .i64 a1, .int .i64 a2] := hC.v 0 (by simp [hu])
      have e1 : vals 1 = .agg #[.int .i64 b0, .int .i64 b1, .int .i64 b2] := hC.v 1 (by simp [hu])
      have HL := Lib.hid (HSX.out wx hC.b)
      have HCx := Lib.hid hC
      clear hC hcl hu hi
      simp only [fillA, if_true, Act.put]
      simp
      simp only [e0, e1]
      clear e0 e1
      go_wp2_with fail
      (with_reducible refine HL.out.mono ?_); rintro e w9 ⟨rfl, hb⟩
      have HX := Lib.hid (HCx.out.step 2 (x := .int .i64 g) rfl (HCx.out.b.trans (hb.mono HCx.out.b.size)))
      clear hb
      go_wp2
      exact ⟨rfl, HX.out⟩
    · intro L wx vals hi hu hcl hC
      obtain ⟨h0, h1, h2, _, _, _⟩ := HA4.out wx hC.b
      have HCx := Lib.hid hC
      clear hC hcl hu hi
      simp only [fillA, if_true, Act.put]
      simp
      go_wp2
      exact ⟨rfl, HCx.out.quiet 3 rfl⟩
    · intro L wx vals hi hu hcl hC
      obtain ⟨_, _, _, h0, h1, h2⟩ := HA4.out wx hC.b
      have HCx := Lib.hid hC
      clear hC hcl hu hi
      simp only [fillA, if_true, Act.put]
      simp
      go_wp2
      exact ⟨rfl, HCx.out.quiet 4 rfl⟩
    · intro L wx vals hi hu hcl hC
      simp [predL, predE, Region.binds, UpL] at hu
      have e3 : vals 3 = .agg #[.int .i64 a0, .int .i64 a1, .int .i64 a2] := hC.v 3 (by simp [hu])
      have e4 : vals 4 = .agg #[.int .i64 b0, .int .i64 b1, .int .i64 b2] := hC.v 4 (by simp [hu])
      have HL := Lib.hid (HSY.out wx hC.b)
      have HCx := Lib.hid hC
      clear hC hcl hu hi
      simp only [fillA, if_true, Act.put]
      simp
      simp only [e3, e4]
      clear e3 e4
      go_wp2_with fail
      (with_reducible refine HL.out.mono ?_); rintro e w9 ⟨rfl, hb⟩
      have HX := Lib.hid (HCx.out.step 5 (x := .int .i64 m) rfl (HCx.out.b.trans (hb.mono HCx.out.b.size)))
      clear hb
      go_wp2
      exact ⟨rfl, HX.out⟩
    · intro L wx vals hi hu hcl hC
      simp [predL, predE, Region.binds, UpL] at hu
      have e2 : vals 2 = .int .i64 g := hC.v 2 (by simp [hu])
      have e5 : vals 5 = .int .i64 m := hC.v 5 (by simp [hu])
      have HCx := Lib.hid hC
      clear hC hcl hu hi
      simp only [fillA, if_true, Act.put]
      simp
      simp only [e2, e5]
      clear e2 e5
      go_wp2
      exact ⟨rfl, HCx.out.quiet 6 rfl⟩
    · intro L wx vals hi hu hcl hC
      simp [predL, predE, Region.binds, UpL] at hu
      have e6 : vals 6 = .int .i64 (g - m) := hC.v 6 (by simp [hu])
      have HCx := Lib.hid hC
      clear hC hcl hu hi
      simp only [fillA, if_true, Act.put]
      simp
      simp only [e6]
      clear e6
      go_wp2
      exact ⟨rfl, HCx.out.quiet 7 rfl⟩
  · intro wz vals L hC hall
    have e7 : vals 7 = .int .i64 (g - m) := hC.v 7 (hall 7 (by simp))
    have HF := Lib.hid (HA.out wz ((Below.refl _ ((w.alloc (.cells #[.int .i64 a0, .int .i64 a1, .int .i64 a2] 24)).alloc (.cells #[.int .i64 b0, .int .i64 b1, .int .i64 b2] 24))).drew.trans hC.b)).2
    simp only [fillA, if_true, Act.put]
    simp
    simp only [e7]
    clear hC hall e7
    go_wp2
    go_ret
    exact ⟨rfl, HF.out⟩
set_option maxHeartbeats 2000000 in
theorem pgap_any (a b : Sp) (w : World) : Calls Try.prog 17 #[aggSp a, aggSp b] w (Calm (.tuple #[.int .i64 (gaV a b), .int .i64 (gaE a b)]) w) := by
  have HA := two_sp a b 24 w
  have HVA := pvalidS_any a
  have HVB := pvalidS_any b
  have HGG := fun h1 h2 => pgapI_any a b h1 h2
  have hno := ga_no (a := a) (b := b)
  have hyes := ga_yes (a := a) (b := b)
  generalize gaV a b = V at *
  generalize boV a b = V2 at *
  generalize gaE a b = E at *
  generalize gaI a b = I at *
  generalize boI a b = I2 at *
  generalize spB a = va at *
  generalize spB b = vb at *
  obtain ⟨a0, a1, a2⟩ := a
  obtain ⟨b0, b1, b2⟩ := b
  unfold Calm aggSp at *
  unfold spC at HA
  simp only at HA HVA HVB HGG ⊢
  have HA := Lib.hid HA
  have HVA := Lib.hid HVA
  have HVB := Lib.hid HVB
  cases va
  · obtain ⟨e1, e2, e3⟩ := hno (by simp)
    simp only [e1, e2]
    clear hno hyes e1 e2 e3 HGG
    go_enter Try.func17, Try.ntmps17
    go_wp2_with fail
    (with_reducible refine (HVA.out _).mono ?_); rintro e w3 ⟨rfl, hb⟩
    have HF := Lib.hid (HA.out w3 hb).2
    clear hb
    go_wp2
    go_ret2
    exact ⟨rfl, HF.out⟩
  cases vb
  · obtain ⟨e1, e2, e3⟩ := hno (by simp)
    simp only [e1, e2]
    clear hno hyes e1 e2 e3 HGG
    go_enter Try.func17, Try.ntmps17
    go_wp2_with fail
    (with_reducible refine (HVA.out _).mono ?_); rintro e w3 ⟨rfl, hb⟩
    have HB3 := Lib.hid hb
    obtain ⟨⟨_, _, _, k0, k1, k2⟩, _⟩ := HA.out w3 hb
    clear hb
    go_wp2_with fail
    (with_reducible refine (HVB.out _).mono ?_); rintro e w4 ⟨rfl, hb⟩
    have HF := Lib.hid (HA.out w4 (HB3.out.trans (hb.mono HB3.out.size))).2
    clear hb k0 k1 k2
    go_wp2
    go_ret2
    exact ⟨rfl, HF.out⟩
  obtain ⟨e1, e2, e3⟩ := hyes rfl rfl
  simp only [e1, e2]
  have HG2 := Lib.hid (fun W => HGG (by first | trivial | rfl) (by first | trivial | rfl) W)
  clear hno hyes e1 e2 e3 HGG
  go_enter Try.func17, Try.ntmps17
  go_wp2_with fail
  (with_reducible refine (HVA.out _).mono ?_); rintro e w3 ⟨rfl, hb⟩
  have HB3 := Lib.hid hb
  obtain ⟨⟨_, _, _, k0, k1, k2⟩, _⟩ := HA.out w3 hb
  clear hb
  go_wp2_with fail
  (with_reducible refine (HVB.out _).mono ?_); rintro e w4 ⟨rfl, hb⟩
  have HB4 := Lib.hid (HB3.out.trans (hb.mono HB3.out.size))
  obtain ⟨⟨j0, j1, j2, j3, j4, j5⟩, _⟩ := HA.out w4 HB4.out
  clear hb k0 k1 k2 HB3
  go_wp2_with fail
  (with_reducible refine (HG2.out _).mono ?_); rintro e w5 ⟨rfl, hb⟩
  have HF := Lib.hid (HA.out w5 (HB4.out.trans (hb.mono HB4.out.size))).2
  clear hb j0 j1 j2 j3 j4 j5
  go_wp2
  go_ret2
  exact ⟨rfl, HF.out⟩
set_option maxHeartbeats 2000000 in
theorem pbound_any (a b : Sp) (w : World) : Calls Try.prog 19 #[aggSp a, aggSp b] w (Calm (.tuple #[.int .i64 (boV a b), .int .i64 (gaE a b)]) w) := by
  have HA := two_sp a b 24 w
  have HVA := pvalidS_any a
  have HVB := pvalidS_any b
  have HGG := fun h1 h2 => pboundI_any a b h1 h2
  have hno := ga_no (a := a) (b := b)
  have hyes := ga_yes (a := a) (b := b)
  generalize gaV a b = V at *
  generalize boV a b = V2 at *
  generalize gaE a b = E at *
  generalize gaI a b = I at *
  generalize boI a b = I2 at *
  generalize spB a = va at *
  generalize spB b = vb at *
  obtain ⟨a0, a1, a2⟩ := a
  obtain ⟨b0, b1, b2⟩ := b
  unfold Calm aggSp at *
  unfold spC at HA
  simp only at HA HVA HVB HGG ⊢
  have HA := Lib.hid HA
  have HVA := Lib.hid HVA
  have HVB := Lib.hid HVB
  cases va
  · obtain ⟨e1, e2, e3⟩ := hno (by simp)
    simp only [e1, e3]
    clear hno hyes e1 e2 e3 HGG
    go_enter Try.func19, Try.ntmps19
    go_wp2_with fail
    (with_reducible refine (HVA.out _).mono ?_); rintro e w3 ⟨rfl, hb⟩
    have HF := Lib.hid (HA.out w3 hb).2
    clear hb
    go_wp2
    go_ret2
    exact ⟨rfl, HF.out⟩
  cases vb
  · obtain ⟨e1, e2, e3⟩ := hno (by simp)
    simp only [e1, e3]
    clear hno hyes e1 e2 e3 HGG
    go_enter Try.func19, Try.ntmps19
    go_wp2_with fail
    (with_reducible refine (HVA.out _).mono ?_); rintro e w3 ⟨rfl, hb⟩
    have HB3 := Lib.hid hb
    obtain ⟨⟨_, _, _, k0, k1, k2⟩, _⟩ := HA.out w3 hb
    clear hb
    go_wp2_with fail
    (with_reducible refine (HVB.out _).mono ?_); rintro e w4 ⟨rfl, hb⟩
    have HF := Lib.hid (HA.out w4 (HB3.out.trans (hb.mono HB3.out.size))).2
    clear hb k0 k1 k2
    go_wp2
    go_ret2
    exact ⟨rfl, HF.out⟩
  obtain ⟨e1, e2, e3⟩ := hyes rfl rfl
  simp only [e1, e3]
  have HG2 := Lib.hid (fun W => HGG (by first | trivial | rfl) (by first | trivial | rfl) W)
  clear hno hyes e1 e2 e3 HGG
  go_enter Try.func19, Try.ntmps19
  go_wp2_with fail
  (with_reducible refine (HVA.out _).mono ?_); rintro e w3 ⟨rfl, hb⟩
  have HB3 := Lib.hid hb
  obtain ⟨⟨_, _, _, k0, k1, k2⟩, _⟩ := HA.out w3 hb
  clear hb
  go_wp2_with fail
  (with_reducible refine (HVB.out _).mono ?_); rintro e w4 ⟨rfl, hb⟩
  have HB4 := Lib.hid (HB3.out.trans (hb.mono HB3.out.size))
  obtain ⟨⟨j0, j1, j2, j3, j4, j5⟩, _⟩ := HA.out w4 HB4.out
  clear hb k0 k1 k2 HB3
  go_wp2_with fail
  (with_reducible refine (HG2.out _).mono ?_); rintro e w5 ⟨rfl, hb⟩
  have HF := Lib.hid (HA.out w5 (HB4.out.trans (hb.mono HB4.out.size))).2
  clear hb j0 j1 j2 j3 j4 j5
  go_wp2
  go_ret2
  exact ⟨rfl, HF.out⟩
set_option maxHeartbeats 2000000 in
theorem pfair_any (a b : Sp) (w : World) : Calls Try.prog 23 #[aggSp a, aggSp b] w (Calm (.bool (faB a b)) w) := by
  have HA := two_sp a b 24 w
  have HVA := pvalidS_any a
  have HVB := pvalidS_any b
  have HGG := fun h1 h2 => pexcess_any a b h1 h2
  have hf : faB a b = (spB a && spB b && decide (exI a b ≤ 0)) := by
    have : decide (gaI a b ≤ boI a b) = decide (exI a b ≤ 0) := by unfold exI; exact decide_eq_decide.2 (by omega)
    unfold faB; rw [this]
  rw [hf]
  clear hf
  generalize exI a b = x at *
  generalize spB a = va at *
  generalize spB b = vb at *
  obtain ⟨a0, a1, a2⟩ := a
  obtain ⟨b0, b1, b2⟩ := b
  unfold Calm aggSp at *
  unfold spC at HA
  simp only at HA HVA HVB HGG ⊢
  have HA := Lib.hid HA
  have HVA := Lib.hid HVA
  have HVB := Lib.hid HVB
  cases va
  · clear HGG
    go_enter Try.func23, Try.ntmps23
    go_wp2_with fail
    (with_reducible refine (HVA.out _).mono ?_); rintro e w3 ⟨rfl, hb⟩
    have HF := Lib.hid (HA.out w3 hb).2
    clear hb
    go_wp2
    go_ret
    exact ⟨rfl, HF.out⟩
  cases vb
  · clear HGG
    go_enter Try.func23, Try.ntmps23
    go_wp2_with fail
    (with_reducible refine (HVA.out _).mono ?_); rintro e w3 ⟨rfl, hb⟩
    have HB3 := Lib.hid hb
    obtain ⟨⟨_, _, _, k0, k1, k2⟩, _⟩ := HA.out w3 hb
    clear hb
    go_wp2_with fail
    (with_reducible refine (HVB.out _).mono ?_); rintro e w4 ⟨rfl, hb⟩
    have HF := Lib.hid (HA.out w4 (HB3.out.trans (hb.mono HB3.out.size))).2
    clear hb k0 k1 k2
    go_wp2
    go_ret
    exact ⟨rfl, HF.out⟩
  have HG2 := Lib.hid (fun W => HGG (by first | trivial | rfl) (by first | trivial | rfl) W)
  clear HGG
  go_enter Try.func23, Try.ntmps23
  go_wp2_with fail
  (with_reducible refine (HVA.out _).mono ?_); rintro e w3 ⟨rfl, hb⟩
  have HB3 := Lib.hid hb
  obtain ⟨⟨_, _, _, k0, k1, k2⟩, _⟩ := HA.out w3 hb
  clear hb
  go_wp2_with fail
  (with_reducible refine (HVB.out _).mono ?_); rintro e w4 ⟨rfl, hb⟩
  have HB4 := Lib.hid (HB3.out.trans (hb.mono HB3.out.size))
  obtain ⟨⟨j0, j1, j2, j3, j4, j5⟩, _⟩ := HA.out w4 HB4.out
  clear hb k0 k1 k2 HB3
  go_wp2_with fail
  (with_reducible refine (HG2.out _).mono ?_); rintro e w5 ⟨rfl, hb⟩
  have HF := Lib.hid (HA.out w5 (HB4.out.trans (hb.mono HB4.out.size))).2
  clear hb j0 j1 j2 j3 j4 j5
  go_wp2
  go_ret
  exact ⟨ret_bool (by simp), HF.out⟩
end Go.Proofs.Ytcdeecigiijabaa

