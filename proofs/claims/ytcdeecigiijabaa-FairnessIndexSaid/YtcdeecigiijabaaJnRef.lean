/-
  Layers 13 and 14: contracts of the reference's ValidSample, service, Gap, Bound, Fair. Written by gen_jnref.py.
-/
import Derived.Test.YtcdeecigiijabaaJnPlain
import Derived.Test.YtcdeecigiijabaaStA
import Derived.Test.YtcdeecigiijabaaTgRef
import Derived.Deep.LoopGhost
import Derived.Deep.QuietTactic
import Derived.BigQuiet
import Derived.LoopTactic
namespace Go.Proofs.Ytcdeecigiijabaa
open Go.ChangeShapes Go.WideShapes Go.ChangeAt Go.RowKit
set_option linter.unusedVariables false

def aggSp (s : Sp) : Value := .agg #[.int .i64 s.w, .int .i64 s.b, .int .i64 s.m]
def spC (s : Sp) : Array Value := #[.int .i64 s.w, .int .i64 s.b, .int .i64 s.m]
theorem rvalidS_any (s : Sp) (w : World) : Calls Try.prog 22 #[aggSp s] w (Calm (.bool (spB s)) w) := by
  obtain ⟨x, b, m⟩ := s
  have HB := Lib.hid ((Below.refl w.heap.size w).alloc (Nat.le_refl _) (.cells #[.int .i64 x, .int .i64 b, .int .i64 m] 24))
  have HG := rweight_any x
  have hcases : (wtB x = false ∧ spB ⟨x, b, m⟩ = false) ∨ (wtB x = true ∧ b < 0 ∧ spB ⟨x, b, m⟩ = false) ∨ (wtB x = true ∧ 0 ≤ b ∧ 2147483648 < b ∧ spB ⟨x, b, m⟩ = false) ∨ (wtB x = true ∧ 0 ≤ b ∧ b ≤ 2147483648 ∧ m < 0 ∧ spB ⟨x, b, m⟩ = false) ∨ (wtB x = true ∧ 0 ≤ b ∧ b ≤ 2147483648 ∧ 0 ≤ m ∧ spB ⟨x, b, m⟩ = decide (m ≤ 4096)) := by
    unfold spB
    cases hx : wtB x with
    | false => exact .inl ⟨rfl, by simp⟩
    | true =>
      rcases (by omega : b < 0 ∨ (0 ≤ b ∧ 2147483648 < b) ∨ (0 ≤ b ∧ b ≤ 2147483648)) with h | ⟨h, h2⟩ | ⟨h, h2⟩
      · exact .inr (.inl ⟨rfl, h, by simp; omega⟩)
      · exact .inr (.inr (.inl ⟨rfl, h, h2, by simp; omega⟩))
      · rcases (by omega : m < 0 ∨ 0 ≤ m) with h3 | h3
        · exact .inr (.inr (.inr (.inl ⟨rfl, h, h2, h3, by simp; omega⟩)))
        · exact .inr (.inr (.inr (.inr ⟨rfl, h, h2, h3, by simp [h, h2, h3]⟩)))
  unfold Calm aggSp
  rcases hcases with ⟨h1, e⟩ | ⟨h1, h2, e⟩ | ⟨h1, h2, h3, e⟩ | ⟨h1, h2, h3, h4, e⟩ | ⟨h1, h2, h3, h4, e⟩
  all_goals
    rw [e]
    rw [h1] at HG
    have HG2 := Lib.hid HG
    clear HG e h1
    go_enter Try.func22, Try.ntmps22
    go_wp2_with fail
    (with_reducible refine (HG2.out _).mono ?_); rintro e w' ⟨rfl, rfl⟩
    go_wp2
    go_ret
    exact ⟨rfl, HB.out⟩
theorem rservice_any (s : Sp) (h : spB s = true) (w : World) : Calls Try.prog 35 #[aggSp s] w (Calm (.int .i64 (svI s)) w) := by
  have hb := sv_bd h
  obtain ⟨h1, h2, h3⟩ := sp_yes h
  have hu := un_bd h1
  have hw := wt_yes h1
  obtain ⟨x, b, m⟩ := s
  unfold svI at hb ⊢
  simp only at hb h2 h3 hu hw ⊢
  have HB := Lib.hid ((Below.refl w.heap.size w).alloc (Nat.le_refl _) (.cells #[.int .i64 x, .int .i64 b, .int .i64 m] 24))
  obtain ⟨u, hue⟩ : ∃ u, unC x = u := ⟨_, rfl⟩
  have hq : 720720 / x = u := hue
  rw [hue] at hb hu ⊢
  obtain ⟨y, hy⟩ : ∃ y, b * u = y := ⟨_, rfl⟩
  rw [hy] at hb ⊢
  have hdv : IntKind.i64.wrap (Int.tdiv 720720 x) = u := by
    rw [Int.tdiv_eq_ediv_of_nonneg (by omega), hq]; exact IntWalk.i64_in _ (by omega)
  have hwm : IntKind.i64.wrap (b * u) = y := by rw [hy]; exact IntWalk.i64_in _ (by omega)
  have hx0 : ¬ x = 0 := by omega
  have hx1 : (x == 0) = false := by simpa using hx0
  unfold Calm aggSp
  clear h h1 hue
  go_enter Try.func35, Try.ntmps35
  go_wp2
  go_quiet (fail)
  go_wp2
  go_ret
  exact ⟨rfl, Below_drewN HB.out _⟩
/-- Two samples in blocks of their own. -/
theorem two_sp (a b : Sp) (t : TypeId) (w : World) : ∀ W, Below ((w.alloc (.cells (spC a) t)).alloc (.cells (spC b) t)).heap.size ((w.alloc (.cells (spC a) t)).alloc (.cells (spC b) t)) W →
    (W.cell? ⟨w.heap.size, 0, none⟩ = some (.int .i64 a.w) ∧ W.cell? ⟨w.heap.size, 1, none⟩ = some (.int .i64 a.b) ∧ W.cell? ⟨w.heap.size, 2, none⟩ = some (.int .i64 a.m) ∧
     W.cell? ⟨w.heap.size + 1, 0, none⟩ = some (.int .i64 b.w) ∧ W.cell? ⟨w.heap.size + 1, 1, none⟩ = some (.int .i64 b.b) ∧ W.cell? ⟨w.heap.size + 1, 2, none⟩ = some (.int .i64 b.m)) ∧ Below w.heap.size w W := by
  intro W hb
  have ha := ((Whole.fresh w t (spC a)).alloc (.cells (spC b) t)).later hb
  have hbb := (Whole.fresh (w.alloc (.cells (spC a) t)) t (spC b)).later hb
  rw [World.size_alloc] at hbb
  unfold spC at ha hbb
  refine ⟨⟨by rw [ha.read]; rfl, by rw [ha.read]; rfl, by rw [ha.read]; rfl, by rw [hbb.read]; rfl, by rw [hbb.read]; rfl, by rw [hbb.read]; rfl⟩, ?_⟩
  exact (((Below.refl w.heap.size w).alloc (Nat.le_refl _) _).alloc (by simp) _).trans (hb.mono (by simp; omega))
def gaE (a b : Sp) : Int := if spB a = true ∧ spB b = true then 0 else 1
def gaV (a b : Sp) : Int := if spB a = true ∧ spB b = true then gaI a b else 0
def boV (a b : Sp) : Int := if spB a = true ∧ spB b = true then boI a b else 0
theorem ga_no {a b : Sp} (h : ¬ (spB a = true ∧ spB b = true)) : gaE a b = 1 ∧ gaV a b = 0 ∧ boV a b = 0 := by unfold gaE gaV boV; rw [if_neg h, if_neg h, if_neg h]; exact ⟨rfl, rfl, rfl⟩
theorem ga_yes {a b : Sp} (h : spB a = true) (h2 : spB b = true) : gaE a b = 0 ∧ gaV a b = gaI a b ∧ boV a b = boI a b := by unfold gaE gaV boV; rw [if_pos ⟨h, h2⟩, if_pos ⟨h, h2⟩, if_pos ⟨h, h2⟩]; exact ⟨rfl, rfl, rfl⟩
set_option maxRecDepth 100000 in
set_option maxHeartbeats 4000000 in
theorem rgap_any (a b : Sp) (w : World) : Calls Try.prog 18 #[aggSp a, aggSp b] w (Calm (.tuple #[.int .i64 (gaV a b), .int .i64 (gaE a b)]) w) := by
  have HA := two_sp a b 24 w
  have HVA := rvalidS_any a
  have HVB := rvalidS_any b
  have HSA := fun h => rservice_any a h
  have HSB := fun h => rservice_any b h
  have hga : spB a = true → spB b = true → (0 ≤ svI a ∧ svI a ≤ 1547734414786560) ∧ (0 ≤ svI b ∧ svI b ≤ 1547734414786560) ∧ gaI a b = max (svI a - svI b) (svI b - svI a) := fun h1 h2 => ⟨sv_bd h1, sv_bd h2, rfl⟩
  have hno := ga_no (a := a) (b := b)
  have hyes := ga_yes (a := a) (b := b)
  generalize gaV a b = V at *
  generalize gaE a b = E at *
  generalize gaI a b = I at *
  generalize svI a = x at *
  generalize svI b = y at *
  generalize spB a = va at *
  generalize spB b = vb at *
  obtain ⟨a0, a1, a2⟩ := a
  obtain ⟨b0, b1, b2⟩ := b
  unfold Calm aggSp at *
  unfold spC at HA
  simp only at HA HVA HVB HSA HSB ⊢
  have HA := Lib.hid HA
  have HVA := Lib.hid HVA
  have HVB := Lib.hid HVB
  cases va
  · obtain ⟨e1, e2, _⟩ := hno (by simp)
    rw [e1, e2]
    clear hno hyes hga e1 e2 HSA HSB
    go_enter Try.func18, Try.ntmps18
    go_wp2_with fail
    (with_reducible refine (HVA.out _).mono ?_); rintro e w3 ⟨rfl, hb⟩
    have HF := Lib.hid (HA.out w3 hb).2
    clear hb
    go_wp2
    go_ret2
    exact ⟨rfl, HF.out⟩
  cases vb
  · obtain ⟨e1, e2, _⟩ := hno (by simp)
    rw [e1, e2]
    clear hno hyes hga e1 e2 HSA HSB
    go_enter Try.func18, Try.ntmps18
    go_wp2_with fail
    (with_reducible refine (HVA.out _).mono ?_); rintro e w3 ⟨rfl, hb⟩
    have HB3 := Lib.hid hb
    obtain ⟨⟨_, _, _, k0, k1, k2⟩, _⟩ := HA.out w3 hb
    clear hb
    go_wp2_with fail
    (with_reducible refine (HVB.out _).mono ?_); rintro e w4 ⟨rfl, hb⟩
    have HF := Lib.hid (HA.out w4 (HB3.out.trans (hb.mono HB3.out.size))).2
    clear hb k0 k1 k2
    go_wp2
    go_ret2
    exact ⟨rfl, HF.out⟩
  obtain ⟨e1, e2, _⟩ := hyes rfl rfl
  obtain ⟨hx, hy, hi⟩ := hga rfl rfl
  rw [e1, e2, hi]
  have HSA2 := Lib.hid (fun W => HSA (by first | trivial | rfl) W)
  have HSB2 := Lib.hid (fun W => HSB (by first | trivial | rfl) W)
  clear hno hyes hga e1 e2 hi
  go_enter Try.func18, Try.ntmps18
  go_wp2_with fail
  (with_reducible refine (HVA.out _).mono ?_); rintro e w3 ⟨rfl, hb⟩
  have HB3 := Lib.hid hb
  obtain ⟨⟨_, _, _, k0, k1, k2⟩, _⟩ := HA.out w3 hb
  clear hb
  go_wp2_with fail
  (with_reducible refine (HVB.out _).mono ?_); rintro e w4 ⟨rfl, hb⟩
  have HB4 := Lib.hid (HB3.out.trans (hb.mono HB3.out.size))
  have HA4 := Lib.hid (fun (W : World) (hw : Below w4.drew.heap.size w4.drew W) => (HA.out W (HB4.out.trans (((Below.refl _ w4).drew.trans hw).mono HB4.out.size))).1)
  have HSX := Lib.hid (fun (W : World) (hw : Below w4.drew.heap.size w4.drew W) => HSA2.out W)
  have HSY := Lib.hid (fun (W : World) (hw : Below w4.drew.heap.size w4.drew W) => HSB2.out W)
  have hs1 : IntKind.i64.wrap (x - y) = x - y := IntWalk.i64_in _ (by omega)
  have hs2 : IntKind.i64.wrap (y - x) = y - x := IntWalk.i64_in _ (by omega)
  clear hb k0 k1 k2 HB3 HSA HSB HSA2 HSB2 HVA HVB
  go_wp2_with fail
  refine wp_region_looseS 25 (by kernel_rfl) (by kernel_rfl) (StB w4.drew (fun i => [.agg #[.int .i64 a0, .int .i64 a1, .int .i64 a2], .int .i64 x, .agg #[.int .i64 b0, .int .i64 b1, .int .i64 b2], .int .i64 y, .int .i64 (x - y), .agg #[.int .i64 b0, .int .i64 b1, .int .i64 b2], .int .i64 y, .agg #[.int .i64 a0, .int .i64 a1, .int .i64 a2], .int .i64 x, .int .i64 (y - x), .int .i64 (max (x - y) (y - x)), .int .i64 (max (x - y) (y - x)), .int .i64 0].getD i undef)) rfl StB.start ?_ ?_
  · simp only [OblAllS]
    refine ⟨?_, ?_, ?_, ?_, ?_, ?_, ?_, ?_, ?_, ?_, ?_, ?_, ?_, trivial⟩
    · intro L wx vals hi hu hcl hC
      obtain ⟨h0, h1, h2, _, _, _⟩ := HA4.out wx hC.b
      have HCx := Lib.hid hC
      clear hC hcl hu hi
      simp only [fillA, if_true, Act.put]
      simp
      go_wp2
      exact ⟨rfl, HCx.out.quiet 0 rfl⟩
    · intro L wx vals hi hu hcl hC
      simp [predL, predE, Region.binds, UpL] at hu
      have e0 : vals 0 = .agg #[.int .i64 a0, .int .i64 a1, .int .i64 a2] := hC.v 0 (by simp [hu])
      have HL := Lib.hid (HSX.out wx hC.b)
      have HCx := Lib.hid hC
      clear hC hcl hu hi
      simp only [fillA, if_true, Act.put]
      simp
      simp only [e0]
      clear e0
      go_wp2_with fail
      (with_reducible refine HL.out.mono ?_); rintro e w9 ⟨rfl, hb⟩
      have HX := Lib.hid (HCx.out.step 1 (x := .int .i64 x) rfl (HCx.out.b.trans (hb.mono HCx.out.b.size)))
      clear hb
      go_wp2
      exact ⟨rfl, HX.out⟩
    · intro L wx vals hi hu hcl hC
      obtain ⟨_, _, _, h0, h1, h2⟩ := HA4.out wx hC.b
      have HCx := Lib.hid hC
      clear hC hcl hu hi
      simp only [fillA, if_true, Act.put]
      simp
      go_wp2
      exact ⟨rfl, HCx.out.quiet 2 rfl⟩
    · intro L wx vals hi hu hcl hC
      simp [predL, predE, Region.binds, UpL] at hu
      have e2 : vals 2 = .agg #[.int .i64 b0, .int .i64 b1, .int .i64 b2] := hC.v 2 (by simp [hu])
      have HL := Lib.hid (HSY.out wx hC.b)
      have HCx := Lib.hid hC
      clear hC hcl hu hi
      simp only [fillA, if_true, Act.put]
      simp
      simp only [e2]
      clear e2
      go_wp2_with fail
      (with_reducible refine HL.out.mono ?_); rintro e w9 ⟨rfl, hb⟩
      have HX := Lib.hid (HCx.out.step 3 (x := .int .i64 y) rfl (HCx.out.b.trans (hb.mono HCx.out.b.size)))
      clear hb
      go_wp2
      exact ⟨rfl, HX.out⟩
    · intro L wx vals hi hu hcl hC
      simp [predL, predE, Region.binds, UpL] at hu
      have e1 : vals 1 = .int .i64 x := hC.v 1 (by simp [hu])
      have e3 : vals 3 = .int .i64 y := hC.v 3 (by simp [hu])
      have HCx := Lib.hid hC
      clear hC hcl hu hi
      simp only [fillA, if_true, Act.put]
      simp
      simp only [e1, e3]
      clear e1 e3
      go_wp2
      exact ⟨rfl, HCx.out.quiet 4 rfl⟩
    · intro L wx vals hi hu hcl hC
      obtain ⟨_, _, _, h0, h1, h2⟩ := HA4.out wx hC.b
      have HCx := Lib.hid hC
      clear hC hcl hu hi
      simp only [fillA, if_true, Act.put]
      simp
      go_wp2
      exact ⟨rfl, HCx.out.quiet 5 rfl⟩
    · intro L wx vals hi hu hcl hC
      simp [predL, predE, Region.binds, UpL] at hu
      have e5 : vals 5 = .agg #[.int .i64 b0, .int .i64 b1, .int .i64 b2] := hC.v 5 (by simp [hu])
      have HL := Lib.hid (HSY.out wx hC.b)
      have HCx := Lib.hid hC
      clear hC hcl hu hi
      simp only [fillA, if_true, Act.put]
      simp
      simp only [e5]
      clear e5
      go_wp2_with fail
      (with_reducible refine HL.out.mono ?_); rintro e w9 ⟨rfl, hb⟩
      have HX := Lib.hid (HCx.out.step 6 (x := .int .i64 y) rfl (HCx.out.b.trans (hb.mono HCx.out.b.size)))
      clear hb
      go_wp2
      exact ⟨rfl, HX.out⟩
    · intro L wx vals hi hu hcl hC
      obtain ⟨h0, h1, h2, _, _, _⟩ := HA4.out wx hC.b
      have HCx := Lib.hid hC
      clear hC hcl hu hi
      simp only [fillA, if_true, Act.put]
      simp
      go_wp2
      exact ⟨rfl, HCx.out.quiet 7 rfl⟩
    · intro L wx vals hi hu hcl hC
      simp [predL, predE, Region.binds, UpL] at hu
      have e7 : vals 7 = .agg #[.int .i64 a0, .int .i64 a1, .int .i64 a2] := hC.v 7 (by simp [hu])
      have HL := Lib.hid (HSX.out wx hC.b)
      have HCx := Lib.hid hC
      clear hC hcl hu hi
      simp only [fillA, if_true, Act.put]
      simp
      simp only [e7]
      clear e7
      go_wp2_with fail
      (with_reducible refine HL.out.mono ?_); rintro e w9 ⟨rfl, hb⟩
      have HX := Lib.hid (HCx.out.step 8 (x := .int .i64 x) rfl (HCx.out.b.trans (hb.mono HCx.out.b.size)))
      clear hb
      go_wp2
      exact ⟨rfl, HX.out⟩
    · intro L wx vals hi hu hcl hC
      simp [predL, predE, Region.binds, UpL] at hu
      have e6 : vals 6 = .int .i64 y := hC.v 6 (by simp [hu])
      have e8 : vals 8 = .int .i64 x := hC.v 8 (by simp [hu])
      have HCx := Lib.hid hC
      clear hC hcl hu hi
      simp only [fillA, if_true, Act.put]
      simp
      simp only [e6, e8]
      clear e6 e8
      go_wp2
      exact ⟨rfl, HCx.out.quiet 9 rfl⟩
    · intro L wx vals hi hu hcl hC
      simp [predL, predE, Region.binds, UpL] at hu
      have e4 : vals 4 = .int .i64 (x - y) := hC.v 4 (by simp [hu])
      have e9 : vals 9 = .int .i64 (y - x) := hC.v 9 (by simp [hu])
      have HCx := Lib.hid hC
      clear hC hcl hu hi
      simp only [fillA, if_true, Act.put]
      simp
      simp only [e4, e9]
      clear e4 e9
      go_wp2
      all_goals
        exact ⟨rfl, HCx.out.quiet 10 (congrArg (Value.int .i64) (by omega))⟩
    · intro L wx vals hi hu hcl hC
      simp [predL, predE, Region.binds, UpL] at hu
      have e10 : vals 10 = .int .i64 (max (x - y) (y - x)) := hC.v 10 (by simp [hu])
      have HCx := Lib.hid hC
      clear hC hcl hu hi
      simp only [fillA, if_true, Act.put]
      simp
      simp only [e10]
      clear e10
      go_wp2
      exact ⟨rfl, HCx.out.quiet 11 rfl⟩
    · intro L wx vals hi hu hcl hC
      have HCx := Lib.hid hC
      clear hC hcl hu hi
      simp only [fillA, if_true, Act.put]
      simp
      go_wp2
      exact ⟨rfl, HCx.out.quiet 12 rfl⟩
  · intro wz vals L hC hall
    have e11 : vals 11 = .int .i64 (max (x - y) (y - x)) := hC.v 11 (hall 11 (by simp))
    have e12 : vals 12 = .int .i64 0 := hC.v 12 (hall 12 (by simp))
    have HF := Lib.hid (HA.out wz (HB4.out.trans (((Below.refl _ w4).drew.trans hC.b).mono HB4.out.size))).2
    simp only [fillA, if_true, Act.put]
    simp
    simp only [e11, e12]
    clear hC hall e11 e12
    go_wp2
    go_ret2
    exact ⟨rfl, HF.out⟩
set_option maxRecDepth 100000 in
set_option maxHeartbeats 4000000 in
theorem rbound_any (a b : Sp) (w : World) : Calls Try.prog 20 #[aggSp a, aggSp b] w (Calm (.tuple #[.int .i64 (boV a b), .int .i64 (gaE a b)]) w) := by
  have HA := two_sp a b 24 w
  have HVA := rvalidS_any a
  have HVB := rvalidS_any b
  have hga : spB a = true → spB b = true → (1 ≤ a.w ∧ 1 ≤ b.w) ∧ (0 ≤ a.m * unC a.w ∧ a.m * unC a.w ≤ 2952069120) ∧ (0 ≤ b.m * unC b.w ∧ b.m * unC b.w ≤ 2952069120) ∧ boI a b = a.m * unC a.w + b.m * unC b.w ∧ (45045 ≤ unC a.w ∧ unC a.w ≤ 720720) ∧ (45045 ≤ unC b.w ∧ unC b.w ≤ 720720) := fun h1 h2 => by
    obtain ⟨k1, _, k3⟩ := sp_yes h1
    obtain ⟨j1, _, j3⟩ := sp_yes h2
    have u1 := un_bd k1
    have u2 := un_bd j1
    exact ⟨⟨(wt_yes k1).1, (wt_yes j1).1⟩, mul_bd (A := 4096) (B := 720720) k3.1 k3.2 (by omega) u1.2, mul_bd (A := 4096) (B := 720720) j3.1 j3.2 (by omega) u2.2, rfl, u1, u2⟩
  have hno := ga_no (a := a) (b := b)
  have hyes := ga_yes (a := a) (b := b)
  generalize boV a b = V at *
  generalize gaE a b = E at *
  generalize boI a b = I at *
  generalize spB a = va at *
  generalize spB b = vb at *
  obtain ⟨a0, a1, a2⟩ := a
  obtain ⟨b0, b1, b2⟩ := b
  unfold Calm aggSp at *
  unfold spC at HA
  simp only at HA HVA HVB hga ⊢
  have HA := Lib.hid HA
  have HVA := Lib.hid HVA
  have HVB := Lib.hid HVB
  cases va
  · obtain ⟨e1, _, e2⟩ := hno (by simp)
    rw [e1, e2]
    clear hno hyes hga e1 e2
    go_enter Try.func20, Try.ntmps20
    go_wp2_with fail
    (with_reducible refine (HVA.out _).mono ?_); rintro e w3 ⟨rfl, hb⟩
    have HF := Lib.hid (HA.out w3 hb).2
    clear hb
    go_wp2
    go_ret2
    exact ⟨rfl, HF.out⟩
  cases vb
  · obtain ⟨e1, _, e2⟩ := hno (by simp)
    rw [e1, e2]
    clear hno hyes hga e1 e2
    go_enter Try.func20, Try.ntmps20
    go_wp2_with fail
    (with_reducible refine (HVA.out _).mono ?_); rintro e w3 ⟨rfl, hb⟩
    have HB3 := Lib.hid hb
    obtain ⟨⟨_, _, _, k0, k1, k2⟩, _⟩ := HA.out w3 hb
    clear hb
    go_wp2_with fail
    (with_reducible refine (HVB.out _).mono ?_); rintro e w4 ⟨rfl, hb⟩
    have HF := Lib.hid (HA.out w4 (HB3.out.trans (hb.mono HB3.out.size))).2
    clear hb k0 k1 k2
    go_wp2
    go_ret2
    exact ⟨rfl, HF.out⟩
  obtain ⟨e1, _, e2⟩ := hyes rfl rfl
  obtain ⟨⟨hw1, hw2⟩, hx, hy, hi, hu1, hu2⟩ := hga rfl rfl
  rw [e1, e2, hi]
  obtain ⟨u, hue⟩ : ∃ u, unC a0 = u := ⟨_, rfl⟩
  obtain ⟨v, hve⟩ : ∃ v, unC b0 = v := ⟨_, rfl⟩
  have hq : 720720 / a0 = u := hue
  have hq2 : 720720 / b0 = v := hve
  rw [hue] at hx hu1 ⊢
  rw [hve] at hy hu2 ⊢
  obtain ⟨x, hxe⟩ : ∃ x, a2 * u = x := ⟨_, rfl⟩
  obtain ⟨y, hye⟩ : ∃ y, b2 * v = y := ⟨_, rfl⟩
  rw [hxe] at hx ⊢
  rw [hye] at hy ⊢
  have d1 : IntKind.i64.wrap (Int.tdiv 720720 a0) = u := by rw [Int.tdiv_eq_ediv_of_nonneg (by omega), hq]; exact IntWalk.i64_in _ (by omega)
  have d2 : IntKind.i64.wrap (Int.tdiv 720720 b0) = v := by rw [Int.tdiv_eq_ediv_of_nonneg (by omega), hq2]; exact IntWalk.i64_in _ (by omega)
  have m1 : IntKind.i64.wrap (a2 * u) = x := by rw [hxe]; exact IntWalk.i64_in _ (by omega)
  have m2 : IntKind.i64.wrap (b2 * v) = y := by rw [hye]; exact IntWalk.i64_in _ (by omega)
  have s1 : IntKind.i64.wrap (x + y) = x + y := IntWalk.i64_in _ (by omega)
  have hx1 : (a0 == 0) = false := by simp; omega
  have hx2 : (b0 == 0) = false := by simp; omega
  clear hno hyes hga e1 e2 hi hue hve
  go_enter Try.func20, Try.ntmps20
  go_wp2_with fail
  (with_reducible refine (HVA.out _).mono ?_); rintro e w3 ⟨rfl, hb⟩
  have HB3 := Lib.hid hb
  obtain ⟨⟨_, _, _, k0, k1, k2⟩, _⟩ := HA.out w3 hb
  clear hb
  go_wp2_with fail
  (with_reducible refine (HVB.out _).mono ?_); rintro e w4 ⟨rfl, hb⟩
  have HB4 := Lib.hid (HB3.out.trans (hb.mono HB3.out.size))
  obtain ⟨⟨j0, j1, j2, j3, j4, j5⟩, hF⟩ := HA.out w4 HB4.out
  have HF := Lib.hid hF
  clear hb k0 k1 k2 HB3 HVA HVB HB4 hF
  go_wp2
  go_quiet (fail)
  go_wp2
  go_ret2
  exact ⟨rfl, Below_drewN HF.out _⟩
noncomputable def faB (a b : Sp) : Bool := spB a && spB b && decide (gaI a b ≤ boI a b)
set_option maxHeartbeats 2000000 in
theorem rfair_any (a b : Sp) (w : World) : Calls Try.prog 24 #[aggSp a, aggSp b] w (Calm (.bool (faB a b)) w) := by
  have HA := two_sp a b 24 w
  have HGA := rgap_any a b
  have HBO := rbound_any a b
  have hno : ¬ (spB a = true ∧ spB b = true) → gaE a b = 1 ∧ faB a b = false := fun h => ⟨(ga_no h).1, by
    unfold faB
    cases h1 : spB a with
    | false => rfl
    | true => cases h2 : spB b with
      | false => rfl
      | true => exact absurd ⟨h1, h2⟩ h⟩
  have hyes : spB a = true ∧ spB b = true → gaE a b = 0 ∧ faB a b = decide (gaV a b ≤ boV a b) := fun ⟨h1, h2⟩ => by
    obtain ⟨e1, e2, e3⟩ := ga_yes h1 h2
    refine ⟨e1, ?_⟩
    unfold faB; rw [h1, h2, e2, e3]; rfl
  have hc : (gaE a b = 1 ∧ faB a b = false) ∨ (gaE a b = 0 ∧ faB a b = decide (gaV a b ≤ boV a b)) := by
    by_cases h : spB a = true ∧ spB b = true
    · exact .inr (hyes h)
    · exact .inl (hno h)
  clear hno hyes
  generalize gaV a b = V at *
  generalize gaE a b = E at *
  generalize boV a b = B at *
  generalize faB a b = F at *
  obtain ⟨a0, a1, a2⟩ := a
  obtain ⟨b0, b1, b2⟩ := b
  unfold Calm aggSp at *
  unfold spC at HA
  simp only at HA HGA HBO
  have HA := Lib.hid HA
  rcases hc with ⟨rfl, rfl⟩ | ⟨rfl, rfl⟩
  all_goals
    have HGA2 := Lib.hid HGA
    have HBO2 := Lib.hid HBO
    clear HGA HBO
    go_enter Try.func24, Try.ntmps24
    go_wp2_with fail
    (with_reducible refine (HGA2.out _).mono ?_); rintro e w3 ⟨rfl, hb⟩
    have HB3 := Lib.hid hb
    obtain ⟨⟨k0, k1, k2, k3, k4, k5⟩, _⟩ := HA.out w3 hb
    clear hb
    go_wp2_with fail
    (with_reducible refine (HBO2.out _).mono ?_); rintro e w4 ⟨rfl, hb⟩
    have HF := Lib.hid (HA.out w4 (HB3.out.trans (hb.mono HB3.out.size))).2
    clear hb k0 k1 k2 k3 k4 k5
    go_wp2
    go_ret
    exact ⟨rfl, HF.out⟩
end Go.Proofs.Ytcdeecigiijabaa

