/-
  Layer 14: the walk of the statement on the triangle (FairnessTriangle). Every input; no condition.
-/
import Derived.Test.YtcdeecigiijabaaFaSmp
namespace Go.Proofs.Ytcdeecigiijabaa
open Go.ChangeShapes Go.WideShapes Go.ChangeAt Go.RowKit
set_option linter.unusedVariables false

/-- Three samples in blocks of their own. -/
theorem three_sp (a b c : Sp) (t : TypeId) (w : World) : ∀ W, Below (((w.alloc (.cells (spC a) t)).alloc (.cells (spC b) t)).alloc (.cells (spC c) t)).heap.size (((w.alloc (.cells (spC a) t)).alloc (.cells (spC b) t)).alloc (.cells (spC c) t)) W →
    (W.cell? ⟨w.heap.size, 0, none⟩ = some (.int .i64 a.w) ∧ W.cell? ⟨w.heap.size, 1, none⟩ = some (.int .i64 a.b) ∧ W.cell? ⟨w.heap.size, 2, none⟩ = some (.int .i64 a.m) ∧
     W.cell? ⟨w.heap.size + 1, 0, none⟩ = some (.int .i64 b.w) ∧ W.cell? ⟨w.heap.size + 1, 1, none⟩ = some (.int .i64 b.b) ∧ W.cell? ⟨w.heap.size + 1, 2, none⟩ = some (.int .i64 b.m) ∧
     W.cell? ⟨w.heap.size + 2, 0, none⟩ = some (.int .i64 c.w) ∧ W.cell? ⟨w.heap.size + 2, 1, none⟩ = some (.int .i64 c.b) ∧ W.cell? ⟨w.heap.size + 2, 2, none⟩ = some (.int .i64 c.m)) ∧ Below w.heap.size w W := by
  intro W hb
  have ha := (((Whole.fresh w t (spC a)).alloc (.cells (spC b) t)).alloc (.cells (spC c) t)).later hb
  have hbb := ((Whole.fresh (w.alloc (.cells (spC a) t)) t (spC b)).alloc (.cells (spC c) t)).later hb
  have hc := (Whole.fresh ((w.alloc (.cells (spC a) t)).alloc (.cells (spC b) t)) t (spC c)).later hb
  rw [World.size_alloc] at hbb
  rw [World.size_alloc, World.size_alloc] at hc
  unfold spC at ha hbb hc
  refine ⟨⟨by rw [ha.read]; rfl, by rw [ha.read]; rfl, by rw [ha.read]; rfl, by rw [hbb.read]; rfl, by rw [hbb.read]; rfl, by rw [hbb.read]; rfl, by rw [hc.read]; rfl, by rw [hc.read]; rfl, by rw [hc.read]; rfl⟩, ?_⟩
  exact ((((Below.refl w.heap.size w).alloc (Nat.le_refl _) _).alloc (by simp) _).alloc (by simp; omega) _).trans (hb.mono (by simp; omega))
theorem tri_facts (x y z : Sp) : gaE x y = 1 ∨ (gaE x y = 0 ∧ gaE y z = 1) ∨ (gaE x y = 0 ∧ gaE y z = 0 ∧ gaE x z = 1) ∨
    (gaE x y = 0 ∧ gaE y z = 0 ∧ gaE x z = 0 ∧ gaE y x = 0 ∧ gaV y x = gaV x y ∧ gaV x z ≤ gaV x y + gaV y z ∧ (0 ≤ gaV x y ∧ gaV x y ≤ 1547734414786560) ∧ (0 ≤ gaV y z ∧ gaV y z ≤ 1547734414786560)) := by
  by_cases h1 : spB x = true ∧ spB y = true
  · by_cases h2 : spB y = true ∧ spB z = true
    · have h3 : spB x = true ∧ spB z = true := ⟨h1.1, h2.2⟩
      obtain ⟨e1, f1, _⟩ := ga_yes h1.1 h1.2
      obtain ⟨e2, f2, _⟩ := ga_yes h2.1 h2.2
      obtain ⟨e3, f3, _⟩ := ga_yes h3.1 h3.2
      obtain ⟨e4, f4, _⟩ := ga_yes h1.2 h1.1
      rw [f1, f2, f3, f4]
      exact .inr (.inr (.inr ⟨e1, e2, e3, e4, ga_sym y x, ga_tri x y z, ga_bd h1.1 h1.2, ga_bd h2.1 h2.2⟩))
    · exact .inr (.inl ⟨(ga_yes h1.1 h1.2).1, (ga_no h2).1⟩)
  · exact .inl (ga_no h1).1
set_option maxRecDepth 100000 in
set_option maxHeartbeats 8000000 in
theorem walkTriangle (A : Option Addr) (len cap : Nat) (w : World) (he : Elems w.heap.size A len w) :
    Calls Try.prog 7 #[.slice A len cap] w (Calm (.bool true) w) := by
  have HG := Lib.hid (Has.new (cap := cap) he)
  have HN := Lib.hid (fun a b w => pgap_any a b w)
  have HAW := Lib.hid (fun w => awake14_any w)
  have HSM := Lib.hid (fun B a len cap k w0 w h hk => sample_any B a len cap k w0 w h hk)
  have HT := Lib.hid (fun x y z => tri_facts x y z)
  have HT3 := Lib.hid (fun x y z w => three_sp x y z 24 w)
  clear he
  unfold Calm
  go_enter Try.func7, Try.ntmps7
  go_wp2_with fail
  (with_reducible refine (new_any A len cap _).mono ?_); rintro e w' ⟨rfl, rfl⟩
  have HX := Lib.hid (HSM.out w.heap.size A len cap 0 w _ HG.out (by omega))
  clear HG
  go_wp2_with fail
  (with_reducible refine HX.out.mono ?_)
  rintro e w1 ⟨x, k1, rfl, hk1, hs, _⟩
  have HX := Lib.hid (HSM.out w.heap.size A len cap k1 w _ hs (by omega))
  clear hs
  go_wp2_with fail
  (with_reducible refine HX.out.mono ?_)
  rintro e w2 ⟨y, k2, rfl, hk2, hs, _⟩
  have HX := Lib.hid (HSM.out w.heap.size A len cap k2 w _ hs (by omega))
  clear hs
  go_wp2_with fail
  (with_reducible refine HX.out.mono ?_)
  rintro e w3 ⟨z, k3, rfl, hk3, hs, _⟩
  have H1 := HN.out x y
  have H2 := HN.out y z
  have H3 := HN.out x z
  have H4 := HN.out y x
  have HF := HT.out x y z
  have HB := Lib.hid hs.2
  have HBS := Lib.hid (show w.heap.size ≤ w3.heap.size from hs.2.size)
  have HA := HT3.out x y z w3
  clear hs HX HT HN HSM HT3 hk1 hk2 hk3
  generalize gaE x y = E1 at *
  generalize gaE y z = E2 at *
  generalize gaE x z = E3 at *
  generalize gaE y x = E4 at *
  generalize gaV x y = A1 at *
  generalize gaV y z = A2 at *
  generalize gaV x z = A3 at *
  generalize gaV y x = A4 at *
  obtain ⟨x0, x1, x2⟩ := x
  obtain ⟨y0, y1, y2⟩ := y
  obtain ⟨z0, z1, z2⟩ := z
  unfold Calm aggSp at *
  unfold spC at HA
  simp only at HA H1 H2 H3 H4
  have HA := Lib.hid HA
  have H1 := Lib.hid H1
  have H2 := Lib.hid H2
  have H3 := Lib.hid H3
  have H4 := Lib.hid H4
  have HF := Lib.hid HF
  go_wp2_with fail
  (with_reducible refine (H1.out _).mono ?_); rintro e w4 ⟨rfl, hb⟩
  have HB4 := Lib.hid hb
  obtain ⟨⟨j0, j1, j2, j3, j4, j5, j6, j7, j8⟩, _⟩ := HA.out w4 hb
  clear hb H1
  go_wp2_with fail
  (with_reducible refine (H2.out _).mono ?_); rintro e w5 ⟨rfl, hb⟩
  have HB5 := Lib.hid (HB4.out.trans (hb.mono HB4.out.size))
  clear hb H2 HB4 j0 j1 j2 j3 j4 j5 j6 j7 j8
  obtain ⟨⟨j0, j1, j2, j3, j4, j5, j6, j7, j8⟩, _⟩ := HA.out w5 HB5.out
  go_wp2_with fail
  (with_reducible refine (H3.out _).mono ?_); rintro e w6 ⟨rfl, hb⟩
  have HB6 := Lib.hid (HB5.out.trans (hb.mono HB5.out.size))
  clear hb H3 HB5 j0 j1 j2 j3 j4 j5 j6 j7 j8
  obtain ⟨⟨j0, j1, j2, j3, j4, j5, j6, j7, j8⟩, _⟩ := HA.out w6 HB6.out
  go_wp2_with fail
  (with_reducible refine (H4.out _).mono ?_); rintro e w7 ⟨rfl, hb⟩
  have HB7 := Lib.hid (HB.out.trans ((HA.out w7 (HB6.out.trans (hb.mono HB6.out.size))).2.mono HBS.out))
  clear hb H4 HB6 j0 j1 j2 j3 j4 j5 j6 j7 j8 HA HB HBS
  rcases HF.out with rfl | ⟨rfl, rfl⟩ | ⟨rfl, rfl, rfl⟩ | ⟨rfl, rfl, rfl, rfl, rfl, h1, h2, h3⟩
  · clear HF
    go_wp2_with fail
    (with_reducible refine (HAW.out _).mono ?_); rintro e w8 ⟨rfl, hb⟩
    have HE := Lib.hid (HB7.out.trans (hb.mono HB7.out.size))
    clear hb
    go_wp2
    go_ret
    exact ⟨rfl, HE.out⟩
  · clear HF
    go_wp2_with fail
    (with_reducible refine (HAW.out _).mono ?_); rintro e w8 ⟨rfl, hb⟩
    have HE := Lib.hid (HB7.out.trans (hb.mono HB7.out.size))
    clear hb
    go_wp2
    go_ret
    exact ⟨rfl, HE.out⟩
  · clear HF
    go_wp2_with fail
    (with_reducible refine (HAW.out _).mono ?_); rintro e w8 ⟨rfl, hb⟩
    have HE := Lib.hid (HB7.out.trans (hb.mono HB7.out.size))
    clear hb
    go_wp2
    go_ret
    exact ⟨rfl, HE.out⟩
  · clear HF
    have hw : IntKind.i64.wrap (A4 + A2) = A4 + A2 := IntWalk.i64_in _ (by omega)
    have h4 : 0 ≤ A4 := h2.1
    clear h2 h3
    go_wp2_with fail
    (with_reducible refine (HAW.out _).mono ?_); rintro e w8 ⟨rfl, hb⟩
    have HE := Lib.hid (HB7.out.trans (hb.mono HB7.out.size))
    clear hb
    go_wp2
    go_ret
    exact ⟨rfl, HE.out⟩
end Go.Proofs.Ytcdeecigiijabaa

