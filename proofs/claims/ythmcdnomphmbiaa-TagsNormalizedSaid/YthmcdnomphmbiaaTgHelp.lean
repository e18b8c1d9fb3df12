/-
  Layer 12's law: awake, costs, normal, rebases.
-/
import Derived.Test.YthmcdnomphmbiaaTgProg
namespace Go.Proofs.Ythmcdnomphmbiaa
open Go.ChangeShapes Go.WideShapes Go.ChangeAt Go.RowKit
set_option linter.unusedVariables false

theorem awake12_any (w : World) : Calls Try.prog 11 #[] w (Calm (.bool true) w) := by
  have e1 : coV 100 3 = 24024000 := by decide
  have e2 : coE 100 3 = 0 := by decide
  have HC := cost_any 100 3
  rw [e1, e2] at HC
  have HC := Lib.hid HC
  clear e1 e2
  unfold Calm
  go_enter Try.func11, Try.ntmps11
  go_wp2_with fail
  (with_reducible refine (HC.out _).mono ?_); rintro e w' ⟨rfl, hb⟩
  have HB := Lib.hid hb
  clear hb
  go_wp2
  go_ret
  exact ⟨rfl, HB.out⟩
theorem costs_any (s l x : Int) (w : World) : Calls Try.prog 10 #[.int .i64 s, .int .i64 l, .int .i64 x] w (Calm (.bool true) w) := by
  have H1 := Lib.hid (cost_any l x)
  have H2 := Lib.hid (rcost_any l x)
  have H3 := Lib.hid (finish_any s l x)
  have H4 := Lib.hid (rfinish_any s l x)
  obtain ⟨cv, hcv⟩ : ∃ y, coV l x = y := ⟨_, rfl⟩
  obtain ⟨ce, hce⟩ : ∃ y, coE l x = y := ⟨_, rfl⟩
  obtain ⟨fv, hfv⟩ : ∃ y, fiV s l x = y := ⟨_, rfl⟩
  obtain ⟨fe, hfe⟩ : ∃ y, fiE s l x = y := ⟨_, rfl⟩
  rw [hcv, hce] at H1 H2
  rw [hfv, hfe] at H3 H4
  clear hcv hce hfv hfe
  unfold Calm
  go_enter Try.func10, Try.ntmps10
  go_wp2_with fail
  (with_reducible refine (H1.out _).mono ?_); rintro e w1 ⟨rfl, hb1⟩
  have HB1 := Lib.hid hb1
  clear hb1
  go_wp2_with fail
  (with_reducible refine (H2.out _).mono ?_); rintro e w' ⟨rfl, rfl⟩
  go_wp2_with fail
  (with_reducible refine (H3.out _).mono ?_); rintro e w2 ⟨rfl, hb2⟩
  have HB := Lib.hid (HB1.out.trans (hb2.mono HB1.out.size))
  clear hb2 HB1
  go_wp2_with fail
  (with_reducible refine (H4.out _).mono ?_); rintro e w' ⟨rfl, rfl⟩
  go_wp2
  go_ret
  exact ⟨rfl, HB.out⟩
theorem normal_any (b x : Int) (w : World) : Calls Try.prog 18 #[.int .i64 b, .int .i64 x] w (Calm (.bool true) w) := by
  have H1 := Lib.hid (normalT_any b x)
  have H2 := Lib.hid (rnormal_any b x)
  obtain ⟨cv, hcv⟩ : ∃ y, noV b x = y := ⟨_, rfl⟩
  obtain ⟨ce, hce⟩ : ∃ y, noE b x = y := ⟨_, rfl⟩
  rw [hcv, hce] at H1 H2
  clear hcv hce
  unfold Calm
  go_enter Try.func18, Try.ntmps18
  go_wp2_with fail
  (with_reducible refine (H1.out _).mono ?_); rintro e w1 ⟨rfl, hb1⟩
  have HB := Lib.hid hb1
  clear hb1
  go_wp2_with fail
  (with_reducible refine (H2.out _).mono ?_); rintro e w' ⟨rfl, rfl⟩
  go_wp2
  go_ret
  exact ⟨rfl, HB.out⟩
theorem rb_len_le (L : List Tg) (b : Int) : (rbL L b).length ≤ L.length := by
  unfold rbL
  split <;> simp
theorem rebases_any (A : Option Addr) (c : Nat) (L : List Tg) (L1 B1 : Nat) (b : Int) (w : World) (hB1 : B1 ≤ w.heap.size) (hn : L.length ≤ 100000) (ha : SrAt csT 3 w L1 B1 A L) :
    Calls Try.prog 17 #[.slice A L.length c, .int .i64 b] w (Calm (.bool true) w) := by
  have HX := Lib.hid (rebaseT_any A c L L1 B1 b w hB1 hn ha)
  have hl := Nat.le_trans (rb_len_le L b) hn
  obtain ⟨R, hR⟩ : ∃ R, rbL L b = R := ⟨_, rfl⟩
  obtain ⟨x, hx⟩ : ∃ x, rbE L b = x := ⟨_, rfl⟩
  have HA := Lib.hid ha
  rw [hR] at hl
  unfold Calm
  go_enter Try.func17, Try.ntmps17
  go_wp2_with fail
  (with_reducible refine HX.out.mono ?_); rintro e w1 ⟨A1, c1, rfl, h1, hb1⟩
  have HX2 := rrebase_any A c L L1 B1 b w1 (Nat.le_trans hB1 hb1.size) hn (HA.out.below hb1 hB1)
  rw [hR, hx] at HX2
  rw [hR] at h1
  simp only [hR, hx]
  have HX2 := Lib.hid HX2
  have HB1 := Lib.hid hb1
  have H1 := Lib.hid h1
  clear hb1 h1 HX HA hR hx
  go_wp2_with fail
  (with_reducible refine HX2.out.mono ?_); rintro e w2 ⟨A2, c2, rfl, h2, hb2⟩
  have hs := HB1.out.size
  have HEQ := Lib.hid (equalTg_any A1 A2 c1 c2 R w.heap.size w1.heap.size w1.heap.size w2.heap.size w2 hl (H1.out.below hb2 (Nat.le_refl _)) h2)
  have HB := Lib.hid (HB1.out.trans (hb2.mono hs))
  clear hb2 h2 H1 HB1 HX2 hl
  go_wp2_with fail
  (with_reducible refine HEQ.out.mono ?_); rintro e w3 ⟨rfl, hb3⟩
  have HB3 := Lib.hid (HB.out.trans (hb3.mono HB.out.size))
  clear hb3 HB
  go_wp2
  go_ret
  exact ⟨rfl, HB3.out⟩
end Go.Proofs.Ythmcdnomphmbiaa

