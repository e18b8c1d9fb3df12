/-
  Layer 6: the walk of the statement that a set bit keeps its sequence number (BitmapKeeps). Every input; no condition.
-/
import Derived.Test.YtimnndjegfiniaaBmLists
import Derived.Test.YtimnndjegfiniaaBmKeep
import Derived.Deep.RegionHeld3
import Derived.Deep.DrawnRows
namespace Go.Proofs.Ytimnndjegfiniaa
open Go.ChangeShapes Go.WideShapes Go.ChangeAt Go.RowKit
set_option linter.unusedVariables false
attribute [local go_sem ↓] Go.wp_at_zero Go.wp_at_succ

theorem held4' {w0 w w' : World} {b1 b2 : Nat} {v1 v2 v3 v4 : Value} (hb : Below w.heap.size w w')
    (h : w.cell? ⟨b1, 0, none⟩ = some v1 ∧ w.cell? ⟨b1, 1, none⟩ = some v2 ∧ w.cell? ⟨b2, 0, none⟩ = some v3 ∧ w.cell? ⟨b2, 1, none⟩ = some v4 ∧ Below w0.heap.size w0 w) :
    w'.cell? ⟨b1, 0, none⟩ = some v1 ∧ w'.cell? ⟨b1, 1, none⟩ = some v2 ∧ w'.cell? ⟨b2, 0, none⟩ = some v3 ∧ w'.cell? ⟨b2, 1, none⟩ = some v4 ∧ Below w0.heap.size w0 w' := by
  obtain ⟨h1, h2, h3, h4, h5⟩ := h
  exact ⟨cell_later h1 hb, cell_later h2 hb, cell_later h3 hb, cell_later h4 hb, h5.trans (hb.mono h5.size)⟩
/-- Two bitmaps lie in blocks of the call's own. -/
def Pair (w wr : World) (g : Nat) (b x t y : Int) : Prop :=
  wr.cell? ⟨w.heap.size, 0, none⟩ = some (.int .i64 b) ∧ wr.cell? ⟨w.heap.size, 1, none⟩ = some (.int .u64 x) ∧ wr.cell? ⟨g, 0, none⟩ = some (.int .i64 t) ∧ wr.cell? ⟨g, 1, none⟩ = some (.int .u64 y) ∧ Below w.heap.size w wr
set_option maxRecDepth 100000 in
set_option maxHeartbeats 4000000 in
theorem walkKeeps (x b c : Int) (hx : Wd x) (b0 : 0 ≤ b) (b1 : b ≤ 65535) (c0 : 0 ≤ c) (c1 : c ≤ 65535) (w : World) :
    Calls Try.prog 7 #[.int .u64 x, .int .u16 b, .int .u16 c] w fun e w' => e = .returned (.bool true) ∧ Below w.heap.size w w' := by
  obtain ⟨d, hd⟩ : ∃ d : Nat, c % 70 = (d : Int) := ⟨(c % 70).toNat, by omega⟩
  have hd1 : d < 70 := by omega
  obtain ⟨t, ht⟩ : ∃ t : Int, (b + d) % 65536 = t := ⟨_, rfl⟩
  have hK : KeepAt b t d := ⟨b0, by omega, hd1, ht.symm⟩
  have hM := fun w => move_any b x t hx w
  unfold MvAns at hM
  obtain ⟨e1, e2, e3⟩ := hK.ok x
  rw [e1, e2, e3] at hM
  have hN := isNum_yes b0 (by omega : b < 65536)
  have HS := Lib.hid (fun k hk => hK.has hx (k := k) hk)
  have hA := fun w => advance_any b x hx w
  unfold AvAns at hA
  have hV := av_has hN hx
  have hF := av_first hN hx
  have hH := fun b s w => has_any b x s hx w
  have hY := shr_wd hx d
  have hHy := fun b s w => has_any b (x / 2 ^ d) s hY w
  have hHa := fun s w => has_any (avB b x) (avX b x) s (by obtain ⟨_, _, e⟩ := av_yes (x := x) hN rfl; rw [e]; exact shr_wd hx _) w
  obtain ⟨y, hy⟩ : ∃ y : Int, x / 2 ^ d = y := ⟨_, rfl⟩
  rw [hy] at hM hHy HS
  generalize avB b x = p1 at *
  generalize avX b x = p2 at *
  generalize avN b x = p3 at *
  have hHa1 := fun w => hHa p1 w
  rw [hV] at hHa1
  have hH1 := fun w => hH b b w
  have htt : (t != t) = false := by simp
  generalize hasB b x b = r at hF hH1
  have h1 := Lib.hid hM
  have h2 := Lib.hid hH
  have h3 := Lib.hid hHy
  have h4 := Lib.hid hHa1
  have h5 := Lib.hid hA
  have h6 := Lib.hid hH1
  have A0 := Lib.hid (Whole.fresh w 32 #[.int .i64 b, .int .u64 x])
  obtain ⟨t0, t1⟩ := hK.bd
  clear hM hH hHy hHa hHa1 hA hH1 hV hN hY hK e1 e2 e3 hx hy
  go_enter Try.func7, Try.ntmps7
  go_wp2_with fail
  (with_reducible refine (h1.out _).mono ?_); rintro e w1 ⟨rfl, hb1⟩
  have A1 := A0.out.later hb1
  have B1 := (Below.refl w.heap.size w).alloc (Nat.le_refl _) (.cells #[.int .i64 b, .int .u64 x] 32)
  have B1 := B1.trans (hb1.mono B1.size)
  obtain ⟨c0', c1'⟩ := (A1.alloc (.cells #[.int .i64 t, .int .u64 y] 32)).two
  obtain ⟨c2', c3'⟩ := (Whole.fresh w1 32 #[.int .i64 t, .int .u64 y]).two
  have P1 := Lib.hid (show Pair w _ w1.heap.size b x t y from ⟨c0', c1', c2', c3', B1.alloc B1.size (.cells #[.int .i64 t, .int .u64 y] 32)⟩)
  clear c0' c1' hb1 A1 B1 A0
  go_wp2_with fail
  go_loopw [11] (fun s wr => ∃ k : Nat, k ≤ 64 ∧ s = .int .i64 k ∧ Hid (Pair w wr w1.heap.size b x t y)) (fun s _ => 64 - (intOf s).toNat)
  case atStart => exact ⟨0, by omega, rfl, P1⟩
  case round =>
    obtain ⟨k, hk, rfl, HP⟩ := hrel
    clear P1 c2' c3'
    by_cases hlt : k < 64
    · have hlt' : (k : Int) < 64 := by omega
      have hs := HS.out k hlt
      have HB1 := Lib.hid (fun w => h3.out t ((t + k) % 65536) w)
      have HB2 := Lib.hid (fun w => h2.out b ((t + k) % 65536) w)
      rw [hs] at HB1
      generalize hasB b x ((t + k) % 65536) = v at *
      have hvv : (v != v) = false := by simp
      obtain ⟨f0, f1, f2, f3, fB⟩ := HP.out
      have FB := Lib.hid fB.drew
      clear hs fB HP
      go_wp2_with fail
      go_region_held3 (fun w' => w'.cell? ⟨w.heap.size, 0, none⟩ = some (.int .i64 b) ∧ w'.cell? ⟨w.heap.size, 1, none⟩ = some (.int .u64 x) ∧ w'.cell? ⟨w1.heap.size, 0, none⟩ = some (.int .i64 t) ∧ w'.cell? ⟨w1.heap.size, 1, none⟩ = some (.int .u64 y) ∧ Below w.heap.size w w')
        ((first | exact held4' (by assumption) (by assumption) | exact ⟨f0, f1, f2, f3, FB.out⟩))
        (first
          | (go_at_call 20; (with_reducible refine (HB1.out _).mono ?_); rintro e w' ⟨rfl, hb⟩)
          | (go_at_call 20; (with_reducible refine (HB2.out _).mono ?_); rintro e w' ⟨rfl, hb⟩))
      all_goals
        rename_i hH
        have HP := Lib.hid (show Pair w _ w1.heap.size b x t y from hH)
        clear hH
        go_wp2
        go_roundw
        case rel => exact ⟨k + 1, by omega, by go_num, HP⟩
        case measure => simp [intOf]; omega
    · obtain rfl : k = 64 := by omega
      obtain ⟨f0, f1, f2, f3, fB⟩ := HP.out
      have FB := Lib.hid fB
      have q0 := Lib.hid f0
      have q1 := Lib.hid f1
      clear fB HP HS hlt f2 f3
      go_wp2_with fail
      (with_reducible refine (h5.out _).mono ?_); rintro e w2 ⟨rfl, hb2⟩
      have g0 := cell_alloc_of (cell_later q0.out hb2) (.cells #[.int .i64 p1, .int .u64 p2] 32)
      have g1 := cell_alloc_of (cell_later q1.out hb2) (.cells #[.int .i64 p1, .int .u64 p2] 32)
      have G0 := Lib.hid g0
      have G1 := Lib.hid g1
      have B2 := FB.out.trans (hb2.mono FB.out.size)
      have B3 := Lib.hid (B2.alloc B2.size (.cells #[.int .i64 p1, .int .u64 p2] 32))
      clear f0 f1 q0 q1 hb2 B2 FB
      go_wp2_with fail
      (with_reducible refine (h4.out _).mono ?_); rintro e w3 ⟨rfl, hb3⟩
      clear g0 g1
      have g0 := cell_later G0.out hb3
      have g1 := cell_later G1.out hb3
      have B4 := Lib.hid (B3.out.trans (hb3.mono B3.out.size))
      clear hb3 B3 G0 G1
      go_wp2_with fail
      (with_reducible refine (h6.out _).mono ?_); rintro e w4 ⟨rfl, hb4⟩
      have B5 := Lib.hid (B4.out.trans (hb4.mono B4.out.size))
      have hFr : ((p3 == 0) == !r) = true := by rw [hF]; simp
      clear hb4 B4 g0 g1
      go_wp2_with fail
      (with_reducible refine (awake_any _).mono ?_); rintro e w5 ⟨rfl, hb⟩
      go_wp2
      go_ret
      exact ⟨rfl, B5.out.trans (hb.mono B5.out.size)⟩
end Go.Proofs.Ytimnndjegfiniaa

