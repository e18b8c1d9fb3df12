/-
  Layer 11: the walk of the statement on caps (QueueCaps). Every input; no condition.
-/
import Derived.Test.YtijdfkdfojiffaaQuKeep
namespace Go.Proofs.Ytijdfkdfojiffaa
open Go.ChangeShapes Go.WideShapes Go.ChangeAt Go.RowKit
set_option linter.unusedVariables false

theorem qlenS_any {C : Nat} {b : Qb} {q : Qu} {w : World} (h : QO C b q w) : Calls Try.prog 12 #[.pointer (some ⟨b.H, 0, none⟩)] w fun e w' => e = .returned (.int .i64 q.L.length) ∧ w = w' := by
  obtain ⟨h0, M, P, h1, h2⟩ := h
  rw [← h2.len]
  exact qlen_any h1
def CaV (H B n : Nat) (mp mb sm l : Int) (g : Bool) (i : Nat) (v : Value) (_ : World) : Prop :=
  match i with
  | 0 => v = .pointer (some ⟨H, 0, none⟩)
  | 1 => v = .int .i64 n
  | 2 => v = .int .i64 ((n : Int) + 1)
  | 3 => v = .int .i64 mp
  | 4 => v = .bool false
  | 5 => v = .bool false
  | 6 => v = .pointer (some ⟨H, 0, none⟩)
  | 7 => v = .int .i64 sm
  | 8 => v = .pointer (some ⟨B, 2, none⟩)
  | 9 => v = .int .i64 l
  | 10 => v = .int .i64 (sm + l)
  | 11 => v = .int .i64 mb
  | 12 => v = .bool g
  | 13 => v = .bool g
  | 14 => v = .bool g
  | _ => True
theorem ca_ok {j : Nat} {l : Int} (hj : 1 ≤ j) (l0 : 1 ≤ l) (l1 : l ≤ 4096) : pkOk ⟨(j : Int), 0, l, 0, -1⟩ = true := pk_good (by omega)
theorem ca_caps {x y : Int} (x0 : 0 ≤ x) (x1 : x < 5) (y0 : 0 ≤ y) (y1 : y < 4) (q : Qu) : qcE q (1 + x) (1 + 2000 * y) = 0 ∧ qcT q (1 + x) (1 + 2000 * y) = ⟨1 + x, 1 + 2000 * y, q.L⟩ := by
  have e : cpB (1 + x) (1 + 2000 * y) = true := by
    unfold cpB
    simp only [Bool.and_eq_true, decide_eq_true_eq]
    omega
  have e1 : qnE (1 + x) (1 + 2000 * y) = 0 := by unfold qnE; rw [e]; rfl
  exact ⟨e1, by unfold qcT; rw [if_pos e1]⟩
theorem pu_caps (q : Qu) (p : Pk) : (puT q p).mp = q.mp ∧ (puT q p).mb = q.mb := by unfold puT; split <;> exact ⟨rfl, rfl⟩
set_option maxRecDepth 100000 in
set_option maxHeartbeats 8000000 in
theorem walkCaps11 (A : Option Addr) (len cap : Nat) (w : World) (he : Elems w.heap.size A len w) :
    Calls Try.prog 6 #[.slice A len cap] w fun e w' => e = .returned (.bool true) ∧ Below w.heap.size w w' := by
  have hg := Has.new (cap := cap) he
  have HG := Lib.hid hg
  have HN := Lib.hid (fun W => qnew_any (p := 4) (c := 6000) (by decide) W)
  clear he hg
  go_enter Try.func6, Try.ntmps6
  go_wp2_with (go_at_call 7; (with_reducible refine (new_any A len cap _).mono ?_); rintro e w' ⟨rfl, rfl⟩)
  (with_reducible refine (HN.out _).mono ?_)
  intro e w2 ha
  obtain ⟨b, rfl, h2⟩ := GQ.new HG.out ha
  generalize (w.alloc _).heap.size = C at h2
  have H2 := Lib.hid h2
  clear ha h2 HN HG
  go_wp2_with fail
  go_loopw [6, 7, 8] (fun s6 s7 s8 wr => ∃ (j k : Nat) (mp mb : Int) (q : Qu), 1 ≤ j ∧ j ≤ 30 ∧ s8 = .int .i64 j ∧ s6 = .int .i64 mp ∧ s7 = .int .i64 mb ∧ Hid (q.mp = mp ∧ q.mb = mb) ∧ k ≤ 3 * j ∧ Hid (GQ w.heap.size A len cap k w C b q wr)) (fun s6 s7 s8 _ => 30 - (intOf s8).toNat)
  case atStart => exact ⟨1, 0, 4, 6000, ⟨4, 6000, []⟩, by omega, by omega, rfl, rfl, rfl, Lib.hid ⟨rfl, rfl⟩, by omega, H2⟩
  case round =>
    obtain ⟨j, k, mp, mb, q, hj1, hj, rfl, rfl, rfl, hq, hk, HJ⟩ := hrel
    clear H2
    by_cases hlt : j < 30
    · have hlt' : (j : Int) < 30 := by omega
      have HX := Lib.hid (HJ.out.next (n := 4) (by omega) (by omega) (by omega))
      clear HJ
      go_wp2_with fail
      (with_reducible refine HX.out.mono ?_)
      rintro e w3 ⟨r, r0, r1, rfl, h3, _⟩
      rcases (by omega : r = 0 ∨ r = 1 ∨ (¬ r = 0 ∧ ¬ r = 1)) with rfl | rfl | ⟨hr0, hr1⟩
      · have HX := Lib.hid (h3.next (n := 5) (by omega) (by omega) (by omega))
        clear h3
        go_wp2_with fail
        (with_reducible refine HX.out.mono ?_)
        rintro e w4 ⟨x, x0, x1, rfl, h4, _⟩
        have HX := Lib.hid (h4.next (n := 4) (by omega) (by omega) (by omega))
        clear h4
        go_wp2_with fail
        (with_reducible refine HX.out.mono ?_)
        rintro e w5 ⟨y, y0, y1, rfl, h5, _⟩
        obtain ⟨f1, f2⟩ := ca_caps x0 x1 y0 y1 q
        have hx := h5.call (fun hS => qsetCaps_any hS (1 + x) (1 + 2000 * y))
        rw [f1, f2] at hx
        have HX := Lib.hid hx
        clear h5 hx f1 f2
        go_wp2_with fail
        (with_reducible refine HX.out.mono ?_)
        rintro e w6 ⟨rfl, h6, _⟩
        have H6 := Lib.hid h6
        clear h6 HX
        go_wp2
        go_roundw
        case rel => exact ⟨j + 1, k + 1 + 1 + 1, 1 + x, 1 + 2000 * y, _, by omega, by omega, by go_num, rfl, rfl, Lib.hid ⟨rfl, rfl⟩, by omega, H6⟩
        case measure => simp [intOf]; omega
      · have HX := Lib.hid (h3.call (fun hS => qpop_any hS))
        clear h3
        go_wp2_with fail
        (with_reducible refine HX.out.mono ?_)
        rintro e w6 ⟨rfl, h6, _⟩
        have H6 := Lib.hid h6
        clear h6 HX
        go_wp2
        go_roundw
        case rel => exact ⟨j + 1, k + 1, mp, mb, qpT q, by omega, by omega, by go_num, rfl, rfl, Lib.hid ⟨hq.out.1, hq.out.2⟩, by omega, H6⟩
        case measure => simp [intOf]; omega
      · have HX := Lib.hid (h3.length (by omega))
        clear h3
        go_wp2_with fail
        (with_reducible refine HX.out.mono ?_)
        rintro e w4 ⟨l, l0, l1, rfl, h4, _⟩
        have h5 := h4.below ((Below.refl _ _).alloc (Nat.le_refl _) (.cells #[.int .i64 j, .int .i64 0, .int .i64 l, .int .i64 0, .int .i64 (-1)] 40))
        have HP := Lib.hid (Whole.fresh w4 40 #[.int .i64 j, .int .i64 0, .int .i64 l, .int .i64 0, .int .i64 (-1)])
        have hok := ca_ok hj1 l0 l1
        have hsum := h5.ok.sums
        have hfew := h5.ok.few
        have HL := Lib.hid (fun W hb => qlenS_any (h5.below (w' := W) hb).2.2)
        have HBY := Lib.hid (fun W hb => qbytesO_any (h5.below (w' := W) hb).2.2)
        unfold Calm at HBY
        have H5 := Lib.hid h5
        have HP4 := Lib.hid (fun (hx : q.mp < q.L.length + 1 ∨ q.mb < sumB q.L + l) => (pu_4 (p := ⟨(j : Int), 0, l, 0, -1⟩) hok hx).1)
        have HP0 := Lib.hid (fun (hx : ¬ q.mp < q.L.length + 1) (hy : ¬ q.mb < sumB q.L + l) => (pu_0 (p := ⟨(j : Int), 0, l, 0, -1⟩) hok hx hy).1)
        have HPC := Lib.hid (pu_caps q ⟨(j : Int), 0, l, 0, -1⟩)
        obtain ⟨hq1, hq2⟩ := hq.out
        rw [hq1, hq2] at HP4 HP0 HPC
        obtain ⟨sm, hsm⟩ : ∃ sm, sumB q.L = sm := ⟨_, rfl⟩
        obtain ⟨n, hn⟩ : ∃ n, q.L.length = n := ⟨_, rfl⟩
        rw [hsm] at HP4 HP0 HBY hsum
        rw [hn] at HP4 HP0 HL hfew
        have hwr : IntKind.i64.wrap ((n : Int) + 1) = (n : Int) + 1 := IntWalk.i64_in _ (by omega)
        have hwr2 : IntKind.i64.wrap (sm + l) = sm + l := IntWalk.i64_in _ (by omega)
        clear h4 h5 hok hq1 hq2 hsm hn hsum hfew HX
        by_cases hm : mp < (n : Int) + 1
        · have hd : decide (mp < (n : Int) + 1) = true := decide_eq_true hm
          have hE := HP4.out (.inl hm)
          have HLN := Lib.hid (fun nn => HL.out _ (Below_drewN (Below.refl _ _) nn))
          clear hm
          go_wp2_with fail
          go_quiet ((go_at_call 12; exact Calls.quiet_of_same ((HLN.out _).mono fun _ _ h => ⟨h.1, h.2.symm⟩)))
          have H6 := Lib.hid (H5.out.below (Below_drewN (Below.refl _ _) nq))
          have hx := H6.out.call (fun hS => qpush_any hS ⟨(j : Int), 0, l, 0, -1⟩)
          rw [hE] at hx
          have HX := Lib.hid (show Calls Try.prog 23 #[.pointer (some ⟨b.H, 0, none⟩), .agg #[.int .i64 j, .int .i64 0, .int .i64 l, .int .i64 0, .int .i64 (-1)]] _ _ from hx)
          have y0 := (HP.out.later (Below_drewN (Below.refl _ _) nq)).read 0
          have y1 := (HP.out.later (Below_drewN (Below.refl _ _) nq)).read 1
          have y2 := (HP.out.later (Below_drewN (Below.refl _ _) nq)).read 2
          have y3 := (HP.out.later (Below_drewN (Below.refl _ _) nq)).read 3
          have y4 := (HP.out.later (Below_drewN (Below.refl _ _) nq)).read 4
          simp at y0 y1 y2 y3 y4
          clear hx hE H6
          go_wp2_with fail
          (with_reducible refine HX.out.mono ?_)
          rintro e w7 ⟨rfl, h7, _⟩
          have H7 := Lib.hid h7
          clear h7 HX y0 y1 y2 y3 y4
          go_wp2
          go_roundw
          case rel => exact ⟨j + 1, k + 1 + 1, mp, mb, _, by omega, by omega, by go_num, rfl, rfl, HPC, by omega, H7⟩
          case measure => simp [intOf]; omega
        · have hd : decide (mp < (n : Int) + 1) = false := decide_eq_false hm
          obtain ⟨g, hg⟩ : ∃ g, decide (mb < sm + l) = g := ⟨_, rfl⟩
          have HGG := Lib.hid hg
          have HM := Lib.hid hm
          have HC0 := Lib.hid (show QbC (w4.alloc (.cells #[.int .i64 j, .int .i64 0, .int .i64 l, .int .i64 0, .int .i64 (-1)] 40)) 15 (w4.alloc (.cells #[.int .i64 j, .int .i64 0, .int .i64 l, .int .i64 0, .int .i64 (-1)] 40)).drew from (Below.refl _ _).drew)
          clear hm
          go_wp2_with fail
          refine wp_region_loose 72 (by kernel_rfl) (by kernel_rfl) (QbC (w4.alloc (.cells #[.int .i64 j, .int .i64 0, .int .i64 l, .int .i64 0, .int .i64 (-1)] 40))) QbR (CaV b.H w4.heap.size n mp mb sm l g) rfl (fun i v w w' _ hv => hv) HC0.out ?_ ?_
          · simp only [OblAll]
            refine ⟨?_, ?_, ?_, ?_, ?_, ?_, ?_, ?_, ?_, ?_, ?_, ?_, ?_, ?_, ?_, trivial⟩
            all_goals
              intro fu wx vals hC hp
              simp [predL, predE, Region.binds, PreV, CaV] at hp
              simp only [fillA, if_true, Act.put]
              simp
              have HCx := Lib.hid hC
              have k2 := (HP.out.later hC).read 2
              simp at k2
              have HLx := Lib.hid (HL.out wx hC)
              have HBx := Lib.hid (HBY.out wx hC)
              have HR0 := Lib.hid (show QbR wx wx from Below.refl _ _)
              clear hC
            · go_wp2
              exact ⟨rfl, HCx.out.step (Below.refl _ _), HR0.out, rfl⟩
            · simp only [hp]
              clear hp
              go_wp2_with fail
              (with_reducible refine HLx.out.mono ?_); rintro e w' ⟨rfl, rfl⟩
              go_wp2
              exact ⟨rfl, HCx.out.step (Below.refl _ _), HR0.out, rfl⟩
            · simp only [hp]
              clear hp
              go_wp2
              exact ⟨rfl, HCx.out.step (Below.refl _ _), HR0.out, rfl⟩
            · go_wp2
              exact ⟨rfl, HCx.out.step (Below.refl _ _), HR0.out, rfl⟩
            · simp only [hp]
              clear hp
              go_wp2
              exact ⟨rfl, HCx.out.step (Below.refl _ _), HR0.out, rfl⟩
            · simp only [hp]
              clear hp
              go_wp2
              exact ⟨rfl, HCx.out.step (Below.refl _ _), HR0.out, rfl⟩
            · simp only [hp]
              clear hp
              go_wp2
              exact ⟨rfl, HCx.out.step (Below.refl _ _), HR0.out, rfl⟩
            · simp only [hp]
              clear hp
              go_wp2_with fail
              (with_reducible refine HBx.out.mono ?_); rintro e w' ⟨rfl, hb⟩
              have HB := Lib.hid hb
              clear hb
              go_wp2
              exact ⟨rfl, HCx.out.step HB.out, HB.out, rfl⟩
            · simp only [hp]
              clear hp
              go_wp2
              exact ⟨rfl, HCx.out.step (Below.refl _ _), HR0.out, rfl⟩
            · simp only [hp]
              clear hp
              go_wp2
              exact ⟨rfl, HCx.out.step (Below.refl _ _), HR0.out, rfl⟩
            · simp only [hp]
              clear hp
              go_wp2
              exact ⟨rfl, HCx.out.step (Below.refl _ _), HR0.out, rfl⟩
            · simp only [hp]
              clear hp
              go_wp2
              exact ⟨rfl, HCx.out.step (Below.refl _ _), HR0.out, rfl⟩
            · simp only [hp]
              clear hp
              go_wp2
              exact ⟨rfl, HCx.out.step (Below.refl _ _), HR0.out, rfl⟩
            · simp only [hp]
              clear hp
              go_wp2
              exact ⟨rfl, HCx.out.step (Below.refl _ _), HR0.out, rfl⟩
            · simp only [hp]
              clear hp
              go_wp2
              exact ⟨rfl, HCx.out.step (Below.refl _ _), HR0.out, rfl⟩
          · intro wz vals hC hV
            have e14 := hV 14 (by simp)
            simp only [CaV] at e14
            simp only [fillA, if_true, Act.put]
            simp
            simp only [e14]
            have H6 := Lib.hid (H5.out.below hC)
            have HPz := Lib.hid (HP.out.later hC)
            clear e14 hV hC HC0
            cases g
            · have hE := HP0.out HM.out (Int.not_lt.1 (of_decide_eq_false HGG.out))
              clear hg
              have hx := H6.out.call (fun hS => qpush_any hS ⟨(j : Int), 0, l, 0, -1⟩)
              rw [hE] at hx
              have HX := Lib.hid (show Calls Try.prog 23 #[.pointer (some ⟨b.H, 0, none⟩), .agg #[.int .i64 j, .int .i64 0, .int .i64 l, .int .i64 0, .int .i64 (-1)]] _ _ from hx)
              have y0 := HPz.out.read 0
              have y1 := HPz.out.read 1
              have y2 := HPz.out.read 2
              have y3 := HPz.out.read 3
              have y4 := HPz.out.read 4
              simp at y0 y1 y2 y3 y4
              clear hx hE H6
              go_wp2_with fail
              (with_reducible refine HX.out.mono ?_)
              rintro e w7 ⟨rfl, h7, _⟩
              have H7 := Lib.hid h7
              clear h7 HX y0 y1 y2 y3 y4
              go_wp2
              go_roundw
              case rel => exact ⟨j + 1, k + 1 + 1, mp, mb, _, by omega, by omega, by go_num, rfl, rfl, HPC, by omega, H7⟩
              case measure => simp [intOf]; omega
            · have hE := HP4.out (.inr (of_decide_eq_true HGG.out))
              clear hg
              have hx := H6.out.call (fun hS => qpush_any hS ⟨(j : Int), 0, l, 0, -1⟩)
              rw [hE] at hx
              have HX := Lib.hid (show Calls Try.prog 23 #[.pointer (some ⟨b.H, 0, none⟩), .agg #[.int .i64 j, .int .i64 0, .int .i64 l, .int .i64 0, .int .i64 (-1)]] _ _ from hx)
              have y0 := HPz.out.read 0
              have y1 := HPz.out.read 1
              have y2 := HPz.out.read 2
              have y3 := HPz.out.read 3
              have y4 := HPz.out.read 4
              simp at y0 y1 y2 y3 y4
              clear hx hE H6
              go_wp2_with fail
              (with_reducible refine HX.out.mono ?_)
              rintro e w7 ⟨rfl, h7, _⟩
              have H7 := Lib.hid h7
              clear h7 HX y0 y1 y2 y3 y4
              go_wp2
              go_roundw
              case rel => exact ⟨j + 1, k + 1 + 1, mp, mb, _, by omega, by omega, by go_num, rfl, rfl, HPC, by omega, H7⟩
              case measure => simp [intOf]; omega
    · obtain rfl : j = 30 := by omega
      have HW := Lib.hid (fun w => awake11_any w)
      unfold Calm at HW
      have HB := Lib.hid HJ.out.bel
      clear HJ
      go_wp2_with fail
      (with_reducible refine (HW.out _).mono ?_); rintro e w4 ⟨rfl, hb⟩
      have HF := Lib.hid (HB.out.trans (hb.mono HB.out.size))
      clear hb
      go_wp2
      go_ret
      exact ⟨rfl, HF.out⟩
end Go.Proofs.Ytijdfkdfojiffaa

