/-
  Layer 10: the walk of the statement on a sequence of calls (FlowsScript). Every input; no condition.
-/
import Derived.Test.YtgojbomdkdlclaaFlSame
namespace Go.Proofs.Ytgojbomdkdlclaa
open Go.ChangeShapes Go.WideShapes Go.ChangeAt Go.RowKit
set_option linter.unusedVariables false

def cpL : List Int := [512, 20, 5, 1]
theorem cpL_bd {x : Int} (h : x ∈ cpL) : 1 ≤ x ∧ x ≤ 512 := by
  simp only [cpL, List.mem_cons, List.not_mem_nil, or_false] at h; omega
/-- The state: choices alone. -/
def ChC (B : Nat) (a : Option Addr) (len cap K : Nat) (w0 : World) (f : Nat) (w : World) : Prop := ∃ k, k + f ≤ K ∧ Has B a len cap k w0 w
theorem ChC.step {B : Nat} {a : Option Addr} {len cap K : Nat} {w0 w : World} {f : Nat} (h : ChC B a len cap K w0 (f + 1) w) : ChC B a len cap K w0 f w := by
  obtain ⟨k, h1, h2⟩ := h; exact ⟨k, by omega, h2⟩
theorem ChC.alloc {B : Nat} {a : Option Addr} {len cap K : Nat} {w0 w : World} {f : Nat} (h : ChC B a len cap K w0 (f + 1) w) (o : Obj) : ChC B a len cap K w0 f (w.alloc o) := by
  obtain ⟨k, h1, h2⟩ := h; exact ⟨k, by omega, h2.alloc o⟩
theorem newE_pair (c r : Int) : ((1 ≤ c ∧ c ≤ 512) ∧ (1 ≤ r ∧ r ≤ 12)) ∨ ¬ ((1 ≤ c ∧ c ≤ 512) ∧ (1 ≤ r ∧ r ≤ 12)) := Classical.em _
set_option maxRecDepth 100000 in
set_option maxHeartbeats 16000000 in
theorem walkScript10 (a : Option Addr) (len cap : Nat) (p q : Int) (w : World) (he : Elems w.heap.size a len w) :
    Calls Try.prog 3 #[.slice a len cap, .int .i64 p, .int .i64 q] w fun e w' => e = .returned (.bool true) ∧ Below w.heap.size w w' := by
  have hg := Lib.hid (Has.new (cap := cap) he)
  have HN := Lib.hid (fun c r h w => pnew_any (c := c) (r := r) h w)
  have HNN := Lib.hid (fun c r h w => pnew_no (c := c) (r := r) h w)
  have RN := Lib.hid (fun c r h w => rnew_any (c := c) (r := r) h w)
  have RNN := Lib.hid (fun c r h w => rnew_no (c := c) (r := r) h w)
  have HW := Lib.hid (fun w => awake10_any w)
  unfold Quiet at HW
  clear he
  go_enter Try.func3, Try.ntmps3
  go_wp2_with (go_at_call 7; (with_reducible refine (new_any a len cap _).mono ?_); rintro e w' ⟨rfl, rfl⟩)
  refine wp_region_loose 85 (by kernel_rfl) (by kernel_rfl) (ChC w.heap.size a len cap 10 w) (LsR w.heap.size) (OnV w.heap.size cpL) rfl (fun i v w w' h hv => OnV.keep i v w w' h hv) ?_ ?_ ?_
  · exact ⟨0, by simp, hg.out.drew⟩
  · simp only [OblAll]
    refine ⟨?_, ?_, ?_, ?_, ?_, ?_, ?_, ?_, ?_, ?_, trivial⟩
    all_goals
      intro fu wx vals hC hp
      simp [predL, predE, Region.binds, PreV, OnV] at hp
      simp only [fillA, if_true, Act.put]
      simp
      have HC := Lib.hid hC
      have HR0 := Lib.hid (show LsR w.heap.size wx wx from Only.refl _ _)
      obtain ⟨kk, hkk, hg'⟩ := hC
      have hBx : w.heap.size < wx.heap.size := hg'.1.lt
    · clear hp hg'
      go_wp2
      exact ⟨rfl, HC.out.alloc _, Only.alloc _ wx _, RowL.new hBx cpL rfl _⟩
    · clear hg'
      go_wp2
      exact ⟨rfl, HC.out.step, HR0.out, rfl⟩
    · simp only [hp]
      clear hp
      go_wp2_with fail
      refine (has_next w.heap.size a len cap kk 4 w _ hg' (by decide) (by decide) (by omega)).mono ?_
      rintro e w' ⟨r, r0, r1, rfl, hg2, ho⟩
      have HF := Lib.hid (And.intro (show ChC w.heap.size a len cap 10 w fu w' from ⟨_, by omega, hg2⟩) ho)
      have HY := Lib.hid (show 0 ≤ r ∧ r ≤ 3 by omega)
      clear hg' hg2 ho
      go_wp2
      exact ⟨rfl, HF.out.1, HF.out.2, _, HY.out, rfl⟩
    · obtain ⟨⟨g, g1, g2, e1, e2⟩, r, hr, e3⟩ := hp
      simp only [e1, e3]
      obtain ⟨m, rfl⟩ := Int.eq_ofNat_of_zero_le hr.1
      have hm : m < cpL.length := by show m < 4; omega
      have HY := Lib.hid (e2 m hm)
      have hm' : m ≤ 3 := by omega
      clear e1 e2 e3 hg' hr
      go_wp2
      exact ⟨rfl, HC.out.step, HR0.out, g, _, g1, g2, rfl, _, List.getElem_mem hm, HY.out⟩
    · obtain ⟨g, o, g1, g2, e1, x, hx, hc⟩ := hp
      simp only [e1]
      have HY := Lib.hid hx
      clear e1 hx hg'
      go_wp2
      exact ⟨rfl, HC.out.step, HR0.out, _, HY.out, rfl⟩
    · clear hg'
      go_wp2
      exact ⟨rfl, HC.out.step, HR0.out, rfl⟩
    · simp only [hp]
      clear hp
      go_wp2_with fail
      refine (has_next w.heap.size a len cap kk 3 w _ hg' (by decide) (by decide) (by omega)).mono ?_
      rintro e w' ⟨r, r0, r1, rfl, hg2, ho⟩
      have HF := Lib.hid (And.intro (show ChC w.heap.size a len cap 10 w fu w' from ⟨_, by omega, hg2⟩) ho)
      have HY := Lib.hid (show 0 ≤ r ∧ r ≤ 2 by omega)
      clear hg' hg2 ho
      go_wp2
      exact ⟨rfl, HF.out.1, HF.out.2, _, HY.out, rfl⟩
    · obtain ⟨x, hx, e1⟩ := hp
      simp only [e1]
      have HY := Lib.hid (show 1 ≤ 1 + x ∧ 1 + x ≤ 3 by omega)
      have hw1 : IntKind.i64.wrap (1 + x) = 1 + x := IntWalk.i64_in _ (by omega)
      clear e1 hx hg'
      go_wp2
      exact ⟨rfl, HC.out.step, HR0.out, _, HY.out, rfl⟩
    · obtain ⟨⟨x, hx, e1⟩, _⟩ := hp
      simp only [e1]
      have HY := Lib.hid hx
      clear e1 hx hg'
      go_wp2
      exact ⟨rfl, HC.out.step, HR0.out, _, HY.out, rfl⟩
    · obtain ⟨⟨x, hx, e1⟩, _⟩ := hp
      simp only [e1]
      have HY := Lib.hid hx
      clear e1 hx hg'
      go_wp2
      exact ⟨rfl, HC.out.step, HR0.out, _, HY.out, rfl⟩
  · intro w2 vals hC hV
    obtain ⟨n, hn, en⟩ := (show InL cpL (vals 8) from hV 8 (by simp))
    obtain ⟨m, hm, em⟩ := (show IntR 1 3 (vals 9) from hV 9 (by simp))
    obtain ⟨k2, hk2, h2⟩ := hC
    have hn2 := cpL_bd hn
    have HX := Lib.hid (HN.out n m (by omega) w2)
    have HR := Lib.hid (fun w => RN.out n m (by omega) w)
    have H2 := Lib.hid h2
    simp only [fillA, if_true, Act.put]
    simp
    simp only [en, em]
    clear hV en em hn h2 hg
    go_wp2_with fail
    (with_reducible refine HX.out.mono ?_); intro e w3 ha
    obtain ⟨H, rfl, h3⟩ := GP.new H2.out ha
    generalize w2.heap.size = C at h3
    have H3 := Lib.hid h3
    clear ha h3 H2 HX
    go_wp2_with fail
    (with_reducible refine (HR.out _).mono ?_); intro e w4 ha
    obtain ⟨R, rfl, h4⟩ := GS.start H3.out ha
    have H4 := Lib.hid h4
    clear ha h4 H3 HR
    go_wp2_with fail
    go_loopw [14] (fun i wr => ∃ (j c : Nat) (t : Tb), j ≤ 40 ∧ i = .int .i64 j ∧ c ≤ 10 + 21 * j ∧ Hid (GS w.heap.size a len cap c w C H R t t wr)) (fun i _ => 40 - (intOf i).toNat)
    case atStart => exact ⟨0, k2, _, Nat.zero_le _, rfl, by omega, H4⟩
    case round =>
      obtain ⟨j, c, t, hj, rfl, hc, HJ⟩ := hrel
      clear H4
      by_cases hlt : j < 40
      · have hlt' : (j : Int) < 40 := by omega
        have HX := Lib.hid (act_any HJ.out (by omega) p q)
        unfold ActAns at HX
        clear HJ
        go_wp2_with fail
        (with_reducible refine HX.out.mono ?_); rintro e w5 ⟨rfl, c5, t5, hc5, h5⟩
        have HX := Lib.hid (same_any h5 (by omega) p)
        clear h5
        go_wp2_with fail
        (with_reducible refine HX.out.mono ?_); rintro e w6 ⟨rfl, h6⟩
        have H6 := Lib.hid h6
        clear h6 HX
        go_wp2
        go_roundw
        case rel => exact ⟨j + 1, c5 + 1, t5, by omega, by go_num, by omega, H6⟩
        case measure => simp [intOf]; omega
      · obtain rfl : j = 40 := by omega
        rcases newE_pair p q with hpq | hpq
        · have HX := Lib.hid (HN.out p q hpq wr)
          have HR := Lib.hid (fun w => RN.out p q hpq w)
          have HB := Lib.hid HJ.out.bel
          clear HJ
          go_wp2_with fail
          (with_reducible refine HX.out.mono ?_); rintro e w5 ⟨H5, S5, rfl, _, hb⟩
          have HB5 := Lib.hid (HB.out.trans (hb.mono HB.out.size))
          clear hb
          go_wp2_with fail
          (with_reducible refine (HR.out _).mono ?_); rintro e w6 ⟨R6, S6, rfl, _, hb⟩
          have HB6 := Lib.hid (HB5.out.trans (hb.mono HB5.out.size))
          clear hb
          go_wp2_with fail
          (with_reducible refine (HW.out _).mono ?_); rintro e w7 ⟨rfl, hb⟩
          have HB7 := Lib.hid (HB6.out.trans (hb.mono HB6.out.size))
          clear hb
          go_wp2
          go_ret
          exact ⟨rfl, HB7.out⟩
        · have HX := Lib.hid (HNN.out p q hpq wr)
          have HR := Lib.hid (fun w => RNN.out p q hpq w)
          have HB := Lib.hid HJ.out.bel
          clear HJ hpq
          go_wp2_with fail
          (with_reducible refine HX.out.mono ?_); rintro e w5 ⟨rfl, rfl⟩
          go_wp2_with fail
          (with_reducible refine (HR.out _).mono ?_); rintro e w6 ⟨rfl, rfl⟩
          go_wp2_with fail
          (with_reducible refine (HW.out _).mono ?_); rintro e w7 ⟨rfl, hb⟩
          have HB7 := Lib.hid (HB.out.trans (hb.mono HB.out.size))
          clear hb
          go_wp2
          go_ret
          exact ⟨rfl, HB7.out⟩
end Go.Proofs.Ytgojbomdkdlclaa

