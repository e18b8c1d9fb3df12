/-
  Layer 10: the contract of the statement's act: one call on both tables.
-/
import Derived.Test.YtgojbomdkdlclaaFlScr
import Derived.Test.YtgojbomdkdlclaaFlRef6
namespace Go.Proofs.Ytgojbomdkdlclaa
open Go.ChangeShapes Go.WideShapes Go.ChangeAt Go.RowKit
set_option linter.unusedVariables false

theorem raddStation_any {C R : Nat} {S : Nat → Prop} {t : Tb} {w : World} (h : RO C R S t w) (n : ByteArray) (hn : n.size ≤ 2000000) (x r : Int) :
    Calls Try.prog 24 #[.pointer (some ⟨R, 0, none⟩), .string n, .int .i64 x, .int .i64 r] w (RAns C R S (asT t n x r) (.tuple #[.int .i64 (asX t n x r), .int .i64 (asE t n x r)]) w) := by
  cases hc : ((nam n).isSome && gwB x && decide (0 ≤ r) && decide (r < t.rt))
  · obtain ⟨e1, e2, e3⟩ := as_1 hc
    rw [e1, e2, e3]; exact raddStation_bad h n hn x r hc
  · exact raddStation_good h n hn x r hc
/-- What act leaves: the two tables alike again. -/
def ActAns (B : Nat) (a : Option Addr) (len cap K : Nat) (w0 : World) (C H R : Nat) (e : Ending) (w' : World) : Prop :=
  e = .returned (.bool true) ∧ ∃ k t, k ≤ K ∧ GS B a len cap k w0 C H R t t w'
def pL : List Int := [0, 1, 64, 65]
def bL : List Int := [0, 1, 262144, 262145]
def gL : List Int := [0, 1, 1099511627776, 1099511627777]
def dL : List Int := [-1, 0, 5, 1099511627776]
set_option maxRecDepth 100000 in
set_option maxHeartbeats 16000000 in
theorem act_any {B : Nat} {a : Option Addr} {len cap k : Nat} {w0 w : World} {C H R : Nat} {t : Tb} (h : GS B a len cap k w0 C H R t t w) (hk : k ≤ 1000000) (p q : Int) :
    Calls Try.prog 11 #[.pointer (some ⟨B, 0, none⟩), .pointer (some ⟨H, 0, none⟩), .pointer (some ⟨R, 0, none⟩), .int .i64 p, .int .i64 q] w (ActAns B a len cap (k + 20) w0 C H R) := by
  have HX := Lib.hid (h.next (n := 8) (by omega) (by omega) (by omega))
  clear h
  unfold ActAns
  go_enter Try.func11, Try.ntmps11
  go_wp2_with fail
  (with_reducible refine HX.out.mono ?_); rintro e w1 ⟨r1, r10, r11, rfl, h1, _⟩
  have HX := Lib.hid (h1.next (n := 19) (by omega) (by omega) (by omega))
  have z1 : IntKind.i64.wrap (r1 - 1) = r1 - 1 := IntWalk.i64_in _ (by omega)
  clear h1
  go_wp2_with fail
  (with_reducible refine HX.out.mono ?_); rintro e w2 ⟨r2, r20, r21, rfl, h2, _⟩
  have HX := Lib.hid (h2.next (n := 12) (by omega) (by omega) (by omega))
  have z2 : IntKind.i64.wrap (r2 - 1) = r2 - 1 := IntWalk.i64_in _ (by omega)
  clear h2
  go_wp2_with fail
  (with_reducible refine HX.out.mono ?_); rintro e w3 ⟨r3, r30, r31, rfl, h3, _⟩
  have HX := Lib.hid (h3.next (n := 9) (by omega) (by omega) (by omega))
  clear h3
  by_cases hr3 : r3 = 0
  · subst hr3
    go_wp2_with fail
    (with_reducible refine HX.out.mono ?_); rintro e w4 ⟨r4, r40, r41, rfl, h4, _⟩
    clear HX
    rcases (show r4 = 0 ∨ r4 = 1 ∨ r4 = 2 ∨ r4 = 3 ∨ r4 = 4 ∨ r4 = 5 ∨ r4 = 6 ∨ r4 = 7 ∨ r4 = 8 by omega) with rfl | rfl | rfl | rfl | rfl | rfl | rfl | rfl | rfl
    · have HX := Lib.hid (h4.name (by omega))
      clear h4
      go_wp2_with fail
      (with_reducible refine HX.out.mono ?_); rintro e w5 ⟨n, hn, rfl, h5⟩
      have HX := Lib.hid (h5.next (n := 4) (by omega) (by omega) (by omega))
      clear h5
      go_wp2_with fail
      (with_reducible refine HX.out.mono ?_); rintro e w6 ⟨r5, r50, r51, rfl, h6, _⟩
      have z5 : IntKind.i64.wrap (r5 - 1) = r5 - 1 := IntWalk.i64_in _ (by omega)
      have HX := Lib.hid (h6.callP (fun S hS => addStation_any hS n (q) (r5 - 1)))
      clear h6
      go_wp2_with fail
      (with_reducible refine HX.out.mono ?_); rintro e w7 ⟨rfl, h7⟩
      have HX := Lib.hid (h7.callR (fun S hS => raddStation_any hS n hn (q) (r5 - 1)))
      clear h7
      go_wp2_with fail
      (with_reducible refine HX.out.mono ?_); rintro e w8 ⟨rfl, h8⟩
      have HF := Lib.hid h8
      clear h8 HX
      go_wp2
      go_ret
      exact ⟨rfl, _, _, by omega, HF.out⟩
    · have HX := Lib.hid (h4.name (by omega))
      clear h4
      go_wp2_with fail
      (with_reducible refine HX.out.mono ?_); rintro e w5 ⟨n, hn, rfl, h5⟩
      have HX := Lib.hid (h5.next (n := 4) (by omega) (by omega) (by omega))
      clear h5
      go_wp2_with fail
      (with_reducible refine HX.out.mono ?_); rintro e w6 ⟨r5, r50, r51, rfl, h6, _⟩
      have z5 : IntKind.i64.wrap (r5 - 1) = r5 - 1 := IntWalk.i64_in _ (by omega)
      have HX := Lib.hid (h6.callP (fun S hS => addStation_any hS n (q) (r5 - 1)))
      clear h6
      go_wp2_with fail
      (with_reducible refine HX.out.mono ?_); rintro e w7 ⟨rfl, h7⟩
      have HX := Lib.hid (h7.callR (fun S hS => raddStation_any hS n hn (q) (r5 - 1)))
      clear h7
      go_wp2_with fail
      (with_reducible refine HX.out.mono ?_); rintro e w8 ⟨rfl, h8⟩
      have HF := Lib.hid h8
      clear h8 HX
      go_wp2
      go_ret
      exact ⟨rfl, _, _, by omega, HF.out⟩
    · have HX := Lib.hid (h4.callP (fun S hS => addFlow_any hS (p) (q)))
      clear h4
      go_wp2_with fail
      (with_reducible refine HX.out.mono ?_); rintro e w5 ⟨rfl, h5⟩
      have HX := Lib.hid (h5.callR (fun S hS => raddFlow_any hS (p) (q)))
      clear h5
      go_wp2_with fail
      (with_reducible refine HX.out.mono ?_); rintro e w6 ⟨rfl, h6⟩
      have HF := Lib.hid h6
      clear h6 HX
      go_wp2
      go_ret
      exact ⟨rfl, _, _, by omega, HF.out⟩
    · have HX := Lib.hid (h4.callP (fun S hS => addFlow_any hS (p) (q)))
      clear h4
      go_wp2_with fail
      (with_reducible refine HX.out.mono ?_); rintro e w5 ⟨rfl, h5⟩
      have HX := Lib.hid (h5.callR (fun S hS => raddFlow_any hS (p) (q)))
      clear h5
      go_wp2_with fail
      (with_reducible refine HX.out.mono ?_); rintro e w6 ⟨rfl, h6⟩
      have HF := Lib.hid h6
      clear h6 HX
      go_wp2
      go_ret
      exact ⟨rfl, _, _, by omega, HF.out⟩
    · have HX := Lib.hid (h4.callP (fun S hS => addFlow_any hS (p) (q)))
      clear h4
      go_wp2_with fail
      (with_reducible refine HX.out.mono ?_); rintro e w5 ⟨rfl, h5⟩
      have HX := Lib.hid (h5.callR (fun S hS => raddFlow_any hS (p) (q)))
      clear h5
      go_wp2_with fail
      (with_reducible refine HX.out.mono ?_); rintro e w6 ⟨rfl, h6⟩
      have HF := Lib.hid h6
      clear h6 HX
      go_wp2
      go_ret
      exact ⟨rfl, _, _, by omega, HF.out⟩
    · have HX := Lib.hid (h4.callP (fun S hS => setWeight_any hS (p) (q)))
      clear h4
      go_wp2_with fail
      (with_reducible refine HX.out.mono ?_); rintro e w5 ⟨rfl, h5⟩
      have HX := Lib.hid (h5.callR (fun S hS => rsetWeight_any hS (p) (q)))
      clear h5
      go_wp2_with fail
      (with_reducible refine HX.out.mono ?_); rintro e w6 ⟨rfl, h6⟩
      have HF := Lib.hid h6
      clear h6 HX
      go_wp2
      go_ret
      exact ⟨rfl, _, _, by omega, HF.out⟩
    · go_wp2_with fail
      have HG := Lib.hid h4
      clear h4
      obtain ⟨k0, hk0⟩ : ∃ k0, k + 4 = k0 := ⟨_, rfl⟩
      refine wp_region_loose 162 (by kernel_rfl) (by kernel_rfl) (LsC B a len cap (k + 4 + 12) w0 C H R t t) (LsR B) (TwV B pL bL) rfl (fun i v w w' h hv => TwV.keep i v w w' h hv) ?_ ?_ ?_
      · exact ⟨_, by simp, HG.out.below (Below.refl _ _).drew⟩
      · simp only [OblAll]
        refine ⟨?_, ?_, ?_, ?_, ?_, ?_, ?_, ?_, ?_, ?_, ?_, ?_, trivial⟩
        all_goals
          intro fu wx vals hC hp
          simp [predL, predE, Region.binds, PreV, TwV] at hp
          simp only [fillA, if_true, Act.put]
          simp
          have HC := Lib.hid hC
          have HR0 := Lib.hid (show LsR B wx wx from Only.refl _ _)
          obtain ⟨kk, hkk, hg'⟩ := hC
          have hBx : B < wx.heap.size := hg'.ltB
        · clear hp hg'
          go_wp2
          exact ⟨rfl, HC.out.alloc _, Only.alloc B wx _, RowL.new hBx pL rfl _⟩
        · clear hg'
          go_wp2
          exact ⟨rfl, HC.out.step, HR0.out, rfl⟩
        · simp only [hp]
          clear hp
          go_wp2_with fail
          refine (hg'.next (n := 4) (by decide) (by decide) (by omega)).mono ?_
          rintro e w' ⟨r, r0, r1, rfl, hg2, ho⟩
          have HF := Lib.hid (And.intro (show LsC B a len cap (k + 4 + 12) w0 C H R t t fu w' from ⟨_, by omega, hg2⟩) ho)
          have HY := Lib.hid (show 0 ≤ r ∧ r ≤ 3 by omega)
          clear hg' hg2 ho
          go_wp2
          exact ⟨rfl, HF.out.1, HF.out.2, _, HY.out, rfl⟩
        · obtain ⟨⟨g, g1, g2, e1, e2⟩, r, hr, e3⟩ := hp
          simp only [e1, e3]
          obtain ⟨m, rfl⟩ := Int.eq_ofNat_of_zero_le hr.1
          have hm : m < (pL).length := by show m < 4; omega
          have HY := Lib.hid (e2 m hm)
          have hm' : m ≤ 3 := by omega
          clear e1 e2 e3 hg' hr
          go_wp2
          exact ⟨rfl, HC.out.step, HR0.out, g, _, g1, g2, rfl, _, List.getElem_mem hm, HY.out⟩
        · obtain ⟨g, o, g1, g2, e1, x, hx, hc⟩ := hp
          simp only [e1]
          have HY := Lib.hid hx
          clear e1 hx hg'
          go_wp2
          exact ⟨rfl, HC.out.step, HR0.out, _, HY.out, rfl⟩
        · clear hp hg'
          go_wp2
          exact ⟨rfl, HC.out.alloc _, Only.alloc B wx _, RowL.new hBx bL rfl _⟩
        · clear hg'
          go_wp2
          exact ⟨rfl, HC.out.step, HR0.out, rfl⟩
        · simp only [hp]
          clear hp
          go_wp2_with fail
          refine (hg'.next (n := 4) (by decide) (by decide) (by omega)).mono ?_
          rintro e w' ⟨r, r0, r1, rfl, hg2, ho⟩
          have HF := Lib.hid (And.intro (show LsC B a len cap (k + 4 + 12) w0 C H R t t fu w' from ⟨_, by omega, hg2⟩) ho)
          have HY := Lib.hid (show 0 ≤ r ∧ r ≤ 3 by omega)
          clear hg' hg2 ho
          go_wp2
          exact ⟨rfl, HF.out.1, HF.out.2, _, HY.out, rfl⟩
        · obtain ⟨⟨g, g1, g2, e1, e2⟩, r, hr, e3⟩ := hp
          simp only [e1, e3]
          obtain ⟨m, rfl⟩ := Int.eq_ofNat_of_zero_le hr.1
          have hm : m < (bL).length := by show m < 4; omega
          have HY := Lib.hid (e2 m hm)
          have hm' : m ≤ 3 := by omega
          clear e1 e2 e3 hg' hr
          go_wp2
          exact ⟨rfl, HC.out.step, HR0.out, g, _, g1, g2, rfl, _, List.getElem_mem hm, HY.out⟩
        · obtain ⟨g, o, g1, g2, e1, x, hx, hc⟩ := hp
          simp only [e1]
          have HY := Lib.hid hx
          clear e1 hx hg'
          go_wp2
          exact ⟨rfl, HC.out.step, HR0.out, _, HY.out, rfl⟩
        · obtain ⟨⟨x, hx, e1⟩, _⟩ := hp
          simp only [e1]
          have HY := Lib.hid hx
          clear e1 hx hg'
          go_wp2
          exact ⟨rfl, HC.out.step, HR0.out, _, HY.out, rfl⟩
        · obtain ⟨⟨x, hx, e1⟩, _⟩ := hp
          simp only [e1]
          have HY := Lib.hid hx
          clear e1 hx hg'
          go_wp2
          exact ⟨rfl, HC.out.step, HR0.out, _, HY.out, rfl⟩
      · intro w5 vals hC hV
        obtain ⟨x, hx, ex⟩ := (show InL pL (vals 10) from hV 10 (by simp))
        obtain ⟨y, hy, ey⟩ := (show InL bL (vals 11) from hV 11 (by simp))
        obtain ⟨k6, hk6, h5⟩ := hC
        simp only [fillA, if_true, Act.put]
        simp
        simp only [ex, ey]
        clear hV ex ey hx hy HG hk0
        have HX := Lib.hid (h5.callP (fun S hS => setCaps_any hS (p) x y))
        clear h5
        go_wp2_with fail
        (with_reducible refine HX.out.mono ?_); rintro e w6 ⟨rfl, h6⟩
        have HX := Lib.hid (h6.callR (fun S hS => rsetCaps_any hS (p) x y))
        clear h6
        go_wp2_with fail
        (with_reducible refine HX.out.mono ?_); rintro e w7 ⟨rfl, h7⟩
        have HF := Lib.hid h7
        clear h7 HX
        go_wp2
        go_ret
        exact ⟨rfl, _, _, by omega, HF.out⟩
    · go_wp2_with fail
      have HG := Lib.hid h4
      clear h4
      obtain ⟨k0, hk0⟩ : ∃ k0, k + 4 = k0 := ⟨_, rfl⟩
      refine wp_region_loose 162 (by kernel_rfl) (by kernel_rfl) (LsC B a len cap (k + 4 + 12) w0 C H R t t) (LsR B) (TwV B gL dL) rfl (fun i v w w' h hv => TwV.keep i v w w' h hv) ?_ ?_ ?_
      · exact ⟨_, by simp, HG.out.below (Below.refl _ _).drew⟩
      · simp only [OblAll]
        refine ⟨?_, ?_, ?_, ?_, ?_, ?_, ?_, ?_, ?_, ?_, ?_, ?_, trivial⟩
        all_goals
          intro fu wx vals hC hp
          simp [predL, predE, Region.binds, PreV, TwV] at hp
          simp only [fillA, if_true, Act.put]
          simp
          have HC := Lib.hid hC
          have HR0 := Lib.hid (show LsR B wx wx from Only.refl _ _)
          obtain ⟨kk, hkk, hg'⟩ := hC
          have hBx : B < wx.heap.size := hg'.ltB
        · clear hp hg'
          go_wp2
          exact ⟨rfl, HC.out.alloc _, Only.alloc B wx _, RowL.new hBx gL rfl _⟩
        · clear hg'
          go_wp2
          exact ⟨rfl, HC.out.step, HR0.out, rfl⟩
        · simp only [hp]
          clear hp
          go_wp2_with fail
          refine (hg'.next (n := 4) (by decide) (by decide) (by omega)).mono ?_
          rintro e w' ⟨r, r0, r1, rfl, hg2, ho⟩
          have HF := Lib.hid (And.intro (show LsC B a len cap (k + 4 + 12) w0 C H R t t fu w' from ⟨_, by omega, hg2⟩) ho)
          have HY := Lib.hid (show 0 ≤ r ∧ r ≤ 3 by omega)
          clear hg' hg2 ho
          go_wp2
          exact ⟨rfl, HF.out.1, HF.out.2, _, HY.out, rfl⟩
        · obtain ⟨⟨g, g1, g2, e1, e2⟩, r, hr, e3⟩ := hp
          simp only [e1, e3]
          obtain ⟨m, rfl⟩ := Int.eq_ofNat_of_zero_le hr.1
          have hm : m < (gL).length := by show m < 4; omega
          have HY := Lib.hid (e2 m hm)
          have hm' : m ≤ 3 := by omega
          clear e1 e2 e3 hg' hr
          go_wp2
          exact ⟨rfl, HC.out.step, HR0.out, g, _, g1, g2, rfl, _, List.getElem_mem hm, HY.out⟩
        · obtain ⟨g, o, g1, g2, e1, x, hx, hc⟩ := hp
          simp only [e1]
          have HY := Lib.hid hx
          clear e1 hx hg'
          go_wp2
          exact ⟨rfl, HC.out.step, HR0.out, _, HY.out, rfl⟩
        · clear hp hg'
          go_wp2
          exact ⟨rfl, HC.out.alloc _, Only.alloc B wx _, RowL.new hBx dL rfl _⟩
        · clear hg'
          go_wp2
          exact ⟨rfl, HC.out.step, HR0.out, rfl⟩
        · simp only [hp]
          clear hp
          go_wp2_with fail
          refine (hg'.next (n := 4) (by decide) (by decide) (by omega)).mono ?_
          rintro e w' ⟨r, r0, r1, rfl, hg2, ho⟩
          have HF := Lib.hid (And.intro (show LsC B a len cap (k + 4 + 12) w0 C H R t t fu w' from ⟨_, by omega, hg2⟩) ho)
          have HY := Lib.hid (show 0 ≤ r ∧ r ≤ 3 by omega)
          clear hg' hg2 ho
          go_wp2
          exact ⟨rfl, HF.out.1, HF.out.2, _, HY.out, rfl⟩
        · obtain ⟨⟨g, g1, g2, e1, e2⟩, r, hr, e3⟩ := hp
          simp only [e1, e3]
          obtain ⟨m, rfl⟩ := Int.eq_ofNat_of_zero_le hr.1
          have hm : m < (dL).length := by show m < 4; omega
          have HY := Lib.hid (e2 m hm)
          have hm' : m ≤ 3 := by omega
          clear e1 e2 e3 hg' hr
          go_wp2
          exact ⟨rfl, HC.out.step, HR0.out, g, _, g1, g2, rfl, _, List.getElem_mem hm, HY.out⟩
        · obtain ⟨g, o, g1, g2, e1, x, hx, hc⟩ := hp
          simp only [e1]
          have HY := Lib.hid hx
          clear e1 hx hg'
          go_wp2
          exact ⟨rfl, HC.out.step, HR0.out, _, HY.out, rfl⟩
        · obtain ⟨⟨x, hx, e1⟩, _⟩ := hp
          simp only [e1]
          have HY := Lib.hid hx
          clear e1 hx hg'
          go_wp2
          exact ⟨rfl, HC.out.step, HR0.out, _, HY.out, rfl⟩
        · obtain ⟨⟨x, hx, e1⟩, _⟩ := hp
          simp only [e1]
          have HY := Lib.hid hx
          clear e1 hx hg'
          go_wp2
          exact ⟨rfl, HC.out.step, HR0.out, _, HY.out, rfl⟩
      · intro w5 vals hC hV
        obtain ⟨x, hx, ex⟩ := (show InL gL (vals 10) from hV 10 (by simp))
        obtain ⟨y, hy, ey⟩ := (show InL dL (vals 11) from hV 11 (by simp))
        obtain ⟨k6, hk6, h5⟩ := hC
        simp only [fillA, if_true, Act.put]
        simp
        simp only [ex, ey]
        clear hV ex ey hx hy HG hk0
        have HX := Lib.hid (h5.callP (fun S hS => setBounds_any hS (p) x y))
        clear h5
        go_wp2_with fail
        (with_reducible refine HX.out.mono ?_); rintro e w6 ⟨rfl, h6⟩
        have HX := Lib.hid (h6.callR (fun S hS => rsetBounds_any hS (p) x y))
        clear h6
        go_wp2_with fail
        (with_reducible refine HX.out.mono ?_); rintro e w7 ⟨rfl, h7⟩
        have HF := Lib.hid h7
        clear h7 HX
        go_wp2
        go_ret
        exact ⟨rfl, _, _, by omega, HF.out⟩
    · have HX := Lib.hid (h4.callP (fun S hS => remove_any hS (p)))
      clear h4
      go_wp2_with fail
      (with_reducible refine HX.out.mono ?_); rintro e w5 ⟨rfl, h5⟩
      have HX := Lib.hid (h5.callR (fun S hS => rremove_any hS (p)))
      clear h5
      go_wp2_with fail
      (with_reducible refine HX.out.mono ?_); rintro e w6 ⟨rfl, h6⟩
      have HF := Lib.hid h6
      clear h6 HX
      go_wp2
      go_ret
      exact ⟨rfl, _, _, by omega, HF.out⟩
  · have hr3' : (r3 == 0) = false := beq_eq_false_iff_ne.2 hr3
    go_wp2_with fail
    (with_reducible refine HX.out.mono ?_); rintro e w4 ⟨r4, r40, r41, rfl, h4, _⟩
    clear HX
    rcases (show r4 = 0 ∨ r4 = 1 ∨ r4 = 2 ∨ r4 = 3 ∨ r4 = 4 ∨ r4 = 5 ∨ r4 = 6 ∨ r4 = 7 ∨ r4 = 8 by omega) with rfl | rfl | rfl | rfl | rfl | rfl | rfl | rfl | rfl
    · have HX := Lib.hid (h4.name (by omega))
      clear h4
      go_wp2_with fail
      (with_reducible refine HX.out.mono ?_); rintro e w5 ⟨n, hn, rfl, h5⟩
      have HX := Lib.hid (h5.next (n := 4) (by omega) (by omega) (by omega))
      clear h5
      go_wp2_with fail
      (with_reducible refine HX.out.mono ?_); rintro e w6 ⟨r5, r50, r51, rfl, h6, _⟩
      have z5 : IntKind.i64.wrap (r5 - 1) = r5 - 1 := IntWalk.i64_in _ (by omega)
      have HX := Lib.hid (h6.callP (fun S hS => addStation_any hS n (r2 - 1) (r5 - 1)))
      clear h6
      go_wp2_with fail
      (with_reducible refine HX.out.mono ?_); rintro e w7 ⟨rfl, h7⟩
      have HX := Lib.hid (h7.callR (fun S hS => raddStation_any hS n hn (r2 - 1) (r5 - 1)))
      clear h7
      go_wp2_with fail
      (with_reducible refine HX.out.mono ?_); rintro e w8 ⟨rfl, h8⟩
      have HF := Lib.hid h8
      clear h8 HX
      go_wp2
      go_ret
      exact ⟨rfl, _, _, by omega, HF.out⟩
    · have HX := Lib.hid (h4.name (by omega))
      clear h4
      go_wp2_with fail
      (with_reducible refine HX.out.mono ?_); rintro e w5 ⟨n, hn, rfl, h5⟩
      have HX := Lib.hid (h5.next (n := 4) (by omega) (by omega) (by omega))
      clear h5
      go_wp2_with fail
      (with_reducible refine HX.out.mono ?_); rintro e w6 ⟨r5, r50, r51, rfl, h6, _⟩
      have z5 : IntKind.i64.wrap (r5 - 1) = r5 - 1 := IntWalk.i64_in _ (by omega)
      have HX := Lib.hid (h6.callP (fun S hS => addStation_any hS n (r2 - 1) (r5 - 1)))
      clear h6
      go_wp2_with fail
      (with_reducible refine HX.out.mono ?_); rintro e w7 ⟨rfl, h7⟩
      have HX := Lib.hid (h7.callR (fun S hS => raddStation_any hS n hn (r2 - 1) (r5 - 1)))
      clear h7
      go_wp2_with fail
      (with_reducible refine HX.out.mono ?_); rintro e w8 ⟨rfl, h8⟩
      have HF := Lib.hid h8
      clear h8 HX
      go_wp2
      go_ret
      exact ⟨rfl, _, _, by omega, HF.out⟩
    · have HX := Lib.hid (h4.callP (fun S hS => addFlow_any hS (r1 - 1) (r2 - 1)))
      clear h4
      go_wp2_with fail
      (with_reducible refine HX.out.mono ?_); rintro e w5 ⟨rfl, h5⟩
      have HX := Lib.hid (h5.callR (fun S hS => raddFlow_any hS (r1 - 1) (r2 - 1)))
      clear h5
      go_wp2_with fail
      (with_reducible refine HX.out.mono ?_); rintro e w6 ⟨rfl, h6⟩
      have HF := Lib.hid h6
      clear h6 HX
      go_wp2
      go_ret
      exact ⟨rfl, _, _, by omega, HF.out⟩
    · have HX := Lib.hid (h4.callP (fun S hS => addFlow_any hS (r1 - 1) (r2 - 1)))
      clear h4
      go_wp2_with fail
      (with_reducible refine HX.out.mono ?_); rintro e w5 ⟨rfl, h5⟩
      have HX := Lib.hid (h5.callR (fun S hS => raddFlow_any hS (r1 - 1) (r2 - 1)))
      clear h5
      go_wp2_with fail
      (with_reducible refine HX.out.mono ?_); rintro e w6 ⟨rfl, h6⟩
      have HF := Lib.hid h6
      clear h6 HX
      go_wp2
      go_ret
      exact ⟨rfl, _, _, by omega, HF.out⟩
    · have HX := Lib.hid (h4.callP (fun S hS => addFlow_any hS (r1 - 1) (r2 - 1)))
      clear h4
      go_wp2_with fail
      (with_reducible refine HX.out.mono ?_); rintro e w5 ⟨rfl, h5⟩
      have HX := Lib.hid (h5.callR (fun S hS => raddFlow_any hS (r1 - 1) (r2 - 1)))
      clear h5
      go_wp2_with fail
      (with_reducible refine HX.out.mono ?_); rintro e w6 ⟨rfl, h6⟩
      have HF := Lib.hid h6
      clear h6 HX
      go_wp2
      go_ret
      exact ⟨rfl, _, _, by omega, HF.out⟩
    · have HX := Lib.hid (h4.callP (fun S hS => setWeight_any hS (r1 - 1) (r2 - 1)))
      clear h4
      go_wp2_with fail
      (with_reducible refine HX.out.mono ?_); rintro e w5 ⟨rfl, h5⟩
      have HX := Lib.hid (h5.callR (fun S hS => rsetWeight_any hS (r1 - 1) (r2 - 1)))
      clear h5
      go_wp2_with fail
      (with_reducible refine HX.out.mono ?_); rintro e w6 ⟨rfl, h6⟩
      have HF := Lib.hid h6
      clear h6 HX
      go_wp2
      go_ret
      exact ⟨rfl, _, _, by omega, HF.out⟩
    · go_wp2_with fail
      have HG := Lib.hid h4
      clear h4
      obtain ⟨k0, hk0⟩ : ∃ k0, k + 4 = k0 := ⟨_, rfl⟩
      refine wp_region_loose 162 (by kernel_rfl) (by kernel_rfl) (LsC B a len cap (k + 4 + 12) w0 C H R t t) (LsR B) (TwV B pL bL) rfl (fun i v w w' h hv => TwV.keep i v w w' h hv) ?_ ?_ ?_
      · exact ⟨_, by simp, HG.out.below (Below.refl _ _).drew⟩
      · simp only [OblAll]
        refine ⟨?_, ?_, ?_, ?_, ?_, ?_, ?_, ?_, ?_, ?_, ?_, ?_, trivial⟩
        all_goals
          intro fu wx vals hC hp
          simp [predL, predE, Region.binds, PreV, TwV] at hp
          simp only [fillA, if_true, Act.put]
          simp
          have HC := Lib.hid hC
          have HR0 := Lib.hid (show LsR B wx wx from Only.refl _ _)
          obtain ⟨kk, hkk, hg'⟩ := hC
          have hBx : B < wx.heap.size := hg'.ltB
        · clear hp hg'
          go_wp2
          exact ⟨rfl, HC.out.alloc _, Only.alloc B wx _, RowL.new hBx pL rfl _⟩
        · clear hg'
          go_wp2
          exact ⟨rfl, HC.out.step, HR0.out, rfl⟩
        · simp only [hp]
          clear hp
          go_wp2_with fail
          refine (hg'.next (n := 4) (by decide) (by decide) (by omega)).mono ?_
          rintro e w' ⟨r, r0, r1, rfl, hg2, ho⟩
          have HF := Lib.hid (And.intro (show LsC B a len cap (k + 4 + 12) w0 C H R t t fu w' from ⟨_, by omega, hg2⟩) ho)
          have HY := Lib.hid (show 0 ≤ r ∧ r ≤ 3 by omega)
          clear hg' hg2 ho
          go_wp2
          exact ⟨rfl, HF.out.1, HF.out.2, _, HY.out, rfl⟩
        · obtain ⟨⟨g, g1, g2, e1, e2⟩, r, hr, e3⟩ := hp
          simp only [e1, e3]
          obtain ⟨m, rfl⟩ := Int.eq_ofNat_of_zero_le hr.1
          have hm : m < (pL).length := by show m < 4; omega
          have HY := Lib.hid (e2 m hm)
          have hm' : m ≤ 3 := by omega
          clear e1 e2 e3 hg' hr
          go_wp2
          exact ⟨rfl, HC.out.step, HR0.out, g, _, g1, g2, rfl, _, List.getElem_mem hm, HY.out⟩
        · obtain ⟨g, o, g1, g2, e1, x, hx, hc⟩ := hp
          simp only [e1]
          have HY := Lib.hid hx
          clear e1 hx hg'
          go_wp2
          exact ⟨rfl, HC.out.step, HR0.out, _, HY.out, rfl⟩
        · clear hp hg'
          go_wp2
          exact ⟨rfl, HC.out.alloc _, Only.alloc B wx _, RowL.new hBx bL rfl _⟩
        · clear hg'
          go_wp2
          exact ⟨rfl, HC.out.step, HR0.out, rfl⟩
        · simp only [hp]
          clear hp
          go_wp2_with fail
          refine (hg'.next (n := 4) (by decide) (by decide) (by omega)).mono ?_
          rintro e w' ⟨r, r0, r1, rfl, hg2, ho⟩
          have HF := Lib.hid (And.intro (show LsC B a len cap (k + 4 + 12) w0 C H R t t fu w' from ⟨_, by omega, hg2⟩) ho)
          have HY := Lib.hid (show 0 ≤ r ∧ r ≤ 3 by omega)
          clear hg' hg2 ho
          go_wp2
          exact ⟨rfl, HF.out.1, HF.out.2, _, HY.out, rfl⟩
        · obtain ⟨⟨g, g1, g2, e1, e2⟩, r, hr, e3⟩ := hp
          simp only [e1, e3]
          obtain ⟨m, rfl⟩ := Int.eq_ofNat_of_zero_le hr.1
          have hm : m < (bL).length := by show m < 4; omega
          have HY := Lib.hid (e2 m hm)
          have hm' : m ≤ 3 := by omega
          clear e1 e2 e3 hg' hr
          go_wp2
          exact ⟨rfl, HC.out.step, HR0.out, g, _, g1, g2, rfl, _, List.getElem_mem hm, HY.out⟩
        · obtain ⟨g, o, g1, g2, e1, x, hx, hc⟩ := hp
          simp only [e1]
          have HY := Lib.hid hx
          clear e1 hx hg'
          go_wp2
          exact ⟨rfl, HC.out.step, HR0.out, _, HY.out, rfl⟩
        · obtain ⟨⟨x, hx, e1⟩, _⟩ := hp
          simp only [e1]
          have HY := Lib.hid hx
          clear e1 hx hg'
          go_wp2
          exact ⟨rfl, HC.out.step, HR0.out, _, HY.out, rfl⟩
        · obtain ⟨⟨x, hx, e1⟩, _⟩ := hp
          simp only [e1]
          have HY := Lib.hid hx
          clear e1 hx hg'
          go_wp2
          exact ⟨rfl, HC.out.step, HR0.out, _, HY.out, rfl⟩
      · intro w5 vals hC hV
        obtain ⟨x, hx, ex⟩ := (show InL pL (vals 10) from hV 10 (by simp))
        obtain ⟨y, hy, ey⟩ := (show InL bL (vals 11) from hV 11 (by simp))
        obtain ⟨k6, hk6, h5⟩ := hC
        simp only [fillA, if_true, Act.put]
        simp
        simp only [ex, ey]
        clear hV ex ey hx hy HG hk0
        have HX := Lib.hid (h5.callP (fun S hS => setCaps_any hS (r1 - 1) x y))
        clear h5
        go_wp2_with fail
        (with_reducible refine HX.out.mono ?_); rintro e w6 ⟨rfl, h6⟩
        have HX := Lib.hid (h6.callR (fun S hS => rsetCaps_any hS (r1 - 1) x y))
        clear h6
        go_wp2_with fail
        (with_reducible refine HX.out.mono ?_); rintro e w7 ⟨rfl, h7⟩
        have HF := Lib.hid h7
        clear h7 HX
        go_wp2
        go_ret
        exact ⟨rfl, _, _, by omega, HF.out⟩
    · go_wp2_with fail
      have HG := Lib.hid h4
      clear h4
      obtain ⟨k0, hk0⟩ : ∃ k0, k + 4 = k0 := ⟨_, rfl⟩
      refine wp_region_loose 162 (by kernel_rfl) (by kernel_rfl) (LsC B a len cap (k + 4 + 12) w0 C H R t t) (LsR B) (TwV B gL dL) rfl (fun i v w w' h hv => TwV.keep i v w w' h hv) ?_ ?_ ?_
      · exact ⟨_, by simp, HG.out.below (Below.refl _ _).drew⟩
      · simp only [OblAll]
        refine ⟨?_, ?_, ?_, ?_, ?_, ?_, ?_, ?_, ?_, ?_, ?_, ?_, trivial⟩
        all_goals
          intro fu wx vals hC hp
          simp [predL, predE, Region.binds, PreV, TwV] at hp
          simp only [fillA, if_true, Act.put]
          simp
          have HC := Lib.hid hC
          have HR0 := Lib.hid (show LsR B wx wx from Only.refl _ _)
          obtain ⟨kk, hkk, hg'⟩ := hC
          have hBx : B < wx.heap.size := hg'.ltB
        · clear hp hg'
          go_wp2
          exact ⟨rfl, HC.out.alloc _, Only.alloc B wx _, RowL.new hBx gL rfl _⟩
        · clear hg'
          go_wp2
          exact ⟨rfl, HC.out.step, HR0.out, rfl⟩
        · simp only [hp]
          clear hp
          go_wp2_with fail
          refine (hg'.next (n := 4) (by decide) (by decide) (by omega)).mono ?_
          rintro e w' ⟨r, r0, r1, rfl, hg2, ho⟩
          have HF := Lib.hid (And.intro (show LsC B a len cap (k + 4 + 12) w0 C H R t t fu w' from ⟨_, by omega, hg2⟩) ho)
          have HY := Lib.hid (show 0 ≤ r ∧ r ≤ 3 by omega)
          clear hg' hg2 ho
          go_wp2
          exact ⟨rfl, HF.out.1, HF.out.2, _, HY.out, rfl⟩
        · obtain ⟨⟨g, g1, g2, e1, e2⟩, r, hr, e3⟩ := hp
          simp only [e1, e3]
          obtain ⟨m, rfl⟩ := Int.eq_ofNat_of_zero_le hr.1
          have hm : m < (gL).length := by show m < 4; omega
          have HY := Lib.hid (e2 m hm)
          have hm' : m ≤ 3 := by omega
          clear e1 e2 e3 hg' hr
          go_wp2
          exact ⟨rfl, HC.out.step, HR0.out, g, _, g1, g2, rfl, _, List.getElem_mem hm, HY.out⟩
        · obtain ⟨g, o, g1, g2, e1, x, hx, hc⟩ := hp
          simp only [e1]
          have HY := Lib.hid hx
          clear e1 hx hg'
          go_wp2
          exact ⟨rfl, HC.out.step, HR0.out, _, HY.out, rfl⟩
        · clear hp hg'
          go_wp2
          exact ⟨rfl, HC.out.alloc _, Only.alloc B wx _, RowL.new hBx dL rfl _⟩
        · clear hg'
          go_wp2
          exact ⟨rfl, HC.out.step, HR0.out, rfl⟩
        · simp only [hp]
          clear hp
          go_wp2_with fail
          refine (hg'.next (n := 4) (by decide) (by decide) (by omega)).mono ?_
          rintro e w' ⟨r, r0, r1, rfl, hg2, ho⟩
          have HF := Lib.hid (And.intro (show LsC B a len cap (k + 4 + 12) w0 C H R t t fu w' from ⟨_, by omega, hg2⟩) ho)
          have HY := Lib.hid (show 0 ≤ r ∧ r ≤ 3 by omega)
          clear hg' hg2 ho
          go_wp2
          exact ⟨rfl, HF.out.1, HF.out.2, _, HY.out, rfl⟩
        · obtain ⟨⟨g, g1, g2, e1, e2⟩, r, hr, e3⟩ := hp
          simp only [e1, e3]
          obtain ⟨m, rfl⟩ := Int.eq_ofNat_of_zero_le hr.1
          have hm : m < (dL).length := by show m < 4; omega
          have HY := Lib.hid (e2 m hm)
          have hm' : m ≤ 3 := by omega
          clear e1 e2 e3 hg' hr
          go_wp2
          exact ⟨rfl, HC.out.step, HR0.out, g, _, g1, g2, rfl, _, List.getElem_mem hm, HY.out⟩
        · obtain ⟨g, o, g1, g2, e1, x, hx, hc⟩ := hp
          simp only [e1]
          have HY := Lib.hid hx
          clear e1 hx hg'
          go_wp2
          exact ⟨rfl, HC.out.step, HR0.out, _, HY.out, rfl⟩
        · obtain ⟨⟨x, hx, e1⟩, _⟩ := hp
          simp only [e1]
          have HY := Lib.hid hx
          clear e1 hx hg'
          go_wp2
          exact ⟨rfl, HC.out.step, HR0.out, _, HY.out, rfl⟩
        · obtain ⟨⟨x, hx, e1⟩, _⟩ := hp
          simp only [e1]
          have HY := Lib.hid hx
          clear e1 hx hg'
          go_wp2
          exact ⟨rfl, HC.out.step, HR0.out, _, HY.out, rfl⟩
      · intro w5 vals hC hV
        obtain ⟨x, hx, ex⟩ := (show InL gL (vals 10) from hV 10 (by simp))
        obtain ⟨y, hy, ey⟩ := (show InL dL (vals 11) from hV 11 (by simp))
        obtain ⟨k6, hk6, h5⟩ := hC
        simp only [fillA, if_true, Act.put]
        simp
        simp only [ex, ey]
        clear hV ex ey hx hy HG hk0
        have HX := Lib.hid (h5.callP (fun S hS => setBounds_any hS (r1 - 1) x y))
        clear h5
        go_wp2_with fail
        (with_reducible refine HX.out.mono ?_); rintro e w6 ⟨rfl, h6⟩
        have HX := Lib.hid (h6.callR (fun S hS => rsetBounds_any hS (r1 - 1) x y))
        clear h6
        go_wp2_with fail
        (with_reducible refine HX.out.mono ?_); rintro e w7 ⟨rfl, h7⟩
        have HF := Lib.hid h7
        clear h7 HX
        go_wp2
        go_ret
        exact ⟨rfl, _, _, by omega, HF.out⟩
    · have HX := Lib.hid (h4.callP (fun S hS => remove_any hS (r1 - 1)))
      clear h4
      go_wp2_with fail
      (with_reducible refine HX.out.mono ?_); rintro e w5 ⟨rfl, h5⟩
      have HX := Lib.hid (h5.callR (fun S hS => rremove_any hS (r1 - 1)))
      clear h5
      go_wp2_with fail
      (with_reducible refine HX.out.mono ?_); rintro e w6 ⟨rfl, h6⟩
      have HF := Lib.hid h6
      clear h6 HX
      go_wp2
      go_ret
      exact ⟨rfl, _, _, by omega, HF.out⟩
end Go.Proofs.Ytgojbomdkdlclaa

