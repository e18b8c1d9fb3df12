/-
  Layer 7: the walk of the statement LabelOrder. Every list of choices; no condition but what the library's variable MaxLen holds a number.
-/
import Derived.Test.YthabmbjjpgcceaaDoorLbWalk1
namespace Go.Proofs.YthabmbjjpgcceaaDoor
open Go.ChangeShapes Go.WideShapes Go.ChangeAt Go.RowKit
set_option linter.unusedVariables false

/-- The names that are drawn: with a small and with a capital k behind them. -/
def sk (x : ByteArray) : ByteArray := x ++ ⟨#[107]⟩
def cK (x : ByteArray) : ByteArray := x ++ ⟨#[75]⟩
theorem sk_all {x : ByteArray} (h : x ∈ goodL) : fE (sk x) = 0 ∧ fE (cK x) = 0 ∧ fE (fS (sk x)) = 0 ∧ fS (fS (sk x)) = fS (sk x) ∧ cmpO (nam (sk x)) (nam (fS (sk x))) = 0 := by
  have hall : (goodL.all fun x => decide (fE (sk x) = 0 ∧ fE (cK x) = 0 ∧ fE (fS (sk x)) = 0 ∧ (fS (fS (sk x))).data = (fS (sk x)).data ∧ cmpO (nam (sk x)) (nam (fS (sk x))) = 0)) = true := by decide +kernel
  have := List.all_eq_true.1 hall x h
  simp only [decide_eq_true_eq] at this
  obtain ⟨h1, h2, h3, h4, h5⟩ := this
  exact ⟨h1, h2, h3, ByteArray.ext h4, h5⟩
theorem two_all {x y : ByteArray} (h : x ∈ goodL) (k : y ∈ goodL) : cmpO (nam (sk x)) (nam (cK y)) = - cmpO (nam (cK y)) (nam (sk x)) ∧ (cmpO (nam (sk x)) (nam (cK y)) == 0) = ((fS (sk x)).data.toList == (fS (cK y)).data.toList) ∧
    -1 ≤ cmpO (nam (cK y)) (nam (sk x)) ∧ cmpO (nam (cK y)) (nam (sk x)) ≤ 1 := by
  have hall : (goodL.all fun x => goodL.all fun y => decide (cmpO (nam (sk x)) (nam (cK y)) = - cmpO (nam (cK y)) (nam (sk x)) ∧ (cmpO (nam (sk x)) (nam (cK y)) == 0) = ((fS (sk x)).data.toList == (fS (cK y)).data.toList) ∧
    -1 ≤ cmpO (nam (cK y)) (nam (sk x)) ∧ cmpO (nam (cK y)) (nam (sk x)) ≤ 1)) = true := by decide +kernel
  have := List.all_eq_true.1 (List.all_eq_true.1 hall x h) y k
  simpa only [decide_eq_true_eq] using this
theorem three_all {x y z : ByteArray} (h : x ∈ goodL) (k : y ∈ goodL) (l : z ∈ goodL) : 0 < cmpO (nam (sk x)) (nam (cK y)) ∨ 0 < cmpO (nam (cK y)) (nam (sk z)) ∨ cmpO (nam (sk x)) (nam (sk z)) ≤ 0 := by
  have hall : (goodL.all fun x => goodL.all fun y => goodL.all fun z => decide (0 < cmpO (nam (sk x)) (nam (cK y)) ∨ 0 < cmpO (nam (cK y)) (nam (sk z)) ∨ cmpO (nam (sk x)) (nam (sk z)) ≤ 0)) = true := by decide +kernel
  have := List.all_eq_true.1 (List.all_eq_true.1 (List.all_eq_true.1 hall x h) y k) z l
  simpa only [decide_eq_true_eq] using this
theorem k_size {x y : ByteArray} (h : x ∈ goodL) (hy : y.size = 1) : (x ++ y).size ≤ 26 := by
  have := good_size h
  rw [ByteArray.size_append]; omega
theorem fold_is2 {s x : ByteArray} {y : Int} (h1 : fS s = x) (h2 : fE s = y) (w : World) : Calls Tryd.prog 16 #[.string s] w fun e w' => e = .returned (.tuple #[.string x, .int .i64 y]) ∧ Below w.heap.size w w' := by
  have := fold_name s w
  unfold FoldAns at this
  rw [h1, h2] at this; exact this
theorem cmp_is {a b : ByteArray} {c : Int} (h : cmpO (nam a) (nam b) = c) (w : World) : Calls Tryd.prog 13 #[.string a, .string b] w fun e w' => e = .returned (.int .i64 c) ∧ Below w.heap.size w w' := by
  have := compare_any a b w
  unfold CmpAns at this
  rw [h] at this; exact this
set_option maxHeartbeats 8000000 in
set_option maxRecDepth 100000 in
theorem walkOrder (a : Option Addr) (len cap : Nat) (w : World) (he : Elems w.heap.size a len w) (hw : ML w) :
    Calls Tryd.prog 6 #[.slice a len cap] w fun e w' => e = .returned (.bool true) ∧ Below w.heap.size w w' := by
  have H0 := Lib.hid (Has.new (cap := cap) he)
  have HW := Lib.hid hw
  clear he hw
  go_enter Tryd.func6, Tryd.ntmps6
  go_wp2_with fail
  (with_reducible refine (new_any a len cap w).mono ?_); rintro e w1 ⟨rfl, hw1⟩
  have H1 := Lib.hid (show Has w.heap.size a len cap 0 w w1 by rw [hw1]; exact H0.out)
  clear hw1 H0
  go_wp2_with fail
  (with_reducible refine (has_good w.heap.size a len cap 0 w w1 H1.out (by omega)).mono ?_); rintro e w2 ⟨x, hx, rfl, h2, _⟩
  have H2 := Lib.hid h2
  have hxs := good_size hx
  have hxh := Lib.hid hx
  clear h2 H1 hx
  go_wp2_with fail
  (with_reducible refine (has_good w.heap.size a len cap _ w w2 H2.out (by omega)).mono ?_); rintro e w3 ⟨y, hy, rfl, h3, _⟩
  have H3 := Lib.hid h3
  have hys := good_size hy
  have hyh := Lib.hid hy
  clear h3 H2 hy
  go_wp2_with fail
  (with_reducible refine (has_good w.heap.size a len cap _ w w3 H3.out (by omega)).mono ?_); rintro e w4 ⟨z, hz, rfl, h4, _⟩
  have H4 := Lib.hid h4
  have hzs := good_size hz
  have hzh := Lib.hid hz
  clear h4 H3 hz
  obtain ⟨a1, _, a3, a4, a5⟩ := sk_all hxh.out
  obtain ⟨_, a2, _⟩ := sk_all hyh.out
  obtain ⟨b1, b2, b3, b4⟩ := two_all hxh.out hyh.out
  have d := three_all hxh.out hyh.out hzh.out
  have F1 := Lib.hid (fun w => fold_is2 (s := sk x) rfl a1 w)
  have F2 := Lib.hid (fun w => fold_is2 (s := cK y) rfl a2 w)
  have F3 := Lib.hid (fun w => fold_is2 a4 a3 w)
  have G1 := Lib.hid (fun w => cmp_is a5 w)
  have G2 := Lib.hid (fun w => cmp_is (a := sk x) (b := cK y) rfl w)
  have G3 := Lib.hid (fun w => cmp_is (a := cK y) (b := sk x) rfl w)
  have G4 := Lib.hid (fun w => cmp_is (a := cK y) (b := sk z) rfl w)
  have G5 := Lib.hid (fun w => cmp_is (a := sk x) (b := sk z) rfl w)
  rw [← bytes_toList, ← bytes_toList] at b2
  have HX := Lib.hid (show x ++ ByteArray.mk #[107] = sk x from rfl)
  have HY := Lib.hid (show y ++ ByteArray.mk #[75] = cK y from rfl)
  have HZ := Lib.hid (show z ++ ByteArray.mk #[107] = sk z from rfl)
  clear a1 a2 a3 a4 a5
  generalize cmpO (nam (sk x)) (nam (cK y)) = c1 at *
  generalize cmpO (nam (cK y)) (nam (sk x)) = c2 at *
  generalize cmpO (nam (cK y)) (nam (sk z)) = c3 at *
  generalize cmpO (nam (sk x)) (nam (sk z)) = c4 at *
  generalize fS (sk x) = u at *
  generalize fS (cK y) = v at *
  have t1 : (c1 != -c2) = false := by simp; omega
  have t2 : (u.toList != u.toList) = false := by simp
  have b3' : -1 ≤ c1 := by omega
  have b4' : c1 ≤ 1 := by omega
  clear b1
  obtain ⟨β, hβ⟩ : ∃ β, (u.toList == v.toList) = β := ⟨_, rfl⟩
  rw [hβ] at b2
  cases β
  · go_wp2_with fail
    rw [HX.out, HY.out, HZ.out]
    (with_reducible refine (F1.out _).mono ?_); rintro e vK1 ⟨rfl, hb⟩
    have K1 := Lib.hid (H4.out.below hb)
    clear hb H4
    go_wp2_with fail
    (with_reducible refine (F2.out _).mono ?_); rintro e vK2 ⟨rfl, hb⟩
    have K2 := Lib.hid (K1.out.below hb)
    clear hb K1
    go_wp2_with fail
    (with_reducible refine (F3.out _).mono ?_); rintro e vK3 ⟨rfl, hb⟩
    have K3 := Lib.hid (K2.out.below hb)
    clear hb K2
    go_wp2_with fail
    (with_reducible refine (G1.out _).mono ?_); rintro e vK4 ⟨rfl, hb⟩
    have K4 := Lib.hid (K3.out.below hb)
    clear hb K3
    go_wp2_with fail
    (with_reducible refine (G2.out _).mono ?_); rintro e vK5 ⟨rfl, hb⟩
    have K5 := Lib.hid (K4.out.below hb)
    clear hb K4
    go_wp2_with fail
    (with_reducible refine (G3.out _).mono ?_); rintro e vK6 ⟨rfl, hb⟩
    have K6 := Lib.hid (K5.out.below hb)
    clear hb K5
    go_wp2_with fail
    (with_reducible refine (G2.out _).mono ?_); rintro e vK7 ⟨rfl, hb⟩
    have K7 := Lib.hid (K6.out.below hb)
    clear hb K6
    go_wp2_with fail
    (with_reducible refine (G2.out _).mono ?_); rintro e vK8 ⟨rfl, hb⟩
    have K8 := Lib.hid (K7.out.below hb)
    clear hb K7
    by_cases e1 : 0 < c1
    · go_wp2_with fail
      (with_reducible refine (awake_any _ (K8.out.ml HW.out)).mono ?_); rintro e v9 ⟨rfl, hb⟩
      have KZ := Lib.hid (K8.out.below hb)
      clear hb
      go_wp2
      go_ret
      exact ⟨rfl, KZ.out.2⟩
    · have e1' : c1 ≤ 0 := by omega
      clear e1
      go_wp2_with fail
      (with_reducible refine (G4.out _).mono ?_); rintro e vK9 ⟨rfl, hb⟩
      have K9 := Lib.hid (K8.out.below hb)
      clear hb K8
      by_cases e2 : 0 < c3
      · go_wp2_with fail
        (with_reducible refine (awake_any _ (K9.out.ml HW.out)).mono ?_); rintro e v9 ⟨rfl, hb⟩
        have KZ := Lib.hid (K9.out.below hb)
        clear hb
        go_wp2
        go_ret
        exact ⟨rfl, KZ.out.2⟩
      · have e2' : c3 ≤ 0 := by omega
        have e3' : c4 ≤ 0 := by omega
        clear e2 d
        go_wp2_with fail
        (with_reducible refine (G5.out _).mono ?_); rintro e vKA ⟨rfl, hb⟩
        have KA := Lib.hid (K9.out.below hb)
        clear hb K9
        go_wp2_with fail
        (with_reducible refine (awake_any _ (KA.out.ml HW.out)).mono ?_); rintro e v9 ⟨rfl, hb⟩
        have KZ := Lib.hid (KA.out.below hb)
        clear hb
        go_wp2
        go_ret
        exact ⟨rfl, KZ.out.2⟩
  · go_wp2_with fail
    rw [HX.out, HY.out, HZ.out]
    (with_reducible refine (F1.out _).mono ?_); rintro e vK1 ⟨rfl, hb⟩
    have K1 := Lib.hid (H4.out.below hb)
    clear hb H4
    go_wp2_with fail
    (with_reducible refine (F2.out _).mono ?_); rintro e vK2 ⟨rfl, hb⟩
    have K2 := Lib.hid (K1.out.below hb)
    clear hb K1
    go_wp2_with fail
    (with_reducible refine (F3.out _).mono ?_); rintro e vK3 ⟨rfl, hb⟩
    have K3 := Lib.hid (K2.out.below hb)
    clear hb K2
    go_wp2_with fail
    (with_reducible refine (G1.out _).mono ?_); rintro e vK4 ⟨rfl, hb⟩
    have K4 := Lib.hid (K3.out.below hb)
    clear hb K3
    go_wp2_with fail
    (with_reducible refine (G2.out _).mono ?_); rintro e vK5 ⟨rfl, hb⟩
    have K5 := Lib.hid (K4.out.below hb)
    clear hb K4
    go_wp2_with fail
    (with_reducible refine (G3.out _).mono ?_); rintro e vK6 ⟨rfl, hb⟩
    have K6 := Lib.hid (K5.out.below hb)
    clear hb K5
    go_wp2_with fail
    (with_reducible refine (G2.out _).mono ?_); rintro e vK7 ⟨rfl, hb⟩
    have K7 := Lib.hid (K6.out.below hb)
    clear hb K6
    go_wp2_with fail
    (with_reducible refine (G2.out _).mono ?_); rintro e vK8 ⟨rfl, hb⟩
    have K8 := Lib.hid (K7.out.below hb)
    clear hb K7
    have e1' : c1 ≤ 0 := by simp at b2; omega
    go_wp2_with fail
    (with_reducible refine (G4.out _).mono ?_); rintro e vK9 ⟨rfl, hb⟩
    have K9 := Lib.hid (K8.out.below hb)
    clear hb K8
    by_cases e2 : 0 < c3
    · go_wp2_with fail
      (with_reducible refine (awake_any _ (K9.out.ml HW.out)).mono ?_); rintro e v9 ⟨rfl, hb⟩
      have KZ := Lib.hid (K9.out.below hb)
      clear hb
      go_wp2
      go_ret
      exact ⟨rfl, KZ.out.2⟩
    · have e2' : c3 ≤ 0 := by omega
      have e3' : c4 ≤ 0 := by omega
      clear e2 d
      go_wp2_with fail
      (with_reducible refine (G5.out _).mono ?_); rintro e vKA ⟨rfl, hb⟩
      have KA := Lib.hid (K9.out.below hb)
      clear hb K9
      go_wp2_with fail
      (with_reducible refine (awake_any _ (KA.out.ml HW.out)).mono ?_); rintro e v9 ⟨rfl, hb⟩
      have KZ := Lib.hid (KA.out.below hb)
      clear hb
      go_wp2
      go_ret
      exact ⟨rfl, KZ.out.2⟩
end Go.Proofs.YthabmbjjpgcceaaDoor

