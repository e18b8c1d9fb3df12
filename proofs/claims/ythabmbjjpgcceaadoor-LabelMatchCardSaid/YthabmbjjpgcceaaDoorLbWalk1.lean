/-
  Layer 7: the walk of the statement LabelMatches. Every list of choices; no condition but what the library's variable MaxLen holds a number.
-/
import Derived.Test.YthabmbjjpgcceaaDoorLbMatch
import Derived.Test.YthabmbjjpgcceaaDoorLbGen
import Derived.Test.YthabmbjjpgcceaaDoorLbAwake
namespace Go.Proofs.YthabmbjjpgcceaaDoor
open Go.ChangeShapes Go.WideShapes Go.ChangeAt Go.RowKit
set_option linter.unusedVariables false

theorem match_is {p s : ByteArray} {b : Bool} (h : mtB p s = b) (w : World) (hw : ML w) : Calls Tryd.prog 18 #[.string p, .string s] w fun e w' => e = .returned (.bool b) ∧ Below w.heap.size w w' := by
  have := match_any p s w hw
  unfold MtAns at this
  rw [h] at this
  exact this
theorem Has.ml {a : Option Addr} {len cap k : Nat} {w0 w : World} (h : Has w0.heap.size a len cap k w0 w) (hw : ML w0) : ML w := hw.below h.2
/-- The name that is drawn. -/
def xy (x : ByteArray) : ByteArray := ⟨#[120]⟩ ++ x ++ ⟨#[121]⟩
theorem xy_all {x : ByteArray} (h : x ∈ goodL) : mtB (xy x) (xy x) = true ∧ mtB ⟨#[42]⟩ (xy x) = true ∧ mtB ⟨#[120, 42]⟩ (xy x) = true ∧ mtB ⟨#[42, 89]⟩ (xy x) = true ∧ mtB ⟨#[88, 42, 121]⟩ (xy x) = true ∧
    mtB ⟨#[121, 42]⟩ (xy x) = false ∧ mtB (xy x ++ ⟨#[121]⟩) (xy x) = false ∧ mtB (xy x ++ ⟨#[42]⟩) (xy x) = true := by
  have hall : (goodL.all fun x => mtB (xy x) (xy x) && mtB ⟨#[42]⟩ (xy x) && mtB ⟨#[120, 42]⟩ (xy x) && mtB ⟨#[42, 89]⟩ (xy x) && mtB ⟨#[88, 42, 121]⟩ (xy x) &&
    !mtB ⟨#[121, 42]⟩ (xy x) && !mtB (xy x ++ ⟨#[121]⟩) (xy x) && mtB (xy x ++ ⟨#[42]⟩) (xy x)) = true := by decide +kernel
  have := List.all_eq_true.1 hall x h
  simp only [Bool.and_eq_true, Bool.not_eq_true'] at this
  obtain ⟨⟨⟨⟨⟨⟨⟨h1, h2⟩, h3⟩, h4⟩, h5⟩, h6⟩, h7⟩, h8⟩ := this
  exact ⟨h1, h2, h3, h4, h5, h6, h7, h8⟩
theorem xy_size {x : ByteArray} (h : x ∈ goodL) : (xy x).size ≤ 27 := by
  have := good_size h
  unfold xy
  rw [ByteArray.size_append, ByteArray.size_append]
  show 1 + x.size + 1 ≤ 27
  omega
set_option maxHeartbeats 4000000 in
theorem walkMatches (a : Option Addr) (len cap : Nat) (w : World) (he : Elems w.heap.size a len w) (hw : ML w) :
    Calls Tryd.prog 8 #[.slice a len cap] w fun e w' => e = .returned (.bool true) ∧ Below w.heap.size w w' := by
  have H0 := Lib.hid (Has.new (cap := cap) he)
  have HW := Lib.hid hw
  clear he hw
  go_enter Tryd.func8, Tryd.ntmps8
  go_wp2_with fail
  (with_reducible refine (new_any a len cap w).mono ?_); rintro e w1 ⟨rfl, hw1⟩
  have H1 := Lib.hid (show Has w.heap.size a len cap 0 w w1 by rw [hw1]; exact H0.out)
  clear hw1 H0
  go_wp2_with fail
  (with_reducible refine (has_good w.heap.size a len cap 0 w w1 H1.out (by omega)).mono ?_); rintro e w2 ⟨x, hx, rfl, h2, _⟩
  have H2 := Lib.hid h2
  have hxs := good_size hx
  have hyz := xy_size hx
  obtain ⟨m1, m2, m3, m4, m5, m6, m7, m8⟩ := xy_all hx
  have HX := Lib.hid (show (ByteArray.mk #[120] ++ x) ++ ByteArray.mk #[121] = xy x from rfl)
  have z1 : (ByteArray.mk #[120] ++ x).size ≤ 26 := by rw [ByteArray.size_append]; show 1 + x.size ≤ 26; omega
  have C1 := Lib.hid (fun w hw => match_is m1 w hw)
  have C2 := Lib.hid (fun w hw => match_is m2 w hw)
  have C3 := Lib.hid (fun w hw => match_is m3 w hw)
  have C4 := Lib.hid (fun w hw => match_is m4 w hw)
  have C5 := Lib.hid (fun w hw => match_is m5 w hw)
  have C6 := Lib.hid (fun w hw => match_is m6 w hw)
  have C7 := Lib.hid (fun w hw => match_is m7 w hw)
  have C8 := Lib.hid (fun w hw => match_is m8 w hw)
  clear h2 H1 m1 m2 m3 m4 m5 m6 m7 m8 hx
  go_wp2_with fail
  rw [HX.out]
  (with_reducible refine (C1.out _ (H2.out.ml HW.out)).mono ?_); rintro e v1 ⟨rfl, hb⟩
  have K1 := Lib.hid (H2.out.below hb)
  clear hb H2
  go_wp2_with fail
  (with_reducible refine (C2.out _ (K1.out.ml HW.out)).mono ?_); rintro e v2 ⟨rfl, hb⟩
  have K2 := Lib.hid (K1.out.below hb)
  clear hb K1
  go_wp2_with fail
  (with_reducible refine (C3.out _ (K2.out.ml HW.out)).mono ?_); rintro e v3 ⟨rfl, hb⟩
  have K3 := Lib.hid (K2.out.below hb)
  clear hb K2
  go_wp2_with fail
  (with_reducible refine (C4.out _ (K3.out.ml HW.out)).mono ?_); rintro e v4 ⟨rfl, hb⟩
  have K4 := Lib.hid (K3.out.below hb)
  clear hb K3
  go_wp2_with fail
  (with_reducible refine (C5.out _ (K4.out.ml HW.out)).mono ?_); rintro e v5 ⟨rfl, hb⟩
  have K5 := Lib.hid (K4.out.below hb)
  clear hb K4
  go_wp2_with fail
  (with_reducible refine (C6.out _ (K5.out.ml HW.out)).mono ?_); rintro e v6 ⟨rfl, hb⟩
  have K6 := Lib.hid (K5.out.below hb)
  clear hb K5
  go_wp2_with fail
  (with_reducible refine (C7.out _ (K6.out.ml HW.out)).mono ?_); rintro e v7 ⟨rfl, hb⟩
  have K7 := Lib.hid (K6.out.below hb)
  clear hb K6
  go_wp2_with fail
  (with_reducible refine (C8.out _ (K7.out.ml HW.out)).mono ?_); rintro e v8 ⟨rfl, hb⟩
  have K8 := Lib.hid (K7.out.below hb)
  clear hb K7
  go_wp2_with fail
  (with_reducible refine (awake_any _ (K8.out.ml HW.out)).mono ?_); rintro e v9 ⟨rfl, hb⟩
  have K9 := Lib.hid (K8.out.below hb)
  clear hb K8
  go_wp2
  go_ret
  exact ⟨rfl, K9.out.2⟩
end Go.Proofs.YthabmbjjpgcceaaDoor

