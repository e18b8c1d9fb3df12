/-
  Layer 8: contracts of Valid and of the reference's ValidHeader. Every header whose station has up to 2000000 bytes.
-/
import Derived.Test.YtfkbohfelacaoaaDoorPcSum
import Derived.Test.YtfkbohfelacaoaaDoorLbProg
import Derived.Test.YtfkbohfelacaoaaDoorLbRef2
namespace Go.Proofs.YtfkbohfelacaoaaDoor
open Go.ChangeShapes Go.WideShapes Go.ChangeAt Go.RowKit
set_option linter.unusedVariables false

/-- A header's numbers are permitted. -/
def numB (c p l f : Int) : Bool := decide ((0 ≤ c ∧ c ≤ 7) ∧ (0 ≤ p ∧ p ≤ 65535) ∧ (1 ≤ l ∧ l ≤ 4096) ∧ (0 ≤ f ∧ f ≤ 65535))
theorem hd_num (st : ByteArray) (c p l f : Int) : hdOk st c p l f = ((nam st).isSome && numB c p l f) := rfl
theorem numB_no {c p l f : Int} (h : ¬ ((0 ≤ c ∧ c ≤ 7) ∧ (0 ≤ p ∧ p ≤ 65535) ∧ (1 ≤ l ∧ l ≤ 4096) ∧ (0 ≤ f ∧ f ≤ 65535))) : false = numB c p l f := (decide_eq_false h).symm
theorem numB_last {c p l f : Int} (h : (0 ≤ c ∧ c ≤ 7) ∧ (0 ≤ p ∧ p ≤ 65535) ∧ (1 ≤ l ∧ l ≤ 4096) ∧ 0 ≤ f) : decide (f ≤ 65535) = numB c p l f := by
  unfold numB; rw [decide_eq_decide]; omega
/-- Whether a header is valid. -/
def BoolAns (b : Bool) (w : World) (e : Ending) (w' : World) : Prop := e = .returned (.bool b) ∧ Below w.heap.size w w'
set_option maxHeartbeats 2000000 in
theorem valid8_any (st : ByteArray) (c p l f : Int) (w : World) : Calls Tryd.prog 46 #[.agg #[.string st, .int .i64 c, .int .i64 p, .int .i64 l, .int .i64 f]] w (BoolAns (hdOk st c p l f) w) := by
  have H := Lib.hid (fun w => valid_any st w)
  have N0 := Lib.hid (fun h => numB_no (c := c) (p := p) (l := l) (f := f) h)
  have N1 := Lib.hid (fun h => numB_last (c := c) (p := p) (l := l) (f := f) h)
  rw [hd_num]
  generalize (nam st).isSome = b at *
  generalize numB c p l f = r at *
  unfold BoolAns
  rcases b with _ | _
  · rw [Bool.false_and]
    go_enter Tryd.func46, Tryd.ntmps46
    go_wp2_with fail
    (with_reducible refine (H.out _).mono ?_); rintro e w1 ⟨rfl, hb⟩
    have hb := Lib.hid (((Below.refl _ _).alloc (Nat.le_refl _) _).trans (hb.mono (by simp)))
    go_wp2
    go_ret
    exact ⟨rfl, hb.out⟩
  · rw [Bool.true_and]
    have hz := Whole.fresh w 43 #[.string st, .int .i64 c, .int .i64 p, .int .i64 l, .int .i64 f]
    have HZ := Lib.hid hz
    clear hz
    go_enter Tryd.func46, Tryd.ntmps46
    go_wp2_with fail
    (with_reducible refine (H.out _).mono ?_); rintro e w1 ⟨rfl, hb⟩
    have hz := HZ.out.carry (hb.block _ HZ.out.size_lt)
    have d1 := hz.read 1
    have d2 := hz.read 2
    have d3 := hz.read 3
    have d4 := hz.read 4
    simp at d1 d2 d3 d4
    have hb := Lib.hid (((Below.refl _ _).alloc (Nat.le_refl _) _).trans (hb.mono (by simp)))
    clear hz
    go_wp2
    all_goals
      go_ret
      first
        | exact ⟨ret_bool (N1.out (by omega)), hb.out⟩
        | exact ⟨ret_bool (N0.out (by omega)), hb.out⟩
set_option maxHeartbeats 2000000 in
theorem validHeader_any (st : ByteArray) (c p l f : Int) (hs : st.size ≤ 2000000) (w : World) : Calls Tryd.prog 48 #[.agg #[.string st, .int .i64 c, .int .i64 p, .int .i64 l, .int .i64 f]] w (BoolAns (hdOk st c p l f) w) := by
  have H := Lib.hid (fun w => validName_any st w hs)
  have N0 := Lib.hid (fun h => numB_no (c := c) (p := p) (l := l) (f := f) h)
  have N1 := Lib.hid (fun h => numB_last (c := c) (p := p) (l := l) (f := f) h)
  rw [hd_num]
  generalize (nam st).isSome = b at *
  generalize numB c p l f = r at *
  unfold BoolAns
  rcases b with _ | _
  · rw [Bool.false_and]
    go_enter Tryd.func48, Tryd.ntmps48
    go_wp2_with fail
    (with_reducible refine (H.out _).mono ?_); rintro e w1 ⟨rfl, hb⟩
    have hb := Lib.hid (((Below.refl _ _).alloc (Nat.le_refl _) _).trans (hb.mono (by simp)))
    go_wp2
    go_ret
    exact ⟨rfl, hb.out⟩
  · rw [Bool.true_and]
    have hz := Whole.fresh w 43 #[.string st, .int .i64 c, .int .i64 p, .int .i64 l, .int .i64 f]
    have HZ := Lib.hid hz
    clear hz
    go_enter Tryd.func48, Tryd.ntmps48
    go_wp2_with fail
    (with_reducible refine (H.out _).mono ?_); rintro e w1 ⟨rfl, hb⟩
    have hz := HZ.out.carry (hb.block _ HZ.out.size_lt)
    have d1 := hz.read 1
    have d2 := hz.read 2
    have d3 := hz.read 3
    have d4 := hz.read 4
    simp at d1 d2 d3 d4
    have hb := Lib.hid (((Below.refl _ _).alloc (Nat.le_refl _) _).trans (hb.mono (by simp)))
    clear hz
    go_wp2
    all_goals
      go_ret
      first
        | exact ⟨ret_bool (N1.out (by omega)), hb.out⟩
        | exact ⟨ret_bool (N0.out (by omega)), hb.out⟩
end Go.Proofs.YtfkbohfelacaoaaDoor

