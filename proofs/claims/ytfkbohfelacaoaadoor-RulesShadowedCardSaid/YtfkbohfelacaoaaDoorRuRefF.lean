/-
  Layer 9: contract of the reference's FormatRule.
-/
import Derived.Test.YtfkbohfelacaoaaDoorRuFmt
import Derived.Test.YtfkbohfelacaoaaDoorRuOk
import Derived.Deep.QuietTactic
import Derived.BigQuiet
namespace Go.Proofs.YtfkbohfelacaoaaDoor
open Go.ChangeShapes Go.WideShapes Go.ChangeAt Go.RowKit
set_option linter.unusedVariables false

def foS (r : Rul) : ByteArray := if ruOk r then ⟨(txtL r).toArray⟩ else ⟨#[]⟩
def foE (r : Rul) : Int := if ruOk r then 0 else 1
def FoAns (r : Rul) (w : World) (e : Ending) (w' : World) : Prop := e = .returned (.tuple #[.string (foS r), .int .i64 (foE r)]) ∧ Below w.heap.size w w'
theorem ret_fo {a b : ByteArray} {c d : Int} (h : a = b) (k : c = d) : Ending.returned (.tuple #[.string a, .int .i64 c]) = .returned (.tuple #[.string b, .int .i64 d]) := by rw [h, k]
theorem txt_str (st : ByteArray) (c : Int) (f l n : Nat) : stS st ++ ⟨#[32]⟩ ++ clS c ++ ⟨#[32]⟩ ++ poS f l ++ ⟨#[32, 62]⟩ ++ decS n = ⟨(txtL ⟨st, c, f, l, n⟩).toArray⟩ := by
  apply ByteArray.ext; apply Array.toList_inj.1
  unfold stS clS poS txtL decS
  simp only [Int.toNat_natCast]
  split <;> split <;> simp
theorem nam_small {st : ByteArray} (h : (nam st).isSome = true) : st.size ≤ 24 := by
  cases hn : nam st with
  | none => rw [hn] at h; cases h
  | some m => exact (nam_size hn).1
theorem pairL_len {f l : Nat} (hf : f ≤ 65535) (hl : l ≤ 65535) : (pairL f l).length ≤ 11 := by
  unfold pairL
  have h1 := decL_len f 5 (by decide) (by omega)
  have h2 := decL_len l 5 (by decide) (by omega)
  split
  · simp
  · split
    · omega
    · simp; omega
theorem pos_one {f l : Nat} (h : f = l) (k : ¬ (f = 0 ∧ l = 65535)) : poS f l = decS f := by unfold poS pairL; rw [if_neg k, if_pos h]; rfl
theorem pos_two {f l : Nat} (h : ¬ f = l) (k : ¬ (f = 0 ∧ l = 65535)) : poS f l = decS f ++ (⟨#[45]⟩ ++ decS l) := by
  unfold poS pairL; rw [if_neg k, if_neg h]
  apply ByteArray.ext; apply Array.toList_inj.1; simp [decS]
set_option maxHeartbeats 8000000 in
theorem refFormat_yes (st : ByteArray) (c : Int) (f l n : Nat) (hr : ruOk ⟨st, c, f, l, n⟩ = true) (w : World) : Calls Tryd.prog 9 #[.agg #[.string st, .int .i64 c, .int .i64 f, .int .i64 l, .int .i64 n]] w fun e w' => e = .returned (.tuple #[.string (stS st ++ ⟨#[32]⟩ ++ clS c ++ ⟨#[32]⟩ ++ poS f l ++ ⟨#[32, 62]⟩ ++ decS n), .int .i64 0]) ∧ Below w.heap.size w w' := by
  obtain ⟨hst, ⟨c0, c1⟩, ⟨f0, f1, f2⟩, ⟨n0, n1⟩⟩ := ruOk_parts hr
  simp only at hst c0 c1 f0 f1 f2 n0 n1
  have hs24 : st.size ≤ 24 := hst.elim (fun h => by omega) nam_small
  have HV := Lib.hid (fun w => rvalR_any st c f l n (by omega) w)
  rw [hr] at HV
  unfold BoolAns at HV
  have HD := Lib.hid (fun (x : Nat) (hx : x ≤ 1000000) w => decimal_any x hx w)
  have hf : f ≤ 65535 := by omega
  have hl : l ≤ 65535 := by omega
  have hn : n ≤ 31 := by omega
  have sf := decS_size f 5 (by decide) (by omega)
  have sl := decS_size l 5 (by decide) (by omega)
  have sn := decS_size n 5 (by decide) (by omega)
  have hz := Whole.fresh w 29 #[.string st, .int .i64 c, .int .i64 f, .int .i64 l, .int .i64 n]
  have HZ := Lib.hid hz
  clear hz hr hst f0 f1 f2 n0 n1
  obtain ⟨C, cs, hC, hcase⟩ : ∃ C : ByteArray, ∃ cs : ByteArray, clS c = C ∧ ((c = -1 ∧ C = ⟨#[42]⟩) ∨ ∃ k : Nat, c = k ∧ k ≤ 7 ∧ C = decS k) := by
    refine ⟨_, ⟨#[]⟩, rfl, ?_⟩
    unfold clS
    by_cases h : c < 0
    · rw [if_pos h]; exact .inl ⟨by omega, rfl⟩
    · rw [if_neg h]; exact .inr ⟨c.toNat, by omega, by omega, rfl⟩
  rw [hC]
  clear hC cs
  go_enter Tryd.func9, Tryd.ntmps9
  go_wp2_with fail
  (with_reducible refine (HV.out _).mono ?_); rintro e w1 ⟨rfl, hb⟩
  have hz := HZ.out.carry (hb.block _ HZ.out.size_lt)
  have HB := Lib.hid (((Below.refl _ _).alloc (Nat.le_refl _) _).trans (hb.mono (by simp)))
  obtain ⟨d0, d1, d2, d3, d4⟩ : w1.cell? ⟨w.heap.size, 0, none⟩ = some (.string st) ∧ w1.cell? ⟨w.heap.size, 1, none⟩ = some (.int .i64 c) ∧ w1.cell? ⟨w.heap.size, 2, none⟩ = some (.int .i64 f) ∧ w1.cell? ⟨w.heap.size, 3, none⟩ = some (.int .i64 l) ∧ w1.cell? ⟨w.heap.size, 4, none⟩ = some (.int .i64 n) := ⟨hz.read 0, hz.read 1, hz.read 2, hz.read 3, hz.read 4⟩
  clear hz hb HZ HV
  go_wp2_with fail
  go_quiet ((go_at_call 30; exact Calls.quiet_of_same ((HD.out f (by omega) _).mono fun _ _ h => ⟨h.1, h.2.symm⟩)))
  have HBq := Lib.hid (Below_drewN HB.out nq)
  clear HB c0 c1
  rcases hcase with ⟨rfl, rfl⟩ | ⟨k, rfl, hk, rfl⟩
  · by_cases hs0 : st.size = 0
    · have e := empty_of hs0
      have HS := Lib.hid (show stS st = ⟨#[42]⟩ from if_pos hs0)
      subst e
      clear hs0
      by_cases hp : f = 0 ∧ l = 65535
      · obtain ⟨rfl, rfl⟩ := hp
        have HE := Lib.hid (show poS 0 65535 = ⟨#[42]⟩ from rfl)
        go_wp2_with fail
        (with_reducible refine (HD.out _ (by omega) _).mono ?_); rintro e w9 ⟨rfl, rfl⟩
        go_wp2
        go_ret2
        exact ⟨ret_fo (by rw [HS.out, HE.out]) rfl, HBq.out⟩
      · have hpi : ¬ (((f : Nat) : Int) = 0 ∧ ((l : Nat) : Int) = 65535) := by omega
        by_cases he : f = l
        · have HE := Lib.hid (pos_one he hp)
          subst he
          clear hp
          generalize decS f = F at *
          
          go_wp2_with fail
          all_goals
            (with_reducible refine (HD.out _ (by omega) _).mono ?_); rintro e w9 ⟨rfl, rfl⟩
            go_wp2
            go_ret2
            exact ⟨ret_fo (by rw [HS.out, HE.out]) rfl, HBq.out⟩
        · have HE := Lib.hid (pos_two he hp)
          have hei : ¬ ((f : Nat) : Int) = ((l : Nat) : Int) := by omega
          clear hp he
          generalize decS f = F at *
          
          go_wp2_with fail
          all_goals
            (with_reducible refine (HD.out _ (by omega) _).mono ?_); rintro e w9 ⟨rfl, rfl⟩
            go_wp2_with fail
            (with_reducible refine (HD.out _ (by omega) _).mono ?_); rintro e w9 ⟨rfl, rfl⟩
            go_wp2
            go_ret2
            exact ⟨ret_fo (by rw [HS.out, HE.out]) rfl, HBq.out⟩
    · have HS := Lib.hid (show stS st = st from if_neg hs0)
      have hse : (st.toList == ([] : List UInt8)) = false := by rw [beq_eq_false_iff_ne]; exact str_ne hs0
      have hse2 : st.toList.isEmpty = false := by rw [List.isEmpty_eq_false_iff]; exact str_ne hs0
      clear hs0
      by_cases hp : f = 0 ∧ l = 65535
      · obtain ⟨rfl, rfl⟩ := hp
        have HE := Lib.hid (show poS 0 65535 = ⟨#[42]⟩ from rfl)
        go_wp2_with fail
        (with_reducible refine (HD.out _ (by omega) _).mono ?_); rintro e w9 ⟨rfl, rfl⟩
        go_wp2
        go_ret2
        exact ⟨ret_fo (by rw [HS.out, HE.out]) rfl, HBq.out⟩
      · have hpi : ¬ (((f : Nat) : Int) = 0 ∧ ((l : Nat) : Int) = 65535) := by omega
        by_cases he : f = l
        · have HE := Lib.hid (pos_one he hp)
          subst he
          clear hp
          generalize decS f = F at *
          
          go_wp2_with fail
          all_goals
            (with_reducible refine (HD.out _ (by omega) _).mono ?_); rintro e w9 ⟨rfl, rfl⟩
            go_wp2
            go_ret2
            exact ⟨ret_fo (by rw [HS.out, HE.out]) rfl, HBq.out⟩
        · have HE := Lib.hid (pos_two he hp)
          have hei : ¬ ((f : Nat) : Int) = ((l : Nat) : Int) := by omega
          clear hp he
          generalize decS f = F at *
          
          go_wp2_with fail
          all_goals
            (with_reducible refine (HD.out _ (by omega) _).mono ?_); rintro e w9 ⟨rfl, rfl⟩
            go_wp2_with fail
            (with_reducible refine (HD.out _ (by omega) _).mono ?_); rintro e w9 ⟨rfl, rfl⟩
            go_wp2
            go_ret2
            exact ⟨ret_fo (by rw [HS.out, HE.out]) rfl, HBq.out⟩
  · have sk := decS_size k 5 (by decide) (by omega)
    by_cases hs0 : st.size = 0
    · have e := empty_of hs0
      have HS := Lib.hid (show stS st = ⟨#[42]⟩ from if_pos hs0)
      subst e
      clear hs0
      by_cases hp : f = 0 ∧ l = 65535
      · obtain ⟨rfl, rfl⟩ := hp
        have HE := Lib.hid (show poS 0 65535 = ⟨#[42]⟩ from rfl)
        go_wp2_with fail
        (with_reducible refine (HD.out _ (by omega) _).mono ?_); rintro e w9 ⟨rfl, rfl⟩
        go_wp2_with fail
        (with_reducible refine (HD.out _ (by omega) _).mono ?_); rintro e w9 ⟨rfl, rfl⟩
        go_wp2
        go_ret2
        exact ⟨ret_fo (by rw [HS.out, HE.out]) rfl, HBq.out⟩
      · have hpi : ¬ (((f : Nat) : Int) = 0 ∧ ((l : Nat) : Int) = 65535) := by omega
        by_cases he : f = l
        · have HE := Lib.hid (pos_one he hp)
          subst he
          clear hp
          generalize decS f = F at *
          go_wp2_with fail
          (with_reducible refine (HD.out _ (by omega) _).mono ?_); rintro e w9 ⟨rfl, rfl⟩
          go_wp2_with fail
          all_goals
            (with_reducible refine (HD.out _ (by omega) _).mono ?_); rintro e w9 ⟨rfl, rfl⟩
            go_wp2
            go_ret2
            exact ⟨ret_fo (by rw [HS.out, HE.out]) rfl, HBq.out⟩
        · have HE := Lib.hid (pos_two he hp)
          have hei : ¬ ((f : Nat) : Int) = ((l : Nat) : Int) := by omega
          clear hp he
          generalize decS f = F at *
          go_wp2_with fail
          (with_reducible refine (HD.out _ (by omega) _).mono ?_); rintro e w9 ⟨rfl, rfl⟩
          go_wp2_with fail
          all_goals
            (with_reducible refine (HD.out _ (by omega) _).mono ?_); rintro e w9 ⟨rfl, rfl⟩
            go_wp2_with fail
            (with_reducible refine (HD.out _ (by omega) _).mono ?_); rintro e w9 ⟨rfl, rfl⟩
            go_wp2
            go_ret2
            exact ⟨ret_fo (by rw [HS.out, HE.out]) rfl, HBq.out⟩
    · have HS := Lib.hid (show stS st = st from if_neg hs0)
      have hse : (st.toList == ([] : List UInt8)) = false := by rw [beq_eq_false_iff_ne]; exact str_ne hs0
      have hse2 : st.toList.isEmpty = false := by rw [List.isEmpty_eq_false_iff]; exact str_ne hs0
      clear hs0
      by_cases hp : f = 0 ∧ l = 65535
      · obtain ⟨rfl, rfl⟩ := hp
        have HE := Lib.hid (show poS 0 65535 = ⟨#[42]⟩ from rfl)
        go_wp2_with fail
        (with_reducible refine (HD.out _ (by omega) _).mono ?_); rintro e w9 ⟨rfl, rfl⟩
        go_wp2_with fail
        (with_reducible refine (HD.out _ (by omega) _).mono ?_); rintro e w9 ⟨rfl, rfl⟩
        go_wp2
        go_ret2
        exact ⟨ret_fo (by rw [HS.out, HE.out]) rfl, HBq.out⟩
      · have hpi : ¬ (((f : Nat) : Int) = 0 ∧ ((l : Nat) : Int) = 65535) := by omega
        by_cases he : f = l
        · have HE := Lib.hid (pos_one he hp)
          subst he
          clear hp
          generalize decS f = F at *
          go_wp2_with fail
          (with_reducible refine (HD.out _ (by omega) _).mono ?_); rintro e w9 ⟨rfl, rfl⟩
          go_wp2_with fail
          all_goals
            (with_reducible refine (HD.out _ (by omega) _).mono ?_); rintro e w9 ⟨rfl, rfl⟩
            go_wp2
            go_ret2
            exact ⟨ret_fo (by rw [HS.out, HE.out]) rfl, HBq.out⟩
        · have HE := Lib.hid (pos_two he hp)
          have hei : ¬ ((f : Nat) : Int) = ((l : Nat) : Int) := by omega
          clear hp he
          generalize decS f = F at *
          go_wp2_with fail
          (with_reducible refine (HD.out _ (by omega) _).mono ?_); rintro e w9 ⟨rfl, rfl⟩
          go_wp2_with fail
          all_goals
            (with_reducible refine (HD.out _ (by omega) _).mono ?_); rintro e w9 ⟨rfl, rfl⟩
            go_wp2_with fail
            (with_reducible refine (HD.out _ (by omega) _).mono ?_); rintro e w9 ⟨rfl, rfl⟩
            go_wp2
            go_ret2
            exact ⟨ret_fo (by rw [HS.out, HE.out]) rfl, HBq.out⟩
set_option maxHeartbeats 1000000 in
theorem refFormat_no (st : ByteArray) (c f l n : Int) (hr : ruOk ⟨st, c, f, l, n⟩ = false) (hs : st.size ≤ 2000000) (w : World) : Calls Tryd.prog 9 #[.agg #[.string st, .int .i64 c, .int .i64 f, .int .i64 l, .int .i64 n]] w fun e w' => e = .returned (.tuple #[.string ⟨#[]⟩, .int .i64 1]) ∧ Below w.heap.size w w' := by
  have HV := Lib.hid (fun w => rvalR_any st c f l n hs w)
  rw [hr] at HV
  unfold BoolAns at HV
  clear hr hs
  go_enter Tryd.func9, Tryd.ntmps9
  go_wp2_with fail
  (with_reducible refine (HV.out _).mono ?_); rintro e w1 ⟨rfl, hb⟩
  have HB := Lib.hid (((Below.refl _ _).alloc (Nat.le_refl _) _).trans (hb.mono (by simp)))
  clear hb
  go_wp2
  go_ret2
  exact ⟨rfl, HB.out⟩
theorem refFormat_any (st : ByteArray) (c f l n : Int) (hs : st.size ≤ 2000000) (w : World) : Calls Tryd.prog 9 #[.agg #[.string st, .int .i64 c, .int .i64 f, .int .i64 l, .int .i64 n]] w (FoAns ⟨st, c, f, l, n⟩ w) := by
  unfold FoAns foS foE
  cases hr : ruOk ⟨st, c, f, l, n⟩ with
  | false => exact refFormat_no st c f l n hr hs w
  | true =>
    obtain ⟨_, _, ⟨f0, f1, f2⟩, ⟨n0, n1⟩⟩ := ruOk_parts hr
    simp only at f0 f1 f2 n0 n1
    obtain ⟨a, rfl⟩ := Int.eq_ofNat_of_zero_le f0
    obtain ⟨b, rfl⟩ := Int.eq_ofNat_of_zero_le (show 0 ≤ l by omega)
    obtain ⟨d, rfl⟩ := Int.eq_ofNat_of_zero_le n0
    have := refFormat_yes st c a b d hr w
    rw [txt_str] at this
    exact this
end Go.Proofs.YtfkbohfelacaoaaDoor

