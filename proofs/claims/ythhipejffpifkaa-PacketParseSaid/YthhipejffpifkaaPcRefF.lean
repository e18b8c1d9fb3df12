/-
  Layer 8: contract of the reference's FormatHeader: its one region of thirty-one operations draws its order.
-/
import Derived.Test.YthhipejffpifkaaPcFmt
import Derived.Test.YthhipejffpifkaaLoose
namespace Go.Proofs.Ythhipejffpifkaa
open Go.ChangeShapes Go.WideShapes Go.ChangeAt Go.RowKit
set_option linter.unusedVariables false

theorem refFormat_no (st : ByteArray) (hs : st.size ≤ 2000000) (c p l f : Int) (h : hdOk st c p l f = false) (w : World) : Calls Try.prog 13 #[.agg #[.string st, .int .i64 c, .int .i64 p, .int .i64 l, .int .i64 f]] w (FmAns st c p l f w) := by
  obtain ⟨e1, e2⟩ := fm_no h
  unfold FmAns
  rw [e1, e2]
  have H := Lib.hid (fun w => validHeader_is hs h w)
  unfold BoolAns at H
  clear e1 e2 h
  go_enter Try.func13, Try.ntmps13
  go_wp2_with fail
  (with_reducible refine (H.out _).mono ?_); rintro e w1 ⟨rfl, hb⟩
  have hb := Lib.hid (((Below.refl _ _).alloc (Nat.le_refl _) _).trans (hb.mono (by simp)))
  go_wp2
  go_ret2
  exact ⟨rfl, hb.out⟩
def bs (l : List UInt8) : ByteArray := ⟨l.toArray⟩
def sb1 (c : Nat) : ByteArray := bs [UInt8.ofNat c]
/-- A new row of one byte. -/
def ByteV (H k : Nat) (v : Value) (w : World) : Prop := ∃ g, H < g ∧ g < w.heap.size ∧ v = .slice (some ⟨g, 0, none⟩) 1 1 ∧ w.cell? ⟨g, 0, none⟩ = some (.int .u8 (k : Int))
theorem ByteV.conv {H k : Nat} {v : Value} {w : World} (hk : k < 256) (h : ByteV H k v w) : ∃ g, v = .slice (some ⟨g, 0, none⟩) 1 1 ∧ (convert 36 9 (.slice (some ⟨g, 0, none⟩) 1 1)).run Try.prog w = .ok (.string (sb1 k)) w := by
  obtain ⟨g, _, _, e, hc⟩ := h
  refine ⟨g, e, ?_⟩
  have := run_convert_bytes_arg (P := Try.prog) w 36 5 Try.underlying36 Try.underlying5 g 0 1 1 [(k : Int)] rfl (fun i hi => by
    obtain rfl : i = 0 := by omega
    simpa using hc) 9 Try.underlying9
  rw [this]
  rfl
theorem ByteV.keep {H k : Nat} {v : Value} {w w' : World} (hb : Below w.heap.size w w') (h : ByteV H k v w) : ByteV H k v w' := by
  obtain ⟨g, h1, h2, e, hc⟩ := h
  exact ⟨g, h1, by have := hb.size; omega, e, by rw [hb.cell (p := ⟨g, 0, none⟩) h2]; exact hc⟩
/-- The state: old memory and the header's block stay. -/
def RfC (W0 : World) (H : Nat) (cs : Array Value) (_ : Nat) (w : World) : Prop := Below W0.heap.size W0 w ∧ Whole w H 24 cs ∧ H < w.heap.size
theorem RfC.later {W0 : World} {H : Nat} {cs : Array Value} {n m : Nat} {w w' : World} (h : RfC W0 H cs n w) (hb : Below w.heap.size w w') : RfC W0 H cs m w' :=
  ⟨h.1.trans (hb.mono h.1.size), h.2.1.later hb, by have := hb.size; have := h.2.2; omega⟩
def RfR (w w' : World) : Prop := Below w.heap.size w w'
theorem bs_size (l : List UInt8) : (bs l).size = l.length := rfl
theorem bs_add (l m : List UInt8) : bs l ++ bs m = bs (l ++ m) := add_two l m
def sg1 (c : Nat) : ByteArray := bs [165, 1, UInt8.ofNat c]
def sg2 (c p : Nat) : ByteArray := bs ([165, 1, UInt8.ofNat c] ++ two p)
def sg3 (c p l : Nat) : ByteArray := bs ([165, 1, UInt8.ofNat c] ++ two p ++ two l)
def sg4 (c p l f : Nat) : ByteArray := bs ([165, 1, UInt8.ofNat c] ++ two p ++ two l ++ two f)
def sg5 (st : ByteArray) (c p l f : Nat) : ByteArray := bs ([165, 1, UInt8.ofNat c] ++ two p ++ two l ++ two f ++ [UInt8.ofNat st.size])
def sb2 (p : Nat) : ByteArray := bs (two p)
def sgB (st : ByteArray) (c p l f : Nat) : ByteArray := bs (bodL st c p l f)
def sgR (st : ByteArray) (c p l f : Nat) : ByteArray := bs (recL st c p l f)
theorem ad1 (c : Nat) : (⟨#[165, 1]⟩ : ByteArray) ++ sb1 c = sg1 c := bs_add [165, 1] _
theorem ad2 (c p : Nat) : sg1 c ++ sb2 p = sg2 c p := bs_add _ _
theorem ad3 (c p l : Nat) : sg2 c p ++ sb2 l = sg3 c p l := bs_add _ _
theorem ad4 (c p l f : Nat) : sg3 c p l ++ sb2 f = sg4 c p l f := bs_add _ _
theorem ad5 (st : ByteArray) (c p l f : Nat) : sg4 c p l f ++ sb1 st.size = sg5 st c p l f := bs_add _ _
theorem ad6 (st : ByteArray) (c p l f : Nat) : sg5 st c p l f ++ st = sgB st c p l f := add_str _ _
theorem zg1 (c : Nat) : (sg1 c).size = 3 := rfl
theorem zg2 (c p : Nat) : (sg2 c p).size = 5 := rfl
theorem zg3 (c p l : Nat) : (sg3 c p l).size = 7 := rfl
theorem zg4 (c p l f : Nat) : (sg4 c p l f).size = 9 := rfl
theorem zg5 (st : ByteArray) (c p l f : Nat) : (sg5 st c p l f).size = 10 := rfl
theorem zb1 (c : Nat) : (sb1 c).size = 1 := rfl
theorem zb2 (p : Nat) : (sb2 p).size = 2 := rfl
/-- The values, number by number. -/
def RfV (st : ByteArray) (c p l f H : Nat) : Nat → Value → World → Prop
  | 0, v, _ => v = .pointer (some ⟨H, 1, none⟩)
  | 1, v, _ => v = .int .i64 c
  | 2, v, _ => v = .int .u8 c
  | 3, v, w => ByteV H c v w
  | 4, v, _ => v = .string (sb1 c)
  | 5, v, _ => v = .string (sg1 c)
  | 6, v, _ => v = .pointer (some ⟨H, 2, none⟩)
  | 7, v, _ => v = .int .i64 p
  | 8, v, _ => v = .string (sb2 p)
  | 9, v, _ => v = .string (sg2 c p)
  | 10, v, _ => v = .pointer (some ⟨H, 3, none⟩)
  | 11, v, _ => v = .int .i64 l
  | 12, v, _ => v = .string (sb2 l)
  | 13, v, _ => v = .string (sg3 c p l)
  | 14, v, _ => v = .pointer (some ⟨H, 4, none⟩)
  | 15, v, _ => v = .int .i64 f
  | 16, v, _ => v = .string (sb2 f)
  | 17, v, _ => v = .string (sg4 c p l f)
  | 18, v, _ => v = .pointer (some ⟨H, 0, none⟩)
  | 19, v, _ => v = .string st
  | 20, v, _ => v = .int .i64 st.size
  | 21, v, _ => v = .int .u8 st.size
  | 22, v, w => ByteV H st.size v w
  | 23, v, _ => v = .string (sb1 st.size)
  | 24, v, _ => v = .string (sg5 st c p l f)
  | 25, v, _ => v = .pointer (some ⟨H, 0, none⟩)
  | 26, v, _ => v = .string st
  | 27, v, _ => v = .string (sgB st c p l f)
  | 28, v, _ => v = .string (sgR st c p l f)
  | 29, v, _ => v = .string (sgR st c p l f)
  | 30, v, _ => v = .int .i64 0
  | _, _, _ => True
theorem RfV.keep {st : ByteArray} {c p l f H : Nat} (i : Nat) (v : Value) (w w' : World) (h : RfR w w') (hv : RfV st c p l f H i v w) : RfV st c p l f H i v w' := by
  unfold RfV at *
  split at hv <;> first | exact hv | exact hv.keep h | trivial
theorem RfR.refl (w : World) : RfR w w := Below.refl _ _
theorem ByteV.new {H k : Nat} {w : World} (hH : H < w.heap.size) : ByteV H k (.slice (some ⟨w.heap.size, 0, none⟩) 1 1) (w.alloc (.cells #[.int .u8 (k : Int)] 5)) :=
  ⟨w.heap.size, hH, by simp, rfl, by rw [(Whole.fresh w _ _).read]; rfl⟩
set_option maxRecDepth 100000 in
set_option maxHeartbeats 4000000 in
theorem refFormat_ok (st : ByteArray) (c p l f : Nat) (h : hdOk st c p l f = true) (w : World) : Calls Try.prog 13 #[.agg #[.string st, .int .i64 c, .int .i64 p, .int .i64 l, .int .i64 f]] w (FmAns st c p l f w) := by
  obtain ⟨e1, e2⟩ := fm_yes h
  unfold FmAns
  rw [e1, e2]
  simp only [Int.toNat_natCast]
  obtain ⟨⟨s1, s2⟩, ⟨c0, c1⟩, ⟨p0, p1⟩, ⟨l0, l1⟩, ⟨f0, f1⟩⟩ := hd_parts h
  have H := Lib.hid (fun w => validHeader_is (by omega) h w)
  unfold BoolAns at H
  have HZ := Lib.hid (Whole.fresh w 24 #[.string st, .int .i64 c, .int .i64 p, .int .i64 l, .int .i64 f])
  clear e1 e2 h
  go_enter Try.func13, Try.ntmps13
  go_wp2_with fail
  (with_reducible refine (H.out _).mono ?_); rintro e w1 ⟨rfl, hb⟩
  have hz := HZ.out.carry (hb.block _ HZ.out.size_lt)
  have hlt := hz.size_lt
  have HW := Lib.hid hz
  have HB := Lib.hid (((Below.refl _ _).alloc (Nat.le_refl _) _).trans (hb.mono (by simp)))
  clear hb hz HZ H
  go_wp2
  refine wp_region_loose 36 (by kernel_rfl) (by kernel_rfl) (RfC w w.heap.size #[.string st, .int .i64 c, .int .i64 p, .int .i64 l, .int .i64 f]) RfR (RfV st c p l f w.heap.size) rfl (fun i v w w' h hv => RfV.keep i v w w' h hv) ⟨HB.out.drew, HW.out, hlt⟩ ?_ ?_
  · simp only [OblAll]
    refine ⟨?_, ?_, ?_, ?_, ?_, ?_, ?_, ?_, ?_, ?_, ?_, ?_, ?_, ?_, ?_, ?_, ?_, ?_, ?_, ?_, ?_, ?_, ?_, ?_, ?_, ?_, ?_, ?_, ?_, ?_, ?_, trivial⟩
    all_goals
      intro fu wx vals hC hp
      simp [predL, predE, Region.binds, PreV, RfV] at hp
      simp only [fillA, if_true, Act.put]
      simp
      have HC := Lib.hid hC
      have hwx := hC.2.2
      clear hC
    · go_wp2
      exact ⟨rfl, HC.out.later (Below.refl _ _), RfR.refl _, rfl⟩
    · simp only [hp]
      have d := HC.out.2.1.read 1
      simp at d
      clear hp
      go_wp2
      exact ⟨rfl, HC.out.later (Below.refl _ _), RfR.refl _, rfl⟩
    · simp only [hp]
      clear hp
      have q : IntKind.u8.wrap (c : Int) = c := by rw [IntKind.wrap_u8']; omega
      go_wp2
      exact ⟨rfl, HC.out.later (Below.refl _ _), RfR.refl _, rfl⟩
    · simp only [hp]
      clear hp
      go_wp2
      exact ⟨rfl, HC.out.later ((Below.refl _ _).alloc (Nat.le_refl _) _), (Below.refl _ _).alloc (Nat.le_refl _) _, ByteV.new hwx⟩
    · obtain ⟨g, e, hst⟩ := hp.conv (by omega)
      simp only [e]
      clear hp e
      go_wp2
      exact ⟨rfl, HC.out.later (Below.refl _ _), RfR.refl _, rfl⟩
    · simp only [hp]
      clear hp
      have z2 := Nat.le_of_eq (zb1 c)
      have HV := Lib.hid (ad1 c)
      generalize sb1 c = Y at *
      go_wp2
      exact ⟨rfl, HC.out.later (Below.refl _ _), RfR.refl _, congrArg Value.string HV.out⟩
    · go_wp2
      exact ⟨rfl, HC.out.later (Below.refl _ _), RfR.refl _, rfl⟩
    · simp only [hp]
      have d := HC.out.2.1.read 2
      simp at d
      clear hp
      go_wp2
      exact ⟨rfl, HC.out.later (Below.refl _ _), RfR.refl _, rfl⟩
    · simp only [hp]
      clear hp
      have HT := Lib.hid (fun w => two_any p (by omega) w)
      unfold StrAns at HT
      go_wp2_with fail
      (with_reducible refine (HT.out _).mono ?_); rintro e w2 ⟨rfl, hb⟩
      replace hb := Lib.hid hb
      go_wp2
      exact ⟨rfl, HC.out.later hb.out, hb.out, rfl⟩
    · obtain ⟨h1, h2⟩ := hp
      simp only [h1, h2]
      clear h1 h2
      have z1 := Nat.le_of_eq (zg1 c)
      have z2 := Nat.le_of_eq (zb2 p)
      have HV := Lib.hid (ad2 c p)
      generalize sg1 c = X at *
      generalize sb2 p = Y at *
      go_wp2
      exact ⟨rfl, HC.out.later (Below.refl _ _), RfR.refl _, congrArg Value.string HV.out⟩
    · go_wp2
      exact ⟨rfl, HC.out.later (Below.refl _ _), RfR.refl _, rfl⟩
    · simp only [hp]
      have d := HC.out.2.1.read 3
      simp at d
      clear hp
      go_wp2
      exact ⟨rfl, HC.out.later (Below.refl _ _), RfR.refl _, rfl⟩
    · simp only [hp]
      clear hp
      have HT := Lib.hid (fun w => two_any l (by omega) w)
      unfold StrAns at HT
      go_wp2_with fail
      (with_reducible refine (HT.out _).mono ?_); rintro e w2 ⟨rfl, hb⟩
      replace hb := Lib.hid hb
      go_wp2
      exact ⟨rfl, HC.out.later hb.out, hb.out, rfl⟩
    · obtain ⟨h1, h2⟩ := hp
      simp only [h1, h2]
      clear h1 h2
      have z1 := Nat.le_of_eq (zg2 c p)
      have z2 := Nat.le_of_eq (zb2 l)
      have HV := Lib.hid (ad3 c p l)
      generalize sg2 c p = X at *
      generalize sb2 l = Y at *
      go_wp2
      exact ⟨rfl, HC.out.later (Below.refl _ _), RfR.refl _, congrArg Value.string HV.out⟩
    · go_wp2
      exact ⟨rfl, HC.out.later (Below.refl _ _), RfR.refl _, rfl⟩
    · simp only [hp]
      have d := HC.out.2.1.read 4
      simp at d
      clear hp
      go_wp2
      exact ⟨rfl, HC.out.later (Below.refl _ _), RfR.refl _, rfl⟩
    · simp only [hp]
      clear hp
      have HT := Lib.hid (fun w => two_any f (by omega) w)
      unfold StrAns at HT
      go_wp2_with fail
      (with_reducible refine (HT.out _).mono ?_); rintro e w2 ⟨rfl, hb⟩
      replace hb := Lib.hid hb
      go_wp2
      exact ⟨rfl, HC.out.later hb.out, hb.out, rfl⟩
    · obtain ⟨h1, h2⟩ := hp
      simp only [h1, h2]
      clear h1 h2
      have z1 := Nat.le_of_eq (zg3 c p l)
      have z2 := Nat.le_of_eq (zb2 f)
      have HV := Lib.hid (ad4 c p l f)
      generalize sg3 c p l = X at *
      generalize sb2 f = Y at *
      go_wp2
      exact ⟨rfl, HC.out.later (Below.refl _ _), RfR.refl _, congrArg Value.string HV.out⟩
    · go_wp2
      exact ⟨rfl, HC.out.later (Below.refl _ _), RfR.refl _, rfl⟩
    · simp only [hp]
      have d := HC.out.2.1.read 0
      simp at d
      clear hp
      go_wp2
      exact ⟨rfl, HC.out.later (Below.refl _ _), RfR.refl _, rfl⟩
    · simp only [hp]
      clear hp
      go_wp2
      exact ⟨rfl, HC.out.later (Below.refl _ _), RfR.refl _, rfl⟩
    · simp only [hp]
      clear hp
      have q : IntKind.u8.wrap (st.size : Int) = st.size := by rw [IntKind.wrap_u8']; omega
      go_wp2
      exact ⟨rfl, HC.out.later (Below.refl _ _), RfR.refl _, rfl⟩
    · simp only [hp]
      clear hp
      go_wp2
      exact ⟨rfl, HC.out.later ((Below.refl _ _).alloc (Nat.le_refl _) _), (Below.refl _ _).alloc (Nat.le_refl _) _, ByteV.new hwx⟩
    · obtain ⟨g, e, hst⟩ := hp.conv (by omega)
      simp only [e]
      clear hp e
      go_wp2
      exact ⟨rfl, HC.out.later (Below.refl _ _), RfR.refl _, rfl⟩
    · obtain ⟨h1, h2⟩ := hp
      simp only [h1, h2]
      clear h1 h2
      have z1 := Nat.le_of_eq (zg4 c p l f)
      have z2 := Nat.le_of_eq (zb1 st.size)
      have HV := Lib.hid (ad5 st c p l f)
      generalize sg4 c p l f = X at *
      generalize sb1 st.size = Y at *
      go_wp2
      exact ⟨rfl, HC.out.later (Below.refl _ _), RfR.refl _, congrArg Value.string HV.out⟩
    · go_wp2
      exact ⟨rfl, HC.out.later (Below.refl _ _), RfR.refl _, rfl⟩
    · simp only [hp]
      have d := HC.out.2.1.read 0
      simp at d
      clear hp
      go_wp2
      exact ⟨rfl, HC.out.later (Below.refl _ _), RfR.refl _, rfl⟩
    · obtain ⟨h1, h2⟩ := hp
      simp only [h1, h2]
      clear h1 h2
      have z1 := Nat.le_of_eq (zg5 st c p l f)
      have HV := Lib.hid (ad6 st c p l f)
      generalize sg5 st c p l f = X at *
      go_wp2
      exact ⟨rfl, HC.out.later (Below.refl _ _), RfR.refl _, congrArg Value.string HV.out⟩
    · simp only [hp]
      clear hp
      have HT := Lib.hid (fun w => show Calls Try.prog 15 #[.string (sgB st c p l f)] w fun e w' => e = .returned (.string (sgR st c p l f)) ∧ Below w.heap.size w w' from sealed_any (bs (bodL st c p l f)) (by rw [bs_size, bodL_len]; omega) w)
      go_wp2_with fail
      (with_reducible refine (HT.out _).mono ?_); rintro e w2 ⟨rfl, hb⟩
      replace hb := Lib.hid hb
      go_wp2
      exact ⟨rfl, HC.out.later hb.out, hb.out, rfl⟩
    · simp only [hp]
      clear hp
      go_wp2
      exact ⟨rfl, HC.out.later (Below.refl _ _), RfR.refl _, rfl⟩
    · go_wp2
      exact ⟨rfl, HC.out.later (Below.refl _ _), RfR.refl _, rfl⟩
  · intro w2 vals hC hV
    have e29 : vals 29 = .string (sgR st c p l f) := hV 29 (by simp)
    have e30 : vals 30 = .int .i64 0 := hV 30 (by simp)
    have HB2 := Lib.hid hC.1
    have HR := Lib.hid (show (⟨(recL st c p l f).toArray⟩ : ByteArray) = sgR st c p l f from rfl)
    clear hC hV
    simp only [fillA, if_true, Act.put]
    simp
    simp only [e29, e30]
    clear e29 e30
    go_wp2
    go_ret2
    exact ⟨by rw [HR.out]; rfl, HB2.out⟩
theorem refFormat_any (st : ByteArray) (hs : st.size ≤ 2000000) (c p l f : Int) (w : World) : Calls Try.prog 13 #[.agg #[.string st, .int .i64 c, .int .i64 p, .int .i64 l, .int .i64 f]] w (FmAns st c p l f w) := by
  rcases h : hdOk st c p l f with _ | _
  · exact refFormat_no st hs c p l f h w
  · obtain ⟨_, ⟨c0, _⟩, ⟨p0, _⟩, ⟨l0, _⟩, ⟨f0, _⟩⟩ := hd_parts h
    obtain ⟨c, rfl⟩ := Int.eq_ofNat_of_zero_le c0
    obtain ⟨p, rfl⟩ := Int.eq_ofNat_of_zero_le p0
    obtain ⟨l, rfl⟩ := Int.eq_ofNat_of_zero_le (show 0 ≤ l by omega)
    obtain ⟨f, rfl⟩ := Int.eq_ofNat_of_zero_le f0
    exact refFormat_ok st c p l f h w
end Go.Proofs.Ythhipejffpifkaa

