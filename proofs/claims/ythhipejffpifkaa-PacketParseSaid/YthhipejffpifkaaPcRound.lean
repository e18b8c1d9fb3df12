/-
  Layer 8: records are read back, plain; the walk of the statement PacketRoundTrip. Every input; no condition.
-/
import Derived.Test.YthhipejffpifkaaPcHelp
namespace Go.Proofs.Ythhipejffpifkaa
open Go.ChangeShapes Go.WideShapes Go.ChangeAt Go.RowKit
set_option linter.unusedVariables false

theorem good_nam {x : ByteArray} (h : x ∈ goodL) : (nam x).isSome = true := by
  have : (goodL.all fun x => (nam x).isSome) = true := by decide +kernel
  exact List.all_eq_true.1 this x h
theorem hd_good {st : ByteArray} {c p l f : Int} (h : HdOk st c p l f) : hdOk st c p l f = true := by
  unfold hdOk
  rw [good_nam h.1, Bool.true_and]
  exact decide_eq_true h.2
theorem fm_back {st : ByteArray} {c p l f : Int} (h : hdOk st c p l f = true) : prE (fmS st c p l f).data.toList = 0 ∧ pS (fmS st c p l f).data.toList = st ∧ pC (fmS st c p l f).data.toList = c ∧ pP (fmS st c p l f).data.toList = p ∧ pL (fmS st c p l f).data.toList = l ∧ pF (fmS st c p l f).data.toList = f := by
  obtain ⟨⟨_, s2⟩, ⟨c0, _⟩, ⟨p0, _⟩, ⟨l0, _⟩, ⟨f0, _⟩⟩ := hd_parts h
  obtain ⟨c, rfl⟩ := Int.eq_ofNat_of_zero_le c0
  obtain ⟨p, rfl⟩ := Int.eq_ofNat_of_zero_le p0
  obtain ⟨l, rfl⟩ := Int.eq_ofNat_of_zero_le (show 0 ≤ l by omega)
  obtain ⟨f, rfl⟩ := Int.eq_ofNat_of_zero_le f0
  rw [(fm_yes h).1]
  simp only [Int.toNat_natCast]
  obtain ⟨k0, k1, k2, k3, k4, k5⟩ := prE_rec h s2
  obtain ⟨e1, e2, e3, e4, e5⟩ := pr_good k0
  refine ⟨k0, e1.trans k1, ?_, ?_, ?_, ?_⟩
  · rw [e2, k2]
  · rw [e3, k3]
  · rw [e4, k4]
  · rw [e5, k5]
theorem pr_forth {l : List UInt8} (h : prE l = 0) : fmS (pS l) (pC l) (pP l) (pL l) (pF l) = ⟨l.toArray⟩ ∧ fmE (pS l) (pC l) (pP l) (pL l) (pF l) = 0 := by
  obtain ⟨e1, e2, e3, e4, e5⟩ := pr_good h
  rw [e1, e2, e3, e4, e5]
  have hd := (prE_zero.1 h).2.2.2.2
  obtain ⟨k1, k2⟩ := fm_yes hd
  refine ⟨?_, k2⟩
  rw [k1]
  simp only [Int.toNat_natCast]
  rw [(rec_prE h).1]
theorem fm_size {st : ByteArray} {c p l f : Int} (h : hdOk st c p l f = true) : 13 ≤ (fmS st c p l f).size ∧ (fmS st c p l f).size ≤ 36 := by
  obtain ⟨⟨s1, s2⟩, _⟩ := hd_parts h
  rw [(fm_yes h).1]
  have : (recL st c.toNat p.toNat l.toNat f.toNat).length = 12 + st.size := by unfold recL; rw [sld_len, bodL_len]; omega
  show 13 ≤ (recL st c.toNat p.toNat l.toNat f.toNat).length ∧ (recL st c.toNat p.toNat l.toNat f.toNat).length ≤ 36
  omega
theorem format_is {st : ByteArray} {c p l f : Int} (h : hdOk st c p l f = true) (w : World) : Calls Try.prog 16 #[.agg #[.string st, .int .i64 c, .int .i64 p, .int .i64 l, .int .i64 f]] w fun e w' => e = .returned (.tuple #[.string (fmS st c p l f), .int .i64 0]) ∧ Below w.heap.size w w' := by
  have := format_any st c p l f w
  unfold FmAns at this
  rw [(fm_yes h).2] at this
  exact this
set_option maxRecDepth 100000 in
set_option maxHeartbeats 4000000 in
theorem walkRound (A : Option Addr) (len cap : Nat) (s : ByteArray) (hs : s.size ≤ 9223372036854775807) (w : World) (he : Elems w.heap.size A len w) :
    Calls Try.prog 5 #[.slice A len cap, .string s] w (BoolAns true w) := by
  have HG := Lib.hid (gen_new A len cap w he)
  have HP := fun w => parse_any s hs w
  unfold PrAns at HP
  have HFo := Lib.hid (fun h => pr_forth (l := s.data.toList) h)
  have HFm := Lib.hid (fun w => format_any (pS s.data.toList) (pC s.data.toList) (pP s.data.toList) (pL s.data.toList) (pF s.data.toList) w)
  unfold FmAns at HFm
  generalize pS s.data.toList = X1 at *
  generalize pC s.data.toList = c1 at *
  generalize pP s.data.toList = p1 at *
  generalize pL s.data.toList = l1 at *
  generalize pF s.data.toList = f1 at *
  generalize prE s.data.toList = y1 at *
  replace HP := Lib.hid HP
  have HA := Lib.hid (fun w => awake8_any w)
  unfold BoolAns at HA
  unfold BoolAns
  clear he
  go_enter Try.func5, Try.ntmps5
  go_wp2_with fail
  (with_reducible refine (new_any A len cap _).mono ?_); rintro e w' ⟨rfl, rfl⟩
  go_wp2_with fail
  refine (header_any w.heap.size A len cap 0 _ HG.out (by omega)).mono ?_
  rintro e w2 ⟨st, c, p, l, f, hh, rfl, _, ho⟩
  have HB2 := Lib.hid (((Below.refl w.heap.size w).alloc (Nat.le_refl _) _).trans (ho.below (by simp)))
  have hd := hd_good hh
  obtain ⟨k0, k1, k2, k3, k4, k5⟩ := fm_back hd
  have hz := fm_size hd
  have HF := Lib.hid (fun w => format_is hd w)
  have HP1 := fun w => parse_any (fmS st c p l f) (by omega) w
  unfold PrAns at HP1
  rw [k0, k1, k2, k3, k4, k5] at HP1
  generalize fmS st c p l f = X at *
  replace HP1 := Lib.hid HP1
  have HZ := Lib.hid (Whole.fresh w2 24 #[.string st, .int .i64 c, .int .i64 p, .int .i64 l, .int .i64 f])
  have HB3 := Lib.hid (HB2.out.alloc HB2.out.size (.cells #[.string st, .int .i64 c, .int .i64 p, .int .i64 l, .int .i64 f] 24))
  clear ho hh hd k0 k1 k2 k3 k4 k5 hz HG HB2
  go_wp2_with fail
  (with_reducible refine (HF.out _).mono ?_); rintro e w3 ⟨rfl, hb⟩
  have HZ3 := Lib.hid (HZ.out.later hb)
  have HB4 := Lib.hid (HB3.out.trans (hb.mono HB3.out.size))
  clear hb HZ HB3 HF
  go_wp2_with fail
  (with_reducible refine (HP1.out _).mono ?_); rintro e w4 ⟨rfl, hb⟩
  have hz3 := (HZ3.out.later hb).alloc (.cells #[.string st, .int .i64 c, .int .i64 p, .int .i64 l, .int .i64 f] 24)
  have HB5 := Lib.hid (HB4.out.trans (hb.mono HB4.out.size))
  have HB6 := Lib.hid (HB5.out.alloc HB5.out.size (.cells #[.string st, .int .i64 c, .int .i64 p, .int .i64 l, .int .i64 f] 24))
  have d0 := hz3.read 0
  have d1 := hz3.read 1
  have d2 := hz3.read 2
  have d3 := hz3.read 3
  have d4 := hz3.read 4
  simp at d0 d1 d2 d3 d4
  clear hb hz3 HB4 HB5 HZ3 HP1
  have t2 : (st.toList == st.toList) = true := by simp
  go_wp2_with fail
  (with_reducible refine (HP.out _).mono ?_); rintro e w5 ⟨rfl, hb⟩
  have HB7 := Lib.hid (HB6.out.trans (hb.mono HB6.out.size))
  have HB8 := Lib.hid (HB7.out.alloc HB7.out.size (.cells #[.string X1, .int .i64 c1, .int .i64 p1, .int .i64 l1, .int .i64 f1] 24))
  clear hb HB6 HB7 d0 d1 d2 d3 d4 HP
  by_cases hy : y1 = 0
  · subst hy
    obtain ⟨h1, h2⟩ := HFo.out rfl
    rw [h1, h2] at HFm
    have t3 : ((⟨s.data.toList.toArray⟩ : ByteArray).toList == s.toList) = true := by simp
    go_wp2_with fail
    (with_reducible refine (HFm.out _).mono ?_); rintro e w6 ⟨rfl, hb⟩
    have HB9 := Lib.hid (HB8.out.trans (hb.mono HB8.out.size))
    clear hb
    go_wp2_with fail
    (with_reducible refine (HA.out _).mono ?_); rintro e w7 ⟨rfl, hb⟩
    have HB10 := Lib.hid (HB9.out.trans (hb.mono HB9.out.size))
    clear hb
    go_wp2
    go_ret
    exact ⟨rfl, HB10.out⟩
  · have hy' : (y1 != 0) = true := by simpa using hy
    go_wp2_with fail
    (with_reducible refine (HA.out _).mono ?_); rintro e w6 ⟨rfl, hb⟩
    have HB9 := Lib.hid (HB8.out.trans (hb.mono HB8.out.size))
    clear hb
    go_wp2
    go_ret
    exact ⟨rfl, HB9.out⟩
end Go.Proofs.Ythhipejffpifkaa

