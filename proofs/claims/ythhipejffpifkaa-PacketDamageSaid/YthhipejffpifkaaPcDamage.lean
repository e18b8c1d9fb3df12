/-
  Layer 8: the walk of the statement PacketDamage. Every input; no condition.
-/
import Derived.Test.YthhipejffpifkaaPcRound
import Derived.Test.YthhipejffpifkaaPcRow
namespace Go.Proofs.Ythhipejffpifkaa
open Go.ChangeShapes Go.WideShapes Go.ChangeAt Go.RowKit
set_option linter.unusedVariables false

theorem header_has (B : Nat) (a : Option Addr) (len cap k : Nat) (w : World) (hg : Gen B a len cap k w) (hk : k ≤ 100000000) :
    Calls Try.prog 8 #[.pointer (some ⟨B, 0, none⟩)] w (GaveHd B a len cap k w) := header_any B a len cap k w hg hk
theorem one_elem (w : World) (z : Int) (h0 : -9223372036854775808 ≤ z) (h1 : z ≤ 9223372036854775807) (t : TypeId) : Elems (w.alloc (.cells #[.int .i64 z] t)).heap.size (some ⟨w.heap.size, 0, none⟩) 1 (w.alloc (.cells #[.int .i64 z] t)) :=
  ⟨by decide, fun i hi => by
    obtain rfl : i = 0 := by omega
    exact ⟨w.heap.size, 0, z, rfl, by simp, (Whole.fresh w t _).read 0, h0, h1⟩⟩
theorem damaged {l : List UInt8} {n : Nat} {b : Int} (h : prE l = 0) (hn : n < l.length) (b0 : 0 ≤ b) (b1 : b ≤ 255) (h1 : ¬ (nb l n : Int) = b) (h2 : ¬ ((nb l n : Int) = 0 ∧ b = 255)) (h3 : ¬ ((nb l n : Int) = 255 ∧ b = 0)) : prE (l.set n (UInt8.ofNat b.toNat)) ≠ 0 := by
  have e8 : (UInt8.ofNat b.toNat).toNat = b.toNat := by rw [UInt8.toNat_ofNat']; omega
  rw [nb_at hn] at h1 h2 h3
  refine prE_damage h hn (fun e => h1 ?_) (fun e => h2 ?_) (fun e => h3 ?_)
  · rw [← e, e8]; omega
  · rw [e8] at e; omega
  · rw [e8] at e; omega
set_option maxRecDepth 100000 in
set_option maxHeartbeats 4000000 in
theorem walkDamage (A : Option Addr) (len cap : Nat) (at_ by_ : Int) (t0 : -9223372036854775808 ≤ at_) (t1 : at_ ≤ 9223372036854775807) (y0 : 0 ≤ by_) (y1 : by_ ≤ 255) (w : World) (he : Elems w.heap.size A len w) :
    Calls Try.prog 6 #[.slice A len cap, .int .i64 at_, .int .u8 by_] w (BoolAns true w) := by
  have HG := Lib.hid (gen_new A len cap w he)
  have HA := Lib.hid (fun w => awake8_any w)
  unfold BoolAns at HA
  have HT := Lib.hid (And.intro t0 t1)
  unfold BoolAns
  clear he t0 t1
  go_enter Try.func6, Try.ntmps6
  go_wp2_with fail
  (with_reducible refine (new_any A len cap _).mono ?_); rintro e w' ⟨rfl, rfl⟩
  go_wp2_with fail
  refine (header_any w.heap.size A len cap 0 _ HG.out (by omega)).mono ?_
  rintro e w2 ⟨st, c, p, l, f, hh, rfl, _, ho⟩
  have HB2 := Lib.hid (((Below.refl w.heap.size w).alloc (Nat.le_refl _) _).trans (ho.below (by simp)))
  have hd := hd_good hh
  obtain ⟨k0, _⟩ := fm_back hd
  have hz := fm_size hd
  have HF := Lib.hid (fun w => format_is hd w)
  generalize fmS st c p l f = X at *
  have HK := Lib.hid k0
  clear ho hh hd k0 HG
  go_wp2_with fail
  (with_reducible refine (HF.out _).mono ?_); rintro e w3 ⟨rfl, hb⟩
  have HB3 := Lib.hid (HB2.out.trans (hb.mono HB2.out.size))
  clear hb HB2 HF
  have hx0 : ((X.size : Int) == 0) = false := by rw [beq_eq_false_iff_ne]; omega
  have hcv := Lib.run_convert_string_bytes (P := Try.prog) w3 9 36 5 X Try.underlying9 Try.underlying36 Try.underlying5
  have HR := Lib.hid (RowB.new w3 X)
  have hsz := Lib.bytesWorld_size w3 5 X
  have HB4 := Lib.hid (HB3.out.trans ((bytes_below w3 5 X).mono HB3.out.size))
  generalize grownCap w3 X.size 0 5 = gc at *
  generalize Lib.bytesWorld w3 5 X = w4 at *
  have HS4 := Lib.hid hsz
  clear hsz
  go_wp2_with fail
  (with_reducible refine (new_any _ _ _ _).mono ?_); rintro e w' ⟨rfl, rfl⟩
  go_wp2_with fail
  have hg4 := gen_new (some ⟨w4.heap.size, 0, none⟩) 1 1 _ (one_elem w4 at_ HT.out.1 HT.out.2 3)
  rw [show (w4.alloc (.cells #[.int .i64 at_] 3)).heap.size = w4.heap.size + 1 by simp] at hg4
  refine (next_any (w4.heap.size + 1) (some ⟨w4.heap.size, 0, none⟩) 1 1 0 X.size _ (by omega) (by omega) (by omega) hg4).mono ?_
  rintro e w5 ⟨r, r0, r1, rfl, _, ho5⟩
  obtain ⟨n, rfl⟩ := Int.eq_ofNat_of_zero_le r0
  have hle4 : w3.heap.size < w4.heap.size := HR.out.lt
  have hrow : RowB w5 w3.heap.size X.data.toList := HR.out.later (by
    rw [ho5.block w3.heap.size (by simp; omega) (by omega), Below.heap_alloc _ _ _ (by simp; omega), Below.heap_alloc _ _ _ hle4])
  have hw : w.heap.size ≤ w4.heap.size := HB4.out.size
  have HB5 := Lib.hid (((HB4.out.alloc HB4.out.size (.cells #[.int .i64 at_] 3)).alloc (by simp; omega) (.cells #[.slice (some ⟨w4.heap.size, 0, none⟩) 1 1, .int .i64 0] 44)).trans ((ho5.below (by simp)).mono (by omega)))
  have hzl : X.data.toList.length = X.size := (Lib.size_eq X).symm
  have hn : n < X.size := by omega
  have hnl : n < X.data.toList.length := by omega
  have hcell := hrow.cell hnl
  have hfz := hrow.frozen hnl
  have HP := Lib.hid (hrow.put hnl by_ y0 y1)
  rw [← nb_at hnl] at hcell
  have HD := Lib.hid (fun a b c => damaged (n := n) (b := by_) HK.out hnl y0 y1 a b c)
  have hlt := nb_lt X.data.toList n
  have HB6 := Lib.hid (HB5.out.setCell (p := ⟨w3.heap.size, n, none⟩) (HB3.out.size) (.int .u8 by_))
  have hst := HP.out.string X.size gc (by rw [List.length_set]; omega)
  rw [List.take_of_length_le (by rw [List.length_set]; omega)] at hst
  obtain ⟨Y, hY⟩ : ∃ Y, (⟨(X.data.toList.set n (UInt8.ofNat by_.toNat)).toArray⟩ : ByteArray) = Y := ⟨_, rfl⟩
  have hYl : Y.data.toList = X.data.toList.set n (UInt8.ofNat by_.toNat) := by rw [← hY]
  have hYs : Y.size ≤ 36 := by rw [Lib.size_eq, hYl, List.length_set]; omega
  rw [hY] at hst
  have HPr := fun w => parse_any Y (by omega) w
  unfold PrAns at HPr
  rw [hYl] at HPr
  generalize hL : X.data.toList.set n (UInt8.ofNat by_.toNat) = L at *
  have HPb := Lib.hid (fun h => pr_bad (l := L) (x := prE L) rfl h)
  replace HPr := Lib.hid HPr
  have hgn : (0 : Int) ≤ (n : Int) := by omega
  have hgn2 : (n : Int) < (X.size : Int) := by omega
  generalize nb X.data.toList n = o at *
  clear hL hYl hY hrow HR HP hzl hnl ho5 hcv HS4
  rcases hb1 : ((o : Int) == by_) with _ | _
  · have h1 := beq_eq_false_iff_ne.1 hb1
    rcases hb2 : ((o : Int) == 0) with _ | _
    · have h2 := beq_eq_false_iff_ne.1 hb2
      rcases hb4 : ((o : Int) == 255) with _ | _
      · have h4 := beq_eq_false_iff_ne.1 hb4
        have hE : prE L ≠ 0 := HD.out (by omega) (by omega) (by omega)
        obtain ⟨k1, k2, k3, k4, k5⟩ := HPb.out hE
        rw [k1, k2, k3, k4, k5] at HPr
        generalize prE L = y at *
        have hy : (y != 0) = true := by simpa using hE
        clear k1 k2 k3 k4 k5 hE HD HPb h1 h2 h4
        go_wp2_with fail
        (with_reducible refine (HPr.out _).mono ?_); rintro e w7 ⟨rfl, hb⟩
        have hb7 := HB6.out.trans (hb.mono HB6.out.size)
        have HB7 := Lib.hid (hb7.alloc hb7.size (.cells #[.string ⟨#[]⟩, .int .i64 0, .int .i64 0, .int .i64 0, .int .i64 0] 24))
        clear hb hb7
        go_wp2_with fail
        (with_reducible refine (HA.out _).mono ?_); rintro e w8 ⟨rfl, hb⟩
        replace hb := Lib.hid (HB7.out.trans (hb.mono HB7.out.size))
        go_wp2
        go_ret
        exact ⟨rfl, hb.out⟩
      · have h4 := beq_iff_eq.1 hb4
        rcases hb5 : (by_ == 0) with _ | _
        · have h5 := beq_eq_false_iff_ne.1 hb5
          have hE : prE L ≠ 0 := HD.out (by omega) (by omega) (by omega)
          obtain ⟨k1, k2, k3, k4, k5⟩ := HPb.out hE
          rw [k1, k2, k3, k4, k5] at HPr
          generalize prE L = y at *
          have hy : (y != 0) = true := by simpa using hE
          clear k1 k2 k3 k4 k5 hE HD HPb h1 h2 h4 h5
          go_wp2_with fail
          (with_reducible refine (HPr.out _).mono ?_); rintro e w7 ⟨rfl, hb⟩
          have hb7 := HB6.out.trans (hb.mono HB6.out.size)
          have HB7 := Lib.hid (hb7.alloc hb7.size (.cells #[.string ⟨#[]⟩, .int .i64 0, .int .i64 0, .int .i64 0, .int .i64 0] 24))
          clear hb hb7
          go_wp2_with fail
          (with_reducible refine (HA.out _).mono ?_); rintro e w8 ⟨rfl, hb⟩
          replace hb := Lib.hid (HB7.out.trans (hb.mono HB7.out.size))
          go_wp2
          go_ret
          exact ⟨rfl, hb.out⟩
        · clear h1 h2 h4
          go_wp2_with fail
          (with_reducible refine (HA.out _).mono ?_); rintro e w7 ⟨rfl, hb⟩
          replace hb := Lib.hid (HB6.out.trans (hb.mono HB6.out.size))
          go_wp2
          go_ret
          exact ⟨rfl, hb.out⟩
    · have h2 := beq_iff_eq.1 hb2
      rcases hb3 : (by_ == 255) with _ | _
      · have h3 := beq_eq_false_iff_ne.1 hb3
        have hb4 : ((o : Int) == 255) = false := beq_eq_false_iff_ne.2 (by omega)
        have hE : prE L ≠ 0 := HD.out (by omega) (by omega) (by omega)
        obtain ⟨k1, k2, k3, k4, k5⟩ := HPb.out hE
        rw [k1, k2, k3, k4, k5] at HPr
        generalize prE L = y at *
        have hy : (y != 0) = true := by simpa using hE
        clear k1 k2 k3 k4 k5 hE HD HPb h1 h2 h3
        go_wp2_with fail
        (with_reducible refine (HPr.out _).mono ?_); rintro e w7 ⟨rfl, hb⟩
        have hb7 := HB6.out.trans (hb.mono HB6.out.size)
        have HB7 := Lib.hid (hb7.alloc hb7.size (.cells #[.string ⟨#[]⟩, .int .i64 0, .int .i64 0, .int .i64 0, .int .i64 0] 24))
        clear hb hb7
        go_wp2_with fail
        (with_reducible refine (HA.out _).mono ?_); rintro e w8 ⟨rfl, hb⟩
        replace hb := Lib.hid (HB7.out.trans (hb.mono HB7.out.size))
        go_wp2
        go_ret
        exact ⟨rfl, hb.out⟩
      · clear h1 h2
        go_wp2_with fail
        (with_reducible refine (HA.out _).mono ?_); rintro e w7 ⟨rfl, hb⟩
        replace hb := Lib.hid (HB6.out.trans (hb.mono HB6.out.size))
        go_wp2
        go_ret
        exact ⟨rfl, hb.out⟩
  · go_wp2_with fail
    (with_reducible refine (HA.out _).mono ?_); rintro e w7 ⟨rfl, hb⟩
    replace hb := Lib.hid (HB6.out.trans (hb.mono HB6.out.size))
    go_wp2
    go_ret
    exact ⟨rfl, hb.out⟩
end Go.Proofs.Ythhipejffpifkaa

