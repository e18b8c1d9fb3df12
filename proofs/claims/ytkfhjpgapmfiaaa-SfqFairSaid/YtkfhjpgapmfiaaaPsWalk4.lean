/-
  Layer 13: the walk of the statement on fairness (SfqFair). Every input; no condition.
-/
import Derived.Test.YtkfhjpgapmfiaaaPsFair
import Derived.Deep.CutBlock
import Derived.Deep.DeepCutAuto
import Derived.Deep.RegionWith
namespace Go.Proofs.Ytkfhjpgapmfiaaa
open Go.ChangeShapes Go.WideShapes Go.ChangeAt Go.RowKit
set_option linter.unusedVariables false

/-- A number out of a list of two that has just been made. -/
theorem two13_any {B : Nat} {a : Option Addr} {len cap q : Nat} {w0 w : World} {x y : Int} {t : TypeId} (hh : Has B a len cap q w0 w) (hq : q ≤ 1000000000) :
    Calls Try.prog 9 #[.pointer (some ⟨B, 0, none⟩), .int .i64 2] (w.alloc (.cells #[.int .i64 x, .int .i64 y] t)) fun e w' => ∃ (n : Nat) (v : Int), n < 2 ∧ e = .returned (.int .i64 n) ∧ (v = x ∨ v = y) ∧ w'.cell? ⟨w.heap.size, n, none⟩ = some (.int .i64 v) ∧ Has B a len cap (q + 1) w0 w' := by
  have hlt := hh.1.lt
  refine (next_any B a len cap q 2 _ (by omega) (by omega) hq (hh.1.alloc _)).mono ?_
  rintro e w' ⟨r, r0, r1, rfl, hg, ho⟩
  obtain ⟨n, rfl⟩ := Int.eq_ofNat_of_zero_le r0
  obtain ⟨v, hv, hc⟩ := pickN (L := [x, y]) rfl ho hlt (n := n) (by show n < 2; omega)
  simp only [List.mem_cons, List.not_mem_nil, or_false] at hv
  exact ⟨n, v, by omega, rfl, hv, hc, hg, (hh.2.alloc (by omega) _).trans (ho.below (by simp; omega))⟩
theorem two_blocks (w : World) (t : TypeId) (x y : Array Value) : Whole ((w.alloc (.cells x t)).alloc (.cells y t)) w.heap.size t x ∧ Whole ((w.alloc (.cells x t)).alloc (.cells y t)) (w.heap.size + 1) t y ∧ Below w.heap.size w ((w.alloc (.cells x t)).alloc (.cells y t)) := by
  have h := Whole.fresh (w.alloc (.cells x t)) t y
  rw [World.size_alloc] at h
  exact ⟨(Whole.fresh w t x).alloc _, h, ((Below.refl _ _).alloc (Nat.le_refl _) _).alloc (by simp) _⟩
set_option maxRecDepth 100000 in
set_option maxHeartbeats 16000000 in
theorem walkFair (A : Option Addr) (len cap : Nat) (w : World) (he : Elems w.heap.size A len w) :
    Calls Try.prog 4 #[.slice A len cap] w (Calm (.bool true) w) := by
  have HG := Lib.hid (Has.new (cap := cap) he)
  have HAW := Lib.hid (fun w => awake13_any w)
  have HN := Lib.hid (fun a (h : 1 ≤ a ∧ a ≤ 1099511627776) w => psnew_any h w)
  clear he
  unfold Calm at HAW ⊢
  go_enter Try.func4, Try.ntmps4
  go_wp2_with fail
  (with_reducible refine (new_any A len cap _).mono ?_); rintro e w' ⟨rfl, rfl⟩
  have HX := Lib.hid (two13_any (t := 2) (x := 1099511627776) (y := 536870912) HG.out (by omega))
  clear HG
  go_wp2_with fail
  (with_reducible refine HX.out.mono ?_); rintro e w1 ⟨n, v, hn, rfl, hv, hc, hh⟩
  simp only [World.size_alloc] at hc
  have hv2 : 1 ≤ v ∧ v ≤ 1099511627776 := by omega
  have HX2 := Lib.hid (HN.out v hv2 w1)
  have HH := Lib.hid hh
  have hn3 : (n : Int) < 2 := by omega
  clear hv hh HX HN
  go_wp2_with fail
  (with_reducible refine HX2.out.mono ?_); rintro e w2 hnew
  obtain ⟨R, rfl, hso⟩ := SO.newC HH.out hnew
  have HX := Lib.hid (hso.weight (by omega))
  unfold NxAns at HX
  clear hnew hso HX2 HH hc
  go_wp2_with fail
  (with_reducible refine HX.out.mono ?_); rintro e w3 ⟨xa, xa0, xa1, rfl, hso⟩
  have HX2 := Lib.hid (hso.weight (by omega))
  unfold NxAns at HX2
  clear hso HX
  go_wp2_with fail
  (with_reducible refine HX2.out.mono ?_); rintro e w4 ⟨xb, xb0, xb1, rfl, hso⟩
  have hS := hso.startS (x := ⟨xa, 0, 0⟩) (y := ⟨xb, 0, 0⟩)
  unfold spC at hS
  obtain ⟨⟨ca, cb⟩, _, _⟩ := SO.cellsS hS
  unfold spC at ca cb
  have a0 := ca.read 0
  have b0 := cb.read 0
  simp at a0 b0
  have HX3 := hS.join XS.kx (f := ((0 : Nat) : Int)) (by omega) xa
  rw [show ((0 : Nat) : Int) = 0 from rfl] at HX3
  have HX3 := Lib.hid HX3
  have HFR := Lib.hid (fr_joined (at_ := v) (a := xa) (b := xb) hv2.1 (wt_of (by omega)) (wt_of (by omega)))
  clear hso HX2 ca cb hS
  go_wp2_with fail
  (with_reducible refine HX3.out.mono ?_); rintro e w5 ⟨rfl, hso⟩
  obtain ⟨⟨ca, cb⟩, _, _⟩ := SO.cellsS hso
  unfold spC at ca cb
  have b0' := cb.read 0
  simp at b0'
  have HX4 := hso.join XS.kx (f := ((1 : Nat) : Int)) (by omega) xb
  rw [show ((1 : Nat) : Int) = 1 from rfl] at HX4
  have HX4 := Lib.hid HX4
  clear hso HX3 ca cb a0 b0
  go_wp2_with fail
  (with_reducible refine HX4.out.mono ?_); rintro e w6 ⟨rfl, hso⟩
  have HS := Lib.hid hso
  obtain ⟨ba, hba⟩ : ∃ ba, w4.heap.size = ba := ⟨_, rfl⟩
  rw [hba] at HS
  clear hso HX4 b0'
  go_wp2_with fail
  clear hba
  go_loopw [8] (fun s8 wr => ∃ (i q : Nat) (s : Sf) (x y : Sp), i ≤ 60 ∧ s8 = .int .i64 i ∧ q ≤ 3 + 10 * i ∧ Hid (SO (XS w.heap.size A len cap q w ba (ba + 1) x y) R s wr) ∧ Hid (Fr i s x y)) (fun s8 _ => 60 - (intOf s8).toNat)
  case atStart => exact ⟨0, _, _, _, _, by omega, rfl, by omega, HS, HFR⟩
  case round =>
    obtain ⟨i, q, s, x, y, hi, rfl, hq, HS2, HF2⟩ := hrel
    clear HS HFR
    by_cases hlt : i < 60
    · have hlt' : (i : Int) < 60 := by omega
      have HX := Lib.hid (HS2.out.nextS (n := 6) (by omega) (by omega) (by omega))
      unfold NxAnsS at HX
      clear HS2
      go_wp2_with fail
      (with_reducible refine HX.out.mono ?_); rintro e w7 ⟨v, v0, v1, rfl, hso⟩
      have HS3 := Lib.hid hso
      clear hso HX
      go_upto_block 2 with fail
      go_cut [51] (fun s51 wx => ∃ (q' : Nat) (s' : Sf), q' ≤ q + 4 ∧ Hid (SO (XS w.heap.size A len cap q' w ba (ba + 1) x y) R s' wx) ∧ Hid (Fr i s' x y))
      case first =>
        rcases (by omega : v = 0 ∨ v = 1 ∨ (¬ v = 0 ∧ ¬ v = 1)) with rfl | rfl | ⟨hv0, hv1⟩
        · have HX := Lib.hid (HS3.out.nextS (n := 3) (by omega) (by omega) (by omega))
          unfold NxAnsS at HX
          go_wp2_with fail
          (with_reducible refine HX.out.mono ?_); rintro e w8 ⟨z, z0, z1, rfl, hso⟩
          have HX2 := Lib.hid (hso.weightS (by omega))
          unfold NxAnsS at HX2
          clear hso HX
          go_wp2_with fail
          (with_reducible refine HX2.out.mono ?_); rintro e w9 ⟨u, u0, u1, rfl, hso⟩
          have HX3 := Lib.hid (hso.join XS.kx (f := 2 + z) (by omega) u)
          clear hso HX2
          go_wp2_with fail
          (with_reducible refine HX3.out.mono ?_); rintro e w10 ⟨rfl, hso⟩
          have HF := Lib.hid hso
          have HFF := Lib.hid (HF2.out.jn (f := 2 + z) (by omega) u)
          clear hso HX3
          go_wp2
          go_meet
          case rel => exact ⟨q + 1 + 1 + 1, _, by omega, HF, HFF⟩
        · have HX := Lib.hid (HS3.out.nextS (n := 3) (by omega) (by omega) (by omega))
          unfold NxAnsS at HX
          go_wp2_with fail
          (with_reducible refine HX.out.mono ?_); rintro e w8 ⟨z, z0, z1, rfl, hso⟩
          have HX3 := Lib.hid (hso.leave XS.kx (f := 2 + z) (by omega))
          have HOK := Lib.hid hso.ok
          clear hso HX
          go_wp2_with fail
          (with_reducible refine HX3.out.mono ?_); rintro e w9 ⟨rfl, t, ht, hso⟩
          have HF := Lib.hid hso
          have HFF := Lib.hid (HF2.out.lv HOK.out (f := 2 + z) (by omega) ht)
          clear hso HX3 ht
          go_wp2
          go_meet
          case rel => exact ⟨q + 1 + 1, _, by omega, HF, HFF⟩
        · go_wp2
          go_meet
          case rel => exact ⟨q + 1, _, by omega, HS3, HF2⟩
      case rest =>
        obtain ⟨q', s', hq', HS4, HF4⟩ := hcut
        clear HS3 HF2
        obtain ⟨f, hf⟩ := HF4.out.sel HS4.out.ok
        have HSL := Lib.hid (HS4.out.select XS.kx (f := f) (g := 0) (.inr ⟨f, hf, rfl, rfl⟩))
        have HSE := Lib.hid hf
        have hf32 := hf.1
        clear hf HS4
        go_wp2_with fail
        (with_reducible refine HSL.out.mono ?_); rintro e w11 ⟨rfl, hso⟩
        have HX := Lib.hid (hso.lengthS (by omega))
        unfold NxAnsS at HX
        clear hso HSL
        go_wp2_with fail
        (with_reducible refine HX.out.mono ?_); rintro e w12 ⟨l, l0, l1, rfl, hso⟩
        obtain ⟨c1, c2⟩ := HF4.out.ch hso.ok (by omega) HSE.out (l := l) (by omega)
        have HX2 := hso.charge XS.kx (f := (f : Int)) (by omega) l (HF4.out.tm.aw (by omega))
        rw [c1] at HX2
        have HX2 := Lib.hid HX2
        have HC2 := Lib.hid c2
        have nx := HF4.out.nx
        have ny := HF4.out.ny
        clear hso HX c1 c2 HSE
        go_wp2_with fail
        (with_reducible refine HX2.out.mono ?_); rintro e w13 ⟨rfl, t, ht, hso⟩
        have HFT := Lib.hid (HC2.out t ht)
        have HST := Lib.hid hso
        obtain ⟨⟨ca, cb⟩, _, _⟩ := SO.cellsS hso
        unfold spC at ca cb
        have a1 := ca.read 1
        have a2 := ca.read 2
        have b1 := cb.read 1
        have b2 := cb.read 2
        simp at a1 a2 b1 b2
        have af := ca.free
        have bf := cb.free
        clear hso ht HX2 HC2 HF4 ca cb
        rcases (by omega : f = 0 ∨ f = 1 ∨ (¬ (f : Int) = 0 ∧ ¬ (f : Int) = 1 ∧ ¬ f = 0 ∧ ¬ f = 1)) with rfl | rfl | ⟨hf0, hf1, hf2, hf3⟩
        · have HFZ := Lib.hid (show Fr (i + 1) t ⟨x.w, x.b + l, max x.m l⟩ y from HFT.out)
          have HSZ := Lib.hid (HST.out.putA (x.b + l) (max x.m l))
          clear HFT HST b1 b2 bf
          obtain ⟨xw, xb', xm⟩ := x
          simp only at nx a1 a2 HFZ HSZ
          go_wp2
          go_roundw
          case rel => exact ⟨i + 1, q' + 1, t, _, _, by omega, by go_num, by omega, HSZ, HFZ⟩
          case measure => simp [intOf]; omega
        · have HFZ := Lib.hid (show Fr (i + 1) t x ⟨y.w, y.b + l, max y.m l⟩ from HFT.out)
          have HSZ := Lib.hid (HST.out.putB (y.b + l) (max y.m l))
          clear HFT HST a1 a2 af
          obtain ⟨yw, yb', ym⟩ := y
          simp only at ny b1 b2 HFZ HSZ
          go_wp2
          go_roundw
          case rel => exact ⟨i + 1, q' + 1, t, _, _, by omega, by go_num, by omega, HSZ, HFZ⟩
          case measure => simp [intOf]; omega
        · have HFZ := HFT.out
          unfold paX paY at HFZ
          rw [if_neg hf2, if_neg hf3] at HFZ
          have HFZ := Lib.hid HFZ
          have q1 : ((f : Int) == 0) = false := by simpa using hf0
          have q2 : ((f : Int) == 1) = false := by simpa using hf1
          clear HFT a1 a2 af b1 b2 bf
          go_wp2
          go_roundw
          case rel => exact ⟨i + 1, q' + 1, t, _, _, by omega, by go_num, by omega, HST, HFZ⟩
          case measure => simp [intOf]; omega
    · obtain rfl : i = 60 := by omega
      have HFA := Lib.hid (HF2.out.fair (by omega))
      have HB := Lib.hid HS2.out.hasS.2
      obtain ⟨⟨ca, cb⟩, _, _⟩ := SO.cellsS HS2.out
      have hlta := ca.size_lt
      have hltb := cb.size_lt
      obtain ⟨xw, xb', xm⟩ := x
      obtain ⟨yw, yb', ym⟩ := y
      simp only at HFA
      unfold spC at ca cb
      simp only at ca cb
      have a0 := ca.read 0
      have a1 := ca.read 1
      have a2 := ca.read 2
      have b0 := cb.read 0
      have b1 := cb.read 1
      have b2 := cb.read 2
      simp at a0 a1 a2 b0 b1 b2
      clear ca cb HS2 HF2
      go_upto_region 25 with fail
      go_cut [12, 13] (fun s12 s13 wx => ∃ c d : Nat, s12 = .pointer (some ⟨c, 0, none⟩) ∧ s13 = .pointer (some ⟨d, 0, none⟩) ∧ c ≠ d ∧ wr.heap.size ≤ c ∧ wr.heap.size ≤ d ∧ Hid (Whole wx c 42 #[.int .i64 xw, .int .i64 xb', .int .i64 xm]) ∧ Hid (Whole wx d 42 #[.int .i64 yw, .int .i64 yb', .int .i64 ym]) ∧ Hid (Below wr.heap.size wr wx))
      case first =>
        have k1 := two_blocks wr 42 #[.int .i64 xw, .int .i64 xb', .int .i64 xm] #[.int .i64 yw, .int .i64 yb', .int .i64 ym]
        have k2 := two_blocks wr 42 #[.int .i64 yw, .int .i64 yb', .int .i64 ym] #[.int .i64 xw, .int .i64 xb', .int .i64 xm]
        have K1 := Lib.hid k1
        have K2 := Lib.hid k2
        clear k1 k2
        go_region_with (fail)
        all_goals
          go_wp2_with fail
          go_meet
          case rel => first | exact ⟨wr.heap.size, wr.heap.size + 1, rfl, rfl, by omega, by omega, by omega, Lib.hid K1.out.1, Lib.hid K1.out.2.1, Lib.hid (by repeat (first | exact K1.out.2.2 | refine Below.drew ?_ | refine Below_drewN ?_ _))⟩ | exact ⟨wr.heap.size + 1, wr.heap.size, rfl, rfl, by omega, by omega, by omega, Lib.hid K2.out.2.1, Lib.hid K2.out.1, Lib.hid (by repeat (first | exact K2.out.2.2 | refine Below.drew ?_ | refine Below_drewN ?_ _))⟩
      case rest =>
        obtain ⟨c, d, rfl, rfl, hne, hc1, hd1, HWC, HWD, HBW⟩ := hcut
        have c0 := HWC.out.read 0
        have c1 := HWC.out.read 1
        have c2 := HWC.out.read 2
        have d0 := HWD.out.read 0
        have d1 := HWD.out.read 1
        have d2 := HWD.out.read 2
        simp at c0 c1 c2 d0 d1 d2
        have cf := HWC.out.free
        have df := HWD.out.free
        have HX := rfair_any ⟨xw, xb', 4096⟩ ⟨yw, yb', 4096⟩
        rw [HFA.out] at HX
        unfold Calm aggSp at HX
        simp only at HX
        have HX := Lib.hid HX
        have HB2 := Lib.hid ((HB.out.trans (HBW.out.mono HB.out.size)))
        have hz := HB.out.size
        have HB3 := Lib.hid ((HB2.out.setCell (p := ⟨c, 2, none⟩) (show w.heap.size ≤ c by omega) (.int .i64 4096)).setCell (p := ⟨d, 2, none⟩) (show w.heap.size ≤ d by omega) (.int .i64 4096))
        clear HB HBW HWC HWD HB2 a0 a1 a2 b0 b1 b2
        go_wp2_with fail
        (with_reducible refine (HX.out _).mono ?_); rintro e w14 ⟨rfl, hb⟩
        have HB4 := Lib.hid (HB3.out.trans (hb.mono HB3.out.size))
        have HX2 := Lib.hid (HAW.out w14)
        clear hb HX HB3
        go_wp2_with fail
        (with_reducible refine HX2.out.mono ?_); rintro e w15 ⟨rfl, hb⟩
        have HB5 := Lib.hid (HB4.out.trans (hb.mono HB4.out.size))
        clear hb HX2 HB4
        go_wp2
        go_ret
        exact ⟨rfl, HB5.out⟩
end Go.Proofs.Ytkfhjpgapmfiaaa

