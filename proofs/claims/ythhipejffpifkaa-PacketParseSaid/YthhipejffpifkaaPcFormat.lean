/-
  Layer 8: the walk of the statement PacketFormat. Every input; no condition.
-/
import Derived.Test.YthhipejffpifkaaPcRound
namespace Go.Proofs.Ythhipejffpifkaa
open Go.ChangeShapes Go.WideShapes Go.ChangeAt Go.RowKit
set_option linter.unusedVariables false

theorem Elems.wider {B B' : Nat} {a : Option Addr} {len : Nat} {w : World} (h : Elems B a len w) (hB : B ≤ B') : Elems B' a len w :=
  ⟨h.1, fun i hi => by
    obtain ⟨b, off, z, e1, e2, e3⟩ := h.2 i hi
    exact ⟨b, off, z, e1, by omega, e3⟩⟩
theorem Has.put {B : Nat} {a : Option Addr} {len cap k : Nat} {w0 w : World} (h : Has B a len cap k w0 w) {g : Nat} (hg : B < g) (o : Nat) (u : Value) : Has B a len cap k w0 (w.setCell ⟨g, o, none⟩ u) :=
  ⟨h.1.kept ((Below.refl _ _).setCell (p := ⟨g, o, none⟩) (by show B + 1 ≤ g; omega) _), h.2.setCell (p := ⟨g, o, none⟩) (by show B ≤ g; omega) _⟩
/-- What Header answers, said of choices that a caller keeps. -/
def GotHd (B : Nat) (a : Option Addr) (len cap k : Nat) (w0 w : World) (e : Ending) (w' : World) : Prop :=
  ∃ (st : ByteArray) (c p l f : Int), HdOk st c p l f ∧ e = .returned (.agg #[.string st, .int .i64 c, .int .i64 p, .int .i64 l, .int .i64 f]) ∧ (∃ k', k' ≤ k + 18 ∧ Has B a len cap k' w0 w') ∧ Only B w w'
theorem has_header (B : Nat) (a : Option Addr) (len cap k : Nat) (w0 w : World) (h : Has B a len cap k w0 w) (hk : k ≤ 100000000) :
    Calls Try.prog 8 #[.pointer (some ⟨B, 0, none⟩)] w (GotHd B a len cap k w0 w) :=
  (header_any B a len cap k w h.1 hk).mono fun _ _ ⟨st, c, p, l, f, hh, he, ⟨k', hk', hg⟩, ho⟩ => ⟨st, c, p, l, f, hh, he, ⟨k', hk', hg, h.2.trans (ho.below (by have := h.1.lt; omega))⟩, ho⟩
theorem HdOk.size {st : ByteArray} {c p l f : Int} (h : HdOk st c p l f) : st.size ≤ 25 := good_size h.1
set_option maxRecDepth 100000 in
set_option maxHeartbeats 8000000 in
theorem walkFormat (A : Option Addr) (len cap : Nat) (st : ByteArray) (c p l f : Int) (hst : st.size ≤ 9223372036854775807) (w : World) (he : Elems w.heap.size A len w) :
    Calls Try.prog 3 #[.slice A len cap, .agg #[.string st, .int .i64 c, .int .i64 p, .int .i64 l, .int .i64 f]] w (BoolAns true w) := by
  have HA := Lib.hid (fun w => awake8_any w)
  have HFm := Lib.hid (fun st hs c p l f w => formats_any st hs c p l f w)
  unfold BoolAns at HA HFm
  unfold BoolAns
  have HZ := Lib.hid (Whole.fresh w 24 #[.string st, .int .i64 c, .int .i64 p, .int .i64 l, .int .i64 f])
  have he1 : Elems (w.alloc (.cells #[.string st, .int .i64 c, .int .i64 p, .int .i64 l, .int .i64 f] 24)).heap.size A len (w.alloc (.cells #[.string st, .int .i64 c, .int .i64 p, .int .i64 l, .int .i64 f] 24)) :=
    (he.kept ((Below.refl w.heap.size w).alloc (Nat.le_refl _) _)).wider (by simp)
  have hb0 := Lib.hid ((Below.refl w.heap.size w).alloc (Nat.le_refl _) (.cells #[.string st, .int .i64 c, .int .i64 p, .int .i64 l, .int .i64 f] 24))
  have hz0 : (w.alloc (.cells #[.string st, .int .i64 c, .int .i64 p, .int .i64 l, .int .i64 f] 24)).heap.size = w.heap.size + 1 := by simp
  go_enter Try.func3, Try.ntmps3
  go_wp2_with fail
  generalize (w.alloc (.cells #[.string st, .int .i64 c, .int .i64 p, .int .i64 l, .int .i64 f] 24)) = w1 at *
  have hg := Lib.hid (Has.new (cap := cap) he1)
  have hS := Lib.hid hz0
  clear he he1 hz0
  (with_reducible refine (new_any A len cap _).mono ?_); rintro e w' ⟨rfl, rfl⟩
  go_wp2_with fail
  go_loopw [6] (fun i wr => ∃ j q : Nat, j ≤ 4 ∧ i = .int .i64 j ∧ q ≤ 30 * j ∧ Hid (Has w1.heap.size A len cap q w1 wr)) (fun i _ => 4 - (intOf i).toNat)
  case atStart => exact ⟨0, 0, by omega, rfl, by omega, hg⟩
  case round =>
    obtain ⟨j, q, hj, rfl, hq, HJ⟩ := hrel
    clear hg
    by_cases hlt : j < 4
    · have hlt' : (j : Int) < 4 := by omega
      go_wp2_with fail
      (with_reducible refine (has_header w1.heap.size A len cap q w1 wr HJ.out (by omega)).mono ?_)
      rintro e w2 ⟨st2, c2, p2, l2, f2, hh, rfl, ⟨k2, hk2, h2⟩, ho2⟩
      have hsz := hh.size
      have H2 := Lib.hid (h2.alloc (.cells #[.string st2, .int .i64 c2, .int .i64 p2, .int .i64 l2, .int .i64 f2] 24))
      have hB2 := h2.1.lt
      have HW := Lib.hid (Whole.fresh w2 24 #[.string st2, .int .i64 c2, .int .i64 p2, .int .i64 l2, .int .i64 f2])
      clear hh h2 ho2 HJ
      go_wp2_with fail
      (with_reducible refine (HFm.out st2 (by omega) c2 p2 l2 f2 _).mono ?_); rintro e w3 ⟨rfl, hb⟩
      have H3 := Lib.hid (H2.out.below hb)
      have HW3 := Lib.hid (HW.out.later hb)
      clear hb H2 HW
      go_wp2_with fail
      (with_reducible refine (has_next w1.heap.size A len cap k2 5 w1 w3 H3.out (by decide) (by decide) (by omega)).mono ?_)
      rintro e w4 ⟨r, r0, r1, rfl, h4, ho4⟩
      have hB4 := h4.1.lt
      have HW4 := HW3.out.carry (ho4.block _ HW3.out.size_lt (by omega))
      have hl4 := HW4.size_lt
      have H4 := Lib.hid h4
      replace HW4 := Lib.hid HW4
      clear h4 ho4 H3 HW3
      rcases (by omega : r = 0 ∨ r = 1 ∨ r = 2 ∨ r = 3 ∨ r = 4) with rfl | rfl | rfl | rfl | rfl
      · go_wp2_with fail
        (with_reducible refine (has_next w1.heap.size A len cap (k2 + 1) 2 w1 _ (H4.out.alloc _) (by decide) (by decide) (by omega)).mono ?_)
        rintro e w5 ⟨r, r0, r1, rfl, h5, ho5⟩
        obtain ⟨n, rfl⟩ := Int.eq_ofNat_of_zero_le r0
        obtain ⟨x, _, hc⟩ := pickN (L := [-1, 8]) rfl ho5 hB4 (n := n) (by show n < 2; omega)
        have hn : n ≤ 1 := by omega
        have hw5 := (HW4.out.alloc (.cells #[.int .i64 (-1), .int .i64 8] 3)).carry (ho5.block _ (by simp; omega) (by omega))
        have H6 := Lib.hid (h5.put (g := w2.heap.size) hB2 1 (.int .i64 x))
        have HW6 := Lib.hid (hw5.put 1 (.int .i64 x))
        have d0 := hw5.read 0
        have d1 := hw5.read 1
        have d2 := hw5.read 2
        have d3 := hw5.read 3
        have d4 := hw5.read 4
        simp at d0 d1 d2 d3 d4
        have z0 := hw5.free 0
        have z1 := hw5.free 1
        have z2 := hw5.free 2
        have z3 := hw5.free 3
        have z4 := hw5.free 4
        clear h5 ho5 hw5 H4 HW4
        go_wp2_with fail
        (with_reducible refine (HFm.out st2 (by omega) x p2 l2 f2 _).mono ?_); rintro e w6 ⟨rfl, hb⟩
        have H7 := Lib.hid (H6.out.below hb)
        clear hb H6 HW6 d0 d1 d2 d3 d4 z0 z1 z2 z3 z4 hc
        go_wp2
        go_roundw
        case rel => exact ⟨j + 1, _, by omega, by go_num, by omega, H7⟩
        case measure => simp [intOf]; omega
      · go_wp2_with fail
        (with_reducible refine (has_next w1.heap.size A len cap (k2 + 1) 2 w1 _ (H4.out.alloc _) (by decide) (by decide) (by omega)).mono ?_)
        rintro e w5 ⟨r, r0, r1, rfl, h5, ho5⟩
        obtain ⟨n, rfl⟩ := Int.eq_ofNat_of_zero_le r0
        obtain ⟨x, _, hc⟩ := pickN (L := [-1, 65536]) rfl ho5 hB4 (n := n) (by show n < 2; omega)
        have hn : n ≤ 1 := by omega
        have hw5 := (HW4.out.alloc (.cells #[.int .i64 (-1), .int .i64 65536] 3)).carry (ho5.block _ (by simp; omega) (by omega))
        have H6 := Lib.hid (h5.put (g := w2.heap.size) hB2 2 (.int .i64 x))
        have HW6 := Lib.hid (hw5.put 2 (.int .i64 x))
        have d0 := hw5.read 0
        have d1 := hw5.read 1
        have d2 := hw5.read 2
        have d3 := hw5.read 3
        have d4 := hw5.read 4
        simp at d0 d1 d2 d3 d4
        have z0 := hw5.free 0
        have z1 := hw5.free 1
        have z2 := hw5.free 2
        have z3 := hw5.free 3
        have z4 := hw5.free 4
        clear h5 ho5 hw5 H4 HW4
        go_wp2_with fail
        (with_reducible refine (HFm.out st2 (by omega) c2 x l2 f2 _).mono ?_); rintro e w6 ⟨rfl, hb⟩
        have H7 := Lib.hid (H6.out.below hb)
        clear hb H6 HW6 d0 d1 d2 d3 d4 z0 z1 z2 z3 z4 hc
        go_wp2
        go_roundw
        case rel => exact ⟨j + 1, _, by omega, by go_num, by omega, H7⟩
        case measure => simp [intOf]; omega
      · go_wp2_with fail
        (with_reducible refine (has_next w1.heap.size A len cap (k2 + 1) 2 w1 _ (H4.out.alloc _) (by decide) (by decide) (by omega)).mono ?_)
        rintro e w5 ⟨r, r0, r1, rfl, h5, ho5⟩
        obtain ⟨n, rfl⟩ := Int.eq_ofNat_of_zero_le r0
        obtain ⟨x, _, hc⟩ := pickN (L := [0, 4097]) rfl ho5 hB4 (n := n) (by show n < 2; omega)
        have hn : n ≤ 1 := by omega
        have hw5 := (HW4.out.alloc (.cells #[.int .i64 (0), .int .i64 4097] 3)).carry (ho5.block _ (by simp; omega) (by omega))
        have H6 := Lib.hid (h5.put (g := w2.heap.size) hB2 3 (.int .i64 x))
        have HW6 := Lib.hid (hw5.put 3 (.int .i64 x))
        have d0 := hw5.read 0
        have d1 := hw5.read 1
        have d2 := hw5.read 2
        have d3 := hw5.read 3
        have d4 := hw5.read 4
        simp at d0 d1 d2 d3 d4
        have z0 := hw5.free 0
        have z1 := hw5.free 1
        have z2 := hw5.free 2
        have z3 := hw5.free 3
        have z4 := hw5.free 4
        clear h5 ho5 hw5 H4 HW4
        go_wp2_with fail
        (with_reducible refine (HFm.out st2 (by omega) c2 p2 x f2 _).mono ?_); rintro e w6 ⟨rfl, hb⟩
        have H7 := Lib.hid (H6.out.below hb)
        clear hb H6 HW6 d0 d1 d2 d3 d4 z0 z1 z2 z3 z4 hc
        go_wp2
        go_roundw
        case rel => exact ⟨j + 1, _, by omega, by go_num, by omega, H7⟩
        case measure => simp [intOf]; omega
      · go_wp2_with fail
        (with_reducible refine (has_next w1.heap.size A len cap (k2 + 1) 2 w1 _ (H4.out.alloc _) (by decide) (by decide) (by omega)).mono ?_)
        rintro e w5 ⟨r, r0, r1, rfl, h5, ho5⟩
        obtain ⟨n, rfl⟩ := Int.eq_ofNat_of_zero_le r0
        obtain ⟨x, _, hc⟩ := pickN (L := [-1, 65536]) rfl ho5 hB4 (n := n) (by show n < 2; omega)
        have hn : n ≤ 1 := by omega
        have hw5 := (HW4.out.alloc (.cells #[.int .i64 (-1), .int .i64 65536] 3)).carry (ho5.block _ (by simp; omega) (by omega))
        have H6 := Lib.hid (h5.put (g := w2.heap.size) hB2 4 (.int .i64 x))
        have HW6 := Lib.hid (hw5.put 4 (.int .i64 x))
        have d0 := hw5.read 0
        have d1 := hw5.read 1
        have d2 := hw5.read 2
        have d3 := hw5.read 3
        have d4 := hw5.read 4
        simp at d0 d1 d2 d3 d4
        have z0 := hw5.free 0
        have z1 := hw5.free 1
        have z2 := hw5.free 2
        have z3 := hw5.free 3
        have z4 := hw5.free 4
        clear h5 ho5 hw5 H4 HW4
        go_wp2_with fail
        (with_reducible refine (HFm.out st2 (by omega) c2 p2 l2 x _).mono ?_); rintro e w6 ⟨rfl, hb⟩
        have H7 := Lib.hid (H6.out.below hb)
        clear hb H6 HW6 d0 d1 d2 d3 d4 z0 z1 z2 z3 z4 hc
        go_wp2
        go_roundw
        case rel => exact ⟨j + 1, _, by omega, by go_num, by omega, H7⟩
        case measure => simp [intOf]; omega
      · go_wp2_with fail
        (with_reducible refine (has_name w1.heap.size A len cap (k2 + 1) w1 _ H4.out (by omega)).mono ?_)
        rintro e w5 ⟨x, hx, rfl, h5, ho5⟩
        have hxs := name_size hx
        have hw5 := HW4.out.carry (ho5.block _ hl4 (by omega))
        have H6 := Lib.hid (h5.put (g := w2.heap.size) hB2 0 (.string x))
        have d0 := hw5.read 0
        have d1 := hw5.read 1
        have d2 := hw5.read 2
        have d3 := hw5.read 3
        have d4 := hw5.read 4
        simp at d0 d1 d2 d3 d4
        have z0 := hw5.free 0
        have z1 := hw5.free 1
        have z2 := hw5.free 2
        have z3 := hw5.free 3
        have z4 := hw5.free 4
        clear h5 ho5 hw5 H4 HW4 hx
        go_wp2_with fail
        (with_reducible refine (HFm.out x (by omega) c2 p2 l2 f2 _).mono ?_); rintro e w6 ⟨rfl, hb⟩
        have H7 := Lib.hid (H6.out.below hb)
        clear hb H6 d0 d1 d2 d3 d4 z0 z1 z2 z3 z4
        go_wp2
        go_roundw
        case rel => exact ⟨j + 1, _, by omega, by go_num, by omega, H7⟩
        case measure => simp [intOf]; omega
    · obtain rfl : j = 4 := by omega
      have hw := HZ.out.carry (HJ.out.2.block _ (by rw [hS.out]; omega))
      have d0 := hw.read 0
      have d1 := hw.read 1
      have d2 := hw.read 2
      have d3 := hw.read 3
      have d4 := hw.read 4
      simp at d0 d1 d2 d3 d4
      have HB := Lib.hid (hb0.out.trans (HJ.out.2.mono (by rw [hS.out]; omega)))
      clear hw HJ
      by_cases h3 : 300 < st.size
      · have h3' : (300 : Int) < (st.size : Int) := by omega
        go_wp2
        go_ret
        exact ⟨rfl, HB.out⟩
      · have h3' : ¬ (300 : Int) < (st.size : Int) := by omega
        go_wp2_with fail
        (with_reducible refine (HFm.out st (by omega) c p l f _).mono ?_); rintro e w6 ⟨rfl, hb⟩
        have HB6 := Lib.hid (HB.out.trans (hb.mono HB.out.size))
        clear hb
        go_wp2_with fail
        (with_reducible refine (HA.out _).mono ?_); rintro e w7 ⟨rfl, hb⟩
        have HB7 := Lib.hid (HB6.out.trans (hb.mono HB6.out.size))
        clear hb
        go_wp2
        go_ret
        exact ⟨rfl, HB7.out⟩
end Go.Proofs.Ythhipejffpifkaa

