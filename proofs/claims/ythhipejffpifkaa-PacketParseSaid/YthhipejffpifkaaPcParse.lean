/-
  Layer 8: the walk of the statement PacketParse. Every input; no condition.
-/
import Derived.Test.YthhipejffpifkaaPcFormat
import Derived.Test.YthhipejffpifkaaPcRow
namespace Go.Proofs.Ythhipejffpifkaa
open Go.ChangeShapes Go.WideShapes Go.ChangeAt Go.RowKit
set_option linter.unusedVariables false

theorem refFormat_is {st : ByteArray} {c p l f : Int} (h : hdOk st c p l f = true) (w : World) : Calls Try.prog 13 #[.agg #[.string st, .int .i64 c, .int .i64 p, .int .i64 l, .int .i64 f]] w fun e w' => e = .returned (.tuple #[.string (fmS st c p l f), .int .i64 0]) ∧ Below w.heap.size w w' := by
  have := refFormat_any st (by have := (hd_parts h).1.2; omega) c p l f w
  unfold FmAns at this
  rw [(fm_yes h).2] at this
  exact this
/-- The state while one byte is changed: the choices, and a row of sz bytes in block g. -/
def PyC (B : Nat) (a : Option Addr) (len cap K : Nat) (w0 : World) (g sz f : Nat) (w : World) : Prop :=
  (∃ k, k + f ≤ K ∧ Has B a len cap k w0 w) ∧ ∃ l : List UInt8, l.length = sz ∧ RowB w g l
theorem PyC.step {B : Nat} {a : Option Addr} {len cap K f g sz : Nat} {w0 w : World} (h : PyC B a len cap K w0 g sz (f + 1) w) : PyC B a len cap K w0 g sz f w := by
  obtain ⟨⟨k, hk, hg⟩, h2⟩ := h
  exact ⟨⟨k, by omega, hg⟩, h2⟩
theorem PyC.call {B : Nat} {a : Option Addr} {len cap K f g sz k : Nat} {w0 w w' : World} (h : PyC B a len cap K w0 g sz (f + 1) w) (hk : k + 1 + f ≤ K) (hg : Has B a len cap (k + 1) w0 w') (ho : Only B w w') (hn : g ≠ B) : PyC B a len cap K w0 g sz f w' := by
  obtain ⟨_, l, hl, hr⟩ := h
  exact ⟨⟨k + 1, hk, hg⟩, l, hl, hr.later (ho.block g hr.lt hn)⟩
theorem PyC.store {B : Nat} {a : Option Addr} {len cap K f g sz i : Nat} {v : Int} {w0 w : World} (h : PyC B a len cap K w0 g sz (f + 1) w) (hB : B < g) (hi : i < sz) (v0 : 0 ≤ v) (v1 : v ≤ 255) : PyC B a len cap K w0 g sz f (w.setCell ⟨g, i, none⟩ (.int .u8 v)) := by
  obtain ⟨⟨k, hk, hg⟩, l, hl, hr⟩ := h
  exact ⟨⟨k, by omega, hg.put hB i _⟩, l.set i (UInt8.ofNat v.toNat), by rw [List.length_set]; exact hl, hr.put (by omega) v v0 v1⟩
def PyR (_ _ : World) : Prop := True
def PtrB (g sz : Nat) (v : Value) : Prop := ∃ i : Nat, i < sz ∧ v = .pointer (some ⟨g, i, none⟩)
def ByteI (v : Value) : Prop := ∃ x : Int, (0 ≤ x ∧ x ≤ 255) ∧ v = .int .u8 x
def PyV (B g sz gc : Nat) : Nat → Value → World → Prop
  | 0, v, _ => v = .slice (some ⟨g, 0, none⟩) sz gc
  | 1, v, _ => v = .pointer (some ⟨B, 0, none⟩)
  | 2, v, _ => v = .slice (some ⟨g, 0, none⟩) sz gc
  | 3, v, _ => v = .int .i64 sz
  | 4, v, _ => ∃ i : Nat, i < sz ∧ v = .int .i64 i
  | 5, v, _ => PtrB g sz v
  | 6, v, _ => ByteI v
  | 7, v, _ => v = .pointer (some ⟨B, 0, none⟩)
  | 8, v, _ => IntV 0 254 v
  | 9, v, _ => IntV 1 255 v
  | 10, v, _ => ByteI v
  | 11, v, _ => ByteI v
  | 12, v, _ => PtrB g sz v
  | _, _, _ => True
theorem PyV.keep {B g sz gc : Nat} (i : Nat) (v : Value) (w w' : World) (hv : PyV B g sz gc i v w) : PyV B g sz gc i v w' := by
  unfold PyV at *
  split at hv <;> first | exact hv | trivial
theorem xor_byte (x y : Int) : 0 ≤ bits .xor .u8 x y ∧ bits .xor .u8 x y ≤ 255 := bounds_u8 (wf_bits .xor .u8 x y)
set_option maxRecDepth 100000 in
set_option maxHeartbeats 8000000 in
theorem walkParse (A : Option Addr) (len cap : Nat) (s : ByteArray) (hs : s.size ≤ 9223372036854775807) (w : World) (he : Elems w.heap.size A len w) :
    Calls Try.prog 4 #[.slice A len cap, .string s] w (BoolAns true w) := by
  have HA := Lib.hid (fun w => awake8_any w)
  have HPa := Lib.hid (fun s hs w => parses_any s hs w)
  have HSe := Lib.hid (fun s hs w => sealed_any s hs w)
  unfold BoolAns at HA HPa
  unfold StrAns at HSe
  unfold BoolAns
  have hg := Lib.hid (Has.new (cap := cap) he)
  clear he
  go_enter Try.func4, Try.ntmps4
  go_wp2_with fail
  (with_reducible refine (new_any A len cap _).mono ?_); rintro e w' ⟨rfl, rfl⟩
  go_wp2_with fail
  go_loopw [6] (fun i wr => ∃ j q : Nat, j ≤ 5 ∧ i = .int .i64 j ∧ q ≤ 40 * j ∧ Hid (Has w.heap.size A len cap q w wr)) (fun i _ => 5 - (intOf i).toNat)
  case atStart => exact ⟨0, 0, by omega, rfl, by omega, hg⟩
  case round =>
    obtain ⟨j, q, hj, rfl, hq, HJ⟩ := hrel
    clear hg
    by_cases hlt : j < 5
    · have hlt' : (j : Int) < 5 := by omega
      go_wp2_with fail
      (with_reducible refine (has_header w.heap.size A len cap q w wr HJ.out (by omega)).mono ?_)
      rintro e w2 ⟨st2, c2, p2, l2, f2, hh, rfl, ⟨k2, hk2, h2⟩, ho2⟩
      have hd := hd_good hh
      have hz := fm_size hd
      have HF := Lib.hid (fun w => refFormat_is hd w)
      generalize fmS st2 c2 p2 l2 f2 = X at *
      have H2 := Lib.hid h2
      clear hh hd h2 ho2 HJ
      go_wp2_with fail
      (with_reducible refine (HF.out _).mono ?_); rintro e w3 ⟨rfl, hb⟩
      have h3 := H2.out.below hb
      have hB3 := h3.1.lt
      have H3 := Lib.hid (h3.below (bytes_below w3 5 X))
      clear hb H2 HF h3
      have hcv := Lib.run_convert_string_bytes (P := Try.prog) w3 9 36 5 X Try.underlying9 Try.underlying36 Try.underlying5
      have HR := Lib.hid (RowB.new w3 X)
      have hgc := grownCap_ge w3 X.size 0 5
      generalize grownCap w3 X.size 0 5 = gc at *
      generalize Lib.bytesWorld w3 5 X = w4 at *
      go_wp2_with fail
      have HC0 := Lib.hid (show PyC w.heap.size A len cap (k2 + 14) w w3.heap.size X.size 14 w4.drew from ⟨⟨k2, by omega, H3.out.drew⟩, X.data.toList, (Lib.size_eq X).symm, HR.out⟩)
      clear hcv H3 HR
      refine wp_region_loose 93 (by kernel_rfl) (by kernel_rfl) (PyC w.heap.size A len cap (k2 + 14) w w3.heap.size X.size) PyR (PyV w.heap.size w3.heap.size X.size gc) rfl (fun i v w w' _ hv => PyV.keep i v w w' hv) HC0.out ?_ ?_
      · simp only [OblAll]
        refine ⟨?_, ?_, ?_, ?_, ?_, ?_, ?_, ?_, ?_, ?_, ?_, ?_, ?_, ?_, trivial⟩
        all_goals
          intro fu wx vals hC hp
          simp [predL, predE, Region.binds, PreV, PyV] at hp
          simp only [fillA, if_true, Act.put]
          simp
          have HC := Lib.hid hC
          clear hC
        · go_wp2
          exact ⟨rfl, HC.out.step, trivial, rfl⟩
        · go_wp2
          exact ⟨rfl, HC.out.step, trivial, rfl⟩
        · go_wp2
          exact ⟨rfl, HC.out.step, trivial, rfl⟩
        · simp only [hp]
          clear hp
          go_wp2
          exact ⟨rfl, HC.out.step, trivial, rfl⟩
        · obtain ⟨h1, h2⟩ := hp
          simp only [h1, h2]
          clear h1 h2
          obtain ⟨⟨kk, hkk, hg'⟩, _⟩ := HC.out
          go_wp2_with fail
          (with_reducible refine (has_next w.heap.size A len cap kk X.size w _ hg' (by omega) (by omega) (by omega)).mono ?_)
          rintro e w' ⟨r, r0, r1, rfl, hg2, ho⟩
          obtain ⟨n, rfl⟩ := Int.eq_ofNat_of_zero_le r0
          have hn : n < X.size := by omega
          have HF := Lib.hid (HC.out.call (by omega) hg2 ho (by omega))
          clear hg' hg2 ho
          go_wp2
          exact ⟨rfl, HF.out, trivial, n, hn, rfl⟩
        · obtain ⟨h1, i, hi, h2⟩ := hp
          simp only [h1, h2]
          clear h1 h2
          have hi1 : (0 : Int) ≤ (i : Int) := by omega
          have hi2 : (i : Int) < (X.size : Int) := by omega
          go_wp2
          exact ⟨rfl, HC.out.step, trivial, i, hi, rfl⟩
        · obtain ⟨i, hi, h1⟩ := hp
          simp only [h1]
          clear h1
          obtain ⟨_, ll, hll, hr⟩ := HC.out
          have hcell := hr.cell (show i < ll.length by omega)
          have hv := (ll[i]'(by omega)).toNat_lt
          generalize (ll[i]'(by omega)).toNat = o at *
          clear hr
          go_wp2
          exact ⟨rfl, HC.out.step, trivial, (o : Int), by omega, rfl⟩
        · go_wp2
          exact ⟨rfl, HC.out.step, trivial, rfl⟩
        · simp only [hp]
          clear hp
          obtain ⟨⟨kk, hkk, hg'⟩, _⟩ := HC.out
          go_wp2_with fail
          (with_reducible refine (has_next w.heap.size A len cap kk 255 w _ hg' (by omega) (by omega) (by omega)).mono ?_)
          rintro e w' ⟨r, r0, r1, rfl, hg2, ho⟩
          have hr : 0 ≤ r ∧ r ≤ 254 := by omega
          have HF := Lib.hid (HC.out.call (by omega) hg2 ho (by omega))
          clear hg' hg2 ho
          go_wp2
          exact ⟨rfl, HF.out, trivial, r, hr, rfl⟩
        · obtain ⟨x, hx, h1⟩ := hp
          simp only [h1]
          clear h1
          have hw : IntKind.i64.wrap (1 + x) = 1 + x := IntWalk.i64_in _ (by omega)
          have hy : 1 ≤ 1 + x ∧ 1 + x ≤ 255 := by omega
          go_wp2
          exact ⟨rfl, HC.out.step, trivial, _, hy, rfl⟩
        · obtain ⟨x, hx, h1⟩ := hp
          simp only [h1]
          clear h1
          have hw : IntKind.u8.wrap x = x := by rw [IntKind.wrap_u8']; omega
          have hy : 0 ≤ x ∧ x ≤ 255 := by omega
          go_wp2
          exact ⟨rfl, HC.out.step, trivial, _, hy, rfl⟩
        · obtain ⟨⟨x, hx, h1⟩, y, hy, h2⟩ := hp
          simp only [h1, h2]
          clear h1 h2
          have hq := xor_byte x y
          go_wp2
          exact ⟨rfl, HC.out.step, trivial, _, hq, rfl⟩
        · obtain ⟨h1, ⟨i, hi, h2⟩, _⟩ := hp
          simp only [h1, h2]
          clear h1 h2
          have hi1 : (0 : Int) ≤ (i : Int) := by omega
          have hi2 : (i : Int) < (X.size : Int) := by omega
          go_wp2
          exact ⟨rfl, HC.out.step, trivial, i, hi, rfl⟩
        · obtain ⟨⟨i, hi, h1⟩, ⟨x, hx, h2⟩, hrest⟩ := hp
          clear hrest
          simp only [h1, h2]
          have HS := Lib.hid (HC.out.store (v := x) (by omega) hi hx.1 hx.2)
          obtain ⟨_, ll, hll, hr⟩ := HC.out
          have hcell := hr.cell (show i < ll.length by omega)
          have hfz := hr.frozen (show i < ll.length by omega)
          clear hr h1 h2
          go_wp2
          exact ⟨rfl, HS.out, trivial, trivial⟩
      · intro w5 vals hC hV
        have e0 : vals 0 = .slice (some ⟨w3.heap.size, 0, none⟩) X.size gc := hV 0 (by simp)
        obtain ⟨⟨k5, hk5, h5⟩, ll, hll, hr5⟩ := hC
        have H5 := Lib.hid h5
        have HR5 := Lib.hid hr5
        have hB5 := h5.1.lt
        obtain ⟨m, hm⟩ : ∃ m, X.size = m + 2 := ⟨X.size - 2, by omega⟩
        have g1 : (X.size : Int) - 2 = m := by omega
        have g2 : (0 : Int) ≤ (m : Int) := by omega
        have g3 : (m : Int) ≤ (gc : Int) := by omega
        have g4 : m ≤ gc := by omega
        have hXs : X.size ≤ 36 := hz.2
        have hm' : m + 2 ≤ 36 := by omega
        have hll' : m ≤ ll.length := by omega
        have hX0 : 13 ≤ X.size := hz.1
        have hLe : X.size ≤ ll.length := by omega
        have Hm := Lib.hid hm
        clear hV HC0 h5 hr5 hm hz hll
        simp only [fillA, if_true, Act.put]
        simp
        go_wp2_with fail
        (with_reducible refine (HPa.out X (by omega) _).mono ?_); rintro e w6 ⟨rfl, hb⟩
        have H6 := Lib.hid (H5.out.below hb)
        have hr6 := HR5.out.later (hb.block _ HR5.out.lt)
        have hst := hr6.string X.size gc hLe
        have HR6 := Lib.hid hr6
        have hz1 : (⟨(ll.take X.size).toArray⟩ : ByteArray).size ≤ 36 := by show (ll.take X.size).length ≤ 36; rw [List.length_take]; omega
        generalize (⟨(ll.take X.size).toArray⟩ : ByteArray) = Y1 at *
        clear hb H5 HR5 hr6
        go_wp2_with fail
        (with_reducible refine (HPa.out Y1 (by omega) _).mono ?_); rintro e w7 ⟨rfl, hb⟩
        have H7 := Lib.hid (H6.out.below hb)
        have hr7 := HR6.out.later (hb.block _ HR6.out.lt)
        clear hst
        have hst := hr7.string m gc hll'
        have HR7 := Lib.hid hr7
        have hz2 : (⟨(ll.take m).toArray⟩ : ByteArray).size ≤ 36 := by show (ll.take m).length ≤ 36; rw [List.length_take]; omega
        generalize (⟨(ll.take m).toArray⟩ : ByteArray) = Y2 at *
        clear hb H6 HR6 hr7
        go_wp2_with fail
        (with_reducible refine (HSe.out Y2 (by omega) _).mono ?_); rintro e w8 ⟨rfl, hb⟩
        have H8 := Lib.hid (H7.out.below hb)
        have hz3 : (⟨(sld Y2.data.toList).toArray⟩ : ByteArray).size ≤ 38 := by show (sld Y2.data.toList).length ≤ 38; rw [sld_len, ← Lib.size_eq]; omega
        generalize (⟨(sld Y2.data.toList).toArray⟩ : ByteArray) = Z at *
        clear hb H7 hst
        go_wp2_with fail
        (with_reducible refine (HPa.out Z (by omega) _).mono ?_); rintro e w9 ⟨rfl, hb⟩
        have H9 := Lib.hid (H8.out.below hb)
        clear hb H8
        go_wp2_with fail
        (with_reducible refine (has_next w.heap.size A len cap k5 X.size w w9 H9.out (by omega) (by omega) (by omega)).mono ?_)
        rintro e w10 ⟨r, r0, r1, rfl, h10, _⟩
        obtain ⟨n, rfl⟩ := Int.eq_ofNat_of_zero_le r0
        have H10 := Lib.hid h10
        have hn1 : (n : Int) ≤ (X.size : Int) := by omega
        have hn2 : n ≤ X.size := by omega
        have hn3 : ¬ X.size < n := by omega
        have hz4 : (X.extract 0 n).size ≤ 36 := by simp; omega
        clear h10 H9
        go_wp2_with fail
        (with_reducible refine (HPa.out (X.extract 0 n) (by omega) _).mono ?_); rintro e w11 ⟨rfl, hb⟩
        have H11 := Lib.hid (H10.out.below hb)
        clear hb H10
        have hz5 : (X ++ ByteArray.mk #[97]).size ≤ 37 := by rw [ByteArray.size_append]; show X.size + 1 ≤ 37; omega
        go_wp2_with fail
        (with_reducible refine (HPa.out (X ++ ByteArray.mk #[97]) (by omega) _).mono ?_); rintro e w12 ⟨rfl, hb⟩
        have H12 := Lib.hid (H11.out.below hb)
        clear hb H11
        go_wp2
        go_roundw
        case rel => exact ⟨j + 1, _, by omega, by go_num, by omega, H12⟩
        case measure => simp [intOf]; omega
    · obtain rfl : j = 5 := by omega
      have HB := Lib.hid HJ.out.2
      clear HJ
      by_cases h4 : 400 < s.size
      · have h4' : (400 : Int) < (s.size : Int) := by omega
        go_wp2
        go_ret
        exact ⟨rfl, HB.out⟩
      · have h4' : ¬ (400 : Int) < (s.size : Int) := by omega
        go_wp2_with fail
        (with_reducible refine (HPa.out s (by omega) _).mono ?_); rintro e w6 ⟨rfl, hb⟩
        have HB6 := Lib.hid (HB.out.trans (hb.mono HB.out.size))
        clear hb HB
        go_wp2_with fail
        (with_reducible refine (HSe.out s (by omega) _).mono ?_); rintro e w7 ⟨rfl, hb⟩
        have HB7 := Lib.hid (HB6.out.trans (hb.mono HB6.out.size))
        have hz3 : (⟨(sld s.data.toList).toArray⟩ : ByteArray).size ≤ 402 := by show (sld s.data.toList).length ≤ 402; rw [sld_len, ← Lib.size_eq]; omega
        generalize (⟨(sld s.data.toList).toArray⟩ : ByteArray) = Z at *
        clear hb HB6
        go_wp2_with fail
        (with_reducible refine (HPa.out Z (by omega) _).mono ?_); rintro e w8 ⟨rfl, hb⟩
        have HB8 := Lib.hid (HB7.out.trans (hb.mono HB7.out.size))
        clear hb HB7
        have hz5 : (ByteArray.mk #[165, 1] ++ s).size ≤ 402 := by rw [ByteArray.size_append]; show 2 + s.size ≤ 402; omega
        go_wp2_with fail
        (with_reducible refine (HPa.out (ByteArray.mk #[165, 1] ++ s) (by omega) _).mono ?_); rintro e w9 ⟨rfl, hb⟩
        have HB9 := Lib.hid (HB8.out.trans (hb.mono HB8.out.size))
        clear hb HB8
        go_wp2_with fail
        (with_reducible refine (HA.out _).mono ?_); rintro e w10 ⟨rfl, hb⟩
        have HB10 := Lib.hid (HB9.out.trans (hb.mono HB9.out.size))
        clear hb HB9
        go_wp2
        go_ret
        exact ⟨rfl, HB10.out⟩
end Go.Proofs.Ythhipejffpifkaa

