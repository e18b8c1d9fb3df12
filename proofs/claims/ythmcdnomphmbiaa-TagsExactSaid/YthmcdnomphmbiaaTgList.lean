/-
  Layer 12's law: the drawn list of tags (list).
-/
import Derived.Test.YthmcdnomphmbiaaTgMem
import Derived.Test.YthmcdnomphmbiaaWtGen
import Derived.Test.YthmcdnomphmbiaaLenGen
import Derived.Deep.LoopGhost
import Derived.LoopTactic
namespace Go.Proofs.Ythmcdnomphmbiaa
open Go.ChangeShapes Go.WideShapes Go.ChangeAt Go.RowKit
set_option linter.unusedVariables false

/-- What list answers: at most five tags; at most fifty more numbers have been taken. -/
def GaveT (B : Nat) (a : Option Addr) (len cap k : Nat) (w0 w : World) (e : Ending) (w' : World) : Prop :=
  ∃ (L : List Tg) (A : Option Addr) (c : Nat), L.length ≤ 5 ∧ e = .returned (.slice A L.length c) ∧ SrAt csT 3 w' w.heap.size w'.heap.size A L ∧ (∃ k', k' ≤ k + 50 ∧ Has B a len cap k' w0 w') ∧ Only B w w'
theorem Has.only_ {B : Nat} {a : Option Addr} {len cap k : Nat} {w0 w w' : World} (h : Has B a len cap k w0 w') (hk : ∀ j, j < w.heap.size → j ≠ B → w'.heap[j]? = w.heap[j]?) (h1 : w'.os = w.os) (h2 : w'.tape = w.tape) (h3 : w'.output = w.output) (h4 : w.heap.size ≤ w'.heap.size) : Only B w w' := ⟨h1, h2, h3, h4, hk⟩
/-- The choices have turned, or a new block: seen from w0 on. -/
theorem only_below {B : Nat} {w w1 w2 : World} (h : Only B w w1) (hb : Below w.heap.size w1 w2) : Only B w w2 :=
  ⟨hb.os.trans h.os, hb.tape.trans h.tape, hb.output.trans h.output, Nat.le_trans h.size hb.size, fun k hk hn => (hb.block k hk).trans (h.block k hk hn)⟩
/-- One field of one tag of the list turns: the end of list. -/
theorem gave_set {B : Nat} {a : Option Addr} {len cap k q n g c ii o : Nat} {w0 w w5 : World} {L : List Tg} (hR : Hid (w5.ownsRow w.heap.size 47 3 (.slice (some ⟨g, 0, none⟩) n c) n (srs csT L))) (hL : Hid (L.length = n)) (hn : n ≤ 5) (hg : w.heap.size ≤ g) (hB : B < w.heap.size)
    (hG : Has B a len cap q w0 w5) (hq : q ≤ k + 50) (hO : Only B w w5) (hg5 : g < w5.heap.size) (hi : ii < n) (T : Tg) (u : Value) (ho : o < 3) (e : ∀ x : Tg, L[ii]? = some x → csT T = (csT x).set o u) :
    GaveT B a len cap k w0 w (.returned (.slice (some ⟨g, 0, none⟩) n c)) (w5.setCell ⟨g, ii * 3 + o, none⟩ u) := by
  have hL' := hL.out
  have hi' : ii < L.length := by omega
  have hr := row_cell (a := T) csT_len hR.out hi' u ho (e _ (List.getElem?_eq_getElem hi'))
  have hb : Below w.heap.size w5 (w5.setCell ⟨g, ii * 3 + o, none⟩ u) := (Below.refl _ w5).setCell (p := ⟨g, ii * 3 + o, none⟩) hg u
  have hs : B + 1 ≤ w.heap.size := hB
  refine ⟨L.set ii T, _, c, by simp; omega, by simp [hL'], SrAt.own csT_len hr (by simp [hL']), ⟨q, hq, ⟨hG.1.kept (hb.mono hs), hG.2.trans (hb.mono (by omega))⟩⟩, only_below hO hb⟩
set_option maxRecDepth 100000 in
set_option maxHeartbeats 8000000 in
theorem list_any (B : Nat) (a : Option Addr) (len cap k : Nat) (w0 w : World) (h : Has B a len cap k w0 w) (hk : k ≤ 100000000) :
    Calls Try.prog 12 #[.pointer (some ⟨B, 0, none⟩)] w (GaveT B a len cap k w0 w) := by
  have hB := h.1.lt
  have HX := Lib.hid (has_next B a len cap k 6 w0 w h (by omega) (by omega) (by omega))
  clear h
  unfold GaveT
  go_enter Try.func12, Try.ntmps12
  go_wp2_with fail
  (with_reducible refine HX.out.mono ?_)
  rintro e w1 ⟨r, r0, r1, rfl, hg1, ho1⟩
  obtain ⟨rn, rfl⟩ := Int.eq_ofNat_of_zero_le r0
  have HG1 := Lib.hid hg1
  have HO1 := Lib.hid ho1
  clear hg1 ho1 HX
  go_wp2_with fail
  go_loopw [3, 4, 5] (fun s3 s4 s5 wr => ∃ (j q n : Nat) (f : Int) (L : List Tg) (A' : Option Addr) (c' : Nat), j + n ≤ 5 ∧ s5 = .int .i64 j ∧ s4 = .int .i64 f ∧ -1 ≤ f ∧ f ≤ 3 * n ∧ s3 = .slice A' n c' ∧ Hid (L.length = n) ∧ q ≤ k + 1 + 3 * n ∧ Hid (wr.ownsRow w.heap.size 47 3 (.slice A' n c') n (srs csT L)) ∧ Hid (Has B a len cap q w0 wr) ∧ Hid (Only B w wr)) (fun s3 s4 s5 _ => (intOf s5).toNat)
  case atStart => exact ⟨rn, k + 1, 0, -1, [], none, 0, by omega, rfl, rfl, by omega, by omega, rfl, Lib.hid rfl, by omega, Lib.hid (by simpa [srs] using World.ownsRow_nil w1 w.heap.size 47 3), HG1, HO1⟩
  case round =>
    obtain ⟨j, q, n, f, L, A', c', hjn, rfl, rfl, hf0, hf1, rfl, hL, hq, HR, HG, HO⟩ := hrel

    by_cases hj : 0 < j
    · have hj' : (0 : Int) < j := by omega
      have HX := Lib.hid (has_next B a len cap q 3 w0 wr HG.out (by omega) (by omega) (by omega))
      clear HG
      go_wp2_with fail
      (with_reducible refine HX.out.mono ?_)
      rintro e w2 ⟨x, x0, x1, rfl, hg2, ho2⟩
      have HR2 := Lib.hid (row_past HR.out ho2 (by omega))
      have HO2 := Lib.hid (HO.out.trans ho2)
      have HX := Lib.hid (weight_any B a len cap (q + 1) w0 w2 hg2 (by omega))
      have hw1 : IntKind.i64.wrap (1 + x) = 1 + x := IntWalk.i64_in _ (by omega)
      have hw2 : IntKind.i64.wrap (f + (1 + x)) = f + (1 + x) := IntWalk.i64_in _ (by omega)
      clear hg2 ho2 HR HO
      go_wp2_with fail
      (with_reducible refine HX.out.mono ?_)
      rintro e w3 ⟨y, y0, y1, rfl, hg3, ho3⟩
      have HR3 := Lib.hid (row_past HR2.out ho3 (by omega))
      have HO3 := Lib.hid (HO2.out.trans ho3)
      have HX := Lib.hid (has_next B a len cap (q + 1 + 1) 4 w0 w3 hg3 (by omega) (by omega) (by omega))
      clear hg3 ho3 HR2 HO2
      go_wp2_with fail
      (with_reducible refine HX.out.mono ?_)
      rintro e w4 ⟨z, z0, z1, rfl, hg4, ho4⟩
      have hw3 : IntKind.i64.wrap (z * 1000) = z * 1000 := IntWalk.i64_in _ (by omega)
      have HO4 := Lib.hid ((HO3.out.trans ho4).trans (Only.alloc B w4 (.cells #[.int .i64 (f + (1 + x)), .int .i64 y, .int .i64 (z * 1000)] 47)))
      have HR4 := Lib.hid ((row_past HR3.out ho4 (by omega)).alloc (.cells #[.int .i64 (f + (1 + x)), .int .i64 y, .int .i64 (z * 1000)] 47))
      have HG4 := Lib.hid (hg4.alloc (.cells #[.int .i64 (f + (1 + x)), .int .i64 y, .int .i64 (z * 1000)] 47))
      have HCL := Lib.hid (newCells w4 (csT ⟨f + (1 + x), y, z * 1000⟩) 47)
      have hws := Nat.le_trans HO3.out.size ho4.size
      have hBw : B < w.heap.size := hB
      clear hg4 ho4 HR3 HO3
      go_wp2_with (at_builtin; go_loud (refine wpList_append_one rfl (.tmp 18) (.tmp 26) 30 rfl Try.underlying30 info_tg rfl (by decide) HR4.out rfl ⟨w4.heap.size, 0, none⟩ rfl (csT_len ⟨f + (1 + x), y, z * 1000⟩) HCL.out (csT_one _) (by omega) (by decide) (by simp; omega) ?_); intro v2 w5 he2 hg2 hb2; obtain ⟨A2, c2, rfl⟩ := ow_shape he2; have HE2 := Lib.hid he2; have HG2 := Lib.hid hg2; clear he2 hg2 hb2)
      have hbn : Below w.heap.size (w4.alloc (.cells #[.int .i64 (f + (1 + x)), .int .i64 y, .int .i64 (z * 1000)] 47)) w5 := below_grew (Below.refl _ _) (by simp; omega) HG2.out (fun k e => (World.ownsRow.lt HR4.out k e).1)
      have HB5 := Lib.hid (show Has B a len cap (q + 1 + 1 + 1) w0 w5 from ⟨HG4.out.1.kept (hbn.mono (by omega)), HG4.out.2.trans (hbn.mono (by omega))⟩)
      have HO5 := Lib.hid (only_below HO4.out hbn)
      have hL2 : Hid ((L ++ [(⟨f + (1 + x), y, z * 1000⟩ : Tg)]).length = n + 1) := Lib.hid (by rw [List.length_append, hL.out]; rfl)
      rw [← srs_snoc] at HE2
      obtain ⟨j', rfl⟩ : ∃ j', j = j' + 1 := ⟨j - 1, by omega⟩
      clear hbn HG2 HR4 HG4 HO4 HCL
      go_wp2
      go_roundw
      case rel => exact ⟨j', q + 1 + 1 + 1, n + 1, f + (1 + x), _, A2, c2, by omega, by go_num, rfl, by omega, by omega, rfl, hL2, by omega, HE2, HB5, HO5⟩
      case measure => simp [intOf]
    · obtain rfl : j = 0 := by omega
      clear hj
      by_cases hn : n = 0
      · subst hn
        have h0 : L = [] := List.eq_nil_of_length_eq_zero hL.out
        subst h0
        have HF := Lib.hid (show GaveT B a len cap k w0 w (.returned (.slice A' 0 c')) wr from ⟨[], A', c', by simp, rfl, SrAt.nil, ⟨q, by omega, HG.out⟩, HO.out⟩)
        clear hL HR HG HO
        go_wp2
        go_ret
        exact HF.out
      · obtain ⟨g, c2, he, hg1, hg2⟩ := ow_at HR.out (by omega)
        simp only [Value.slice.injEq, true_and] at he
        obtain ⟨rfl, rfl⟩ := he
        have hn' : (0 : Int) < n := by omega
        have HX := Lib.hid (has_next B a len cap q 5 w0 wr HG.out (by omega) (by omega) (by omega))
        clear HG
        go_wp2_with fail
        (with_reducible refine HX.out.mono ?_)
        rintro e w2 ⟨x, x0, x1, rfl, hg2', ho2⟩
        have HR2 := Lib.hid (row_past HR.out ho2 (by omega))
        have HO2 := Lib.hid (HO.out.trans ho2)
        have hg2s : g < w2.heap.size := Nat.lt_of_lt_of_le hg2 ho2.size
        have HG2 := Lib.hid hg2'
        clear hg2' ho2 HR HO hg2
        by_cases hx : x = 0
        · subst hx
          have HX := Lib.hid (has_next B a len cap (q + 1) n w0 w2 HG2.out (by omega) (by omega) (by omega))
          clear HG2
          go_wp2_with fail
          (with_reducible refine HX.out.mono ?_)
          rintro e w3 ⟨i, i0, i1, rfl, hg3, ho3⟩
          obtain ⟨ii, rfl⟩ := Int.eq_ofNat_of_zero_le i0
          have hi : ii < n := by omega
          have HR3 := Lib.hid (row_past HR2.out ho3 (by omega))
          have HO3 := Lib.hid (HO2.out.trans ho3)
          have hg3s : g < w3.heap.size := Nat.lt_of_lt_of_le hg2s ho3.size
          have HX := Lib.hid (has_next B a len cap (q + 1 + 1) 4 w0 w3 hg3 (by omega) (by omega) (by omega))
          clear hg3 ho3 HR2 HO2 hg2s i0 i1
          go_wp2_with fail
          (with_reducible refine HX.out.mono ?_)
          rintro e w4 ⟨y, y0, y1, rfl, hg4, ho4⟩
          have HR4 := Lib.hid (row_past HR3.out ho4 (by omega))
          have HO4 := Lib.hid (HO3.out.trans ho4)
          have HG4 := Lib.hid hg4
          have hg4s : g < w4.heap.size := Nat.lt_of_lt_of_le hg3s ho4.size
          clear hg4 ho4 HR3 HO3 hg3s
          have hiL : ii < L.length := by have := hL.out; omega
          have hB : B < w.heap.size := hB
          obtain ⟨c0, c1, c2⟩ : w4.cell? ⟨g, ii * 3, none⟩ = some (.int .i64 L[ii].f) ∧ w4.cell? ⟨g, ii * 3 + 1, none⟩ = some (.int .i64 L[ii].w) ∧ w4.cell? ⟨g, ii * 3 + 2, none⟩ = some (.int .i64 L[ii].s) := by
            obtain ⟨b1, off, e1, _, _, c0, c1, c2⟩ := (SrAt.own csT_len HR4.out hL.out.symm).tg hiL
            simp only [Option.some.injEq, Addr.mk.injEq, and_true] at e1
            obtain ⟨rfl, rfl⟩ := e1
            simp only [Nat.zero_add] at c0 c1 c2
            exact ⟨c0, c1, c2⟩
          have hgB : g ≠ B := by omega
          by_cases hy0 : y = 0
          · subst hy0
            have HX := Lib.hid (has_next B a len cap (q + 1 + 1 + 1) 3 w0 (w4.alloc (.cells #[.int .i64 (-1), .int .i64 0, .int .i64 32] 3)) (HG4.out.alloc _) (by omega) (by omega) (by omega))
            clear HG4
            go_wp2_with fail
            (with_reducible refine HX.out.mono ?_)
            rintro e w5 ⟨z, z0, z1, rfl, hg5, ho5⟩
            obtain ⟨zz, rfl⟩ := Int.eq_ofNat_of_zero_le z0
            obtain ⟨v, _, hc⟩ := pickN (L := [-1, 0, 32]) rfl ho5 (by have := HO4.out.size; omega) (n := zz) (by show zz < 3; omega)
            have ho45 := (Only.alloc B w4 (.cells #[.int .i64 (-1), .int .i64 0, .int .i64 32] 3)).trans ho5
            have k0 : w5.cell? ⟨g, ii * 3, none⟩ = some (.int .i64 L[ii].f) := (ho45.cell hg4s hgB).trans c0
            have HO5 := Lib.hid (HO4.out.trans ho45)
            have HR5 := Lib.hid (row_past HR4.out ho45 (by omega))
            have hg5s : g < w5.heap.size := Nat.lt_of_lt_of_le hg4s ho45.size
            have hfz := World.ownsRow.frozenAt HR5.out (ii * 3)
            have HF := Lib.hid (gave_set (k := k) (o := 0) HR5 hL (by omega) hg1 hB hg5 (by omega) HO5.out hg5s hi ⟨v, L[ii].w, L[ii].s⟩ (.int .i64 v) (by omega) (fun x hx => by rw [List.getElem?_eq_getElem hiL] at hx; cases hx; rfl))
            clear hg5 ho5 ho45 HR4 HO4 HR5 HO5 c0 c1 c2 hL
            go_wp2
            go_ret
            exact HF.out
          · by_cases hy1 : y = 1
            · subst hy1
              have HX := Lib.hid (has_next B a len cap (q + 1 + 1 + 1) 2 w0 (w4.alloc (.cells #[.int .i64 0, .int .i64 17] 3)) (HG4.out.alloc _) (by omega) (by omega) (by omega))
              clear HG4
              go_wp2_with fail
              (with_reducible refine HX.out.mono ?_)
              rintro e w5 ⟨z, z0, z1, rfl, hg5, ho5⟩
              obtain ⟨zz, rfl⟩ := Int.eq_ofNat_of_zero_le z0
              obtain ⟨v, _, hc⟩ := pickN (L := [0, 17]) rfl ho5 (by have := HO4.out.size; omega) (n := zz) (by show zz < 2; omega)
              have ho45 := (Only.alloc B w4 (.cells #[.int .i64 0, .int .i64 17] 3)).trans ho5
              have k0 : w5.cell? ⟨g, ii * 3 + 1, none⟩ = some (.int .i64 L[ii].w) := (ho45.cell hg4s hgB).trans c1
              have HO5 := Lib.hid (HO4.out.trans ho45)
              have HR5 := Lib.hid (row_past HR4.out ho45 (by omega))
              have hg5s : g < w5.heap.size := Nat.lt_of_lt_of_le hg4s ho45.size
              have hfz := World.ownsRow.frozenAt HR5.out (ii * 3 + 1)
              have HF := Lib.hid (gave_set (k := k) (o := 1) HR5 hL (by omega) hg1 hB hg5 (by omega) HO5.out hg5s hi ⟨L[ii].f, v, L[ii].s⟩ (.int .i64 v) (by omega) (fun x hx => by rw [List.getElem?_eq_getElem hiL] at hx; cases hx; rfl))
              clear hg5 ho5 ho45 HR4 HO4 HR5 HO5 c0 c1 c2 hL
              go_wp2
              go_ret
              exact HF.out
            · by_cases hy2 : y = 2
              · subst hy2
                have hfz := World.ownsRow.frozenAt HR4.out (ii * 3 + 2)
                have HF := Lib.hid (gave_set (k := k) (o := 2) HR4 hL (by omega) hg1 hB HG4.out (by omega) HO4.out hg4s hi ⟨L[ii].f, L[ii].w, -1⟩ (.int .i64 (-1)) (by omega) (fun x hx => by rw [List.getElem?_eq_getElem hiL] at hx; cases hx; rfl))
                clear HG4 HR4 HO4 c0 c1 hL
                go_wp2
                go_ret
                exact HF.out
              · have hy0' : (y == 0) = false := by simpa using hy0
                have hy1' : (y == 1) = false := by simpa using hy1
                have hy2' : (y == 2) = false := by simpa using hy2
                have HX := Lib.hid (has_next B a len cap (q + 1 + 1 + 1) 2 w0 w4 HG4.out (by omega) (by omega) (by omega))
                clear HG4
                go_wp2_with fail
                (with_reducible refine HX.out.mono ?_)
                rintro e w5 ⟨z, z0, z1, rfl, hg5, ho5⟩
                have k0 : w5.cell? ⟨g, ii * 3 + 2, none⟩ = some (.int .i64 L[ii].s) := (ho5.cell hg4s hgB).trans c2
                have HO5 := Lib.hid (HO4.out.trans ho5)
                have HR5 := Lib.hid (row_past HR4.out ho5 (by omega))
                have hg5s : g < w5.heap.size := Nat.lt_of_lt_of_le hg4s ho5.size
                have hw : IntKind.i64.wrap (1099511627776 + z) = 1099511627776 + z := IntWalk.i64_in _ (by omega)
                have hfz := World.ownsRow.frozenAt HR5.out (ii * 3 + 2)
                have HF := Lib.hid (gave_set (k := k) (o := 2) HR5 hL (by omega) hg1 hB hg5 (by omega) HO5.out hg5s hi ⟨L[ii].f, L[ii].w, 1099511627776 + z⟩ (.int .i64 (1099511627776 + z)) (by omega) (fun x hx => by rw [List.getElem?_eq_getElem hiL] at hx; cases hx; rfl))
                clear hg5 ho5 HR4 HO4 HR5 HO5 c0 c1 c2 hL
                go_wp2
                go_ret
                exact HF.out
        · have hx' : (0 : Int) < x := by omega
          have HF := Lib.hid (show GaveT B a len cap k w0 w (.returned (.slice (some ⟨g, 0, none⟩) n c')) w2 from ⟨L, _, c', by have := hL.out; omega, by rw [hL.out], SrAt.own csT_len HR2.out hL.out.symm, ⟨q + 1, by omega, HG2.out⟩, HO2.out⟩)
          clear HR2 HO2 HG2 hL
          go_wp2
          go_ret
          exact HF.out
end Go.Proofs.Ythmcdnomphmbiaa

