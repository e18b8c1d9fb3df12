/-
  Layer 17: contracts of the reference's Receive (in one) and Acks. Written by gen_rcref6.py.
-/
import Derived.Test.YthmncipenjhknaaRcRef5
import Derived.Test.YthmncipenjhknaaStW
namespace Go.Proofs.Ythmncipenjhknaa
open Go.ChangeShapes Go.WideShapes Go.ChangeAt Go.RowKit
set_option linter.unusedVariables false

theorem rrrcv_any {S : Nat} {s : RcS} (hn : s.l.length ≤ 29999) {base : Nat} (b q i : Int) :
    Acts 15 #[.pointer (some ⟨S, 0, none⟩), .int .i64 b, .int .i64 q, .int .i64 i] base (RrP S s) (fun v : Value => .tuple #[v, .int .i64 (rcRvE s b q i)]) fun v => Star (LsP csI 1 3 v (rcRvL s b q i)) (RrP S (s.rcv b q i)) := by
  by_cases hE : rcRvE s b q i = 0
  · have h := rrrcv_ok (S := S) hn (base := base) b q i hE
    have e1 : rcRvL s b q i = rcMo s (rcM s b) ++ rcMo (rcPut (rcMv s (rcM s b)) ⟨q, i⟩) (rcRn (rcPut (rcMv s (rcM s b)) ⟨q, i⟩)) := by unfold rcRvL; rw [if_pos hE]
    have e2 : s.rcv b q i = rcMv (rcPut (rcMv s (rcM s b)) ⟨q, i⟩) (rcRn (rcPut (rcMv s (rcM s b)) ⟨q, i⟩)) := by unfold RcS.rcv; rw [if_pos hE]
    rw [e1, e2, hE]
    exact h
  · have e1 : rcRvL s b q i = [] := by unfold rcRvL; rw [if_neg hE]
    have e2 : s.rcv b q i = s := by unfold RcS.rcv; rw [if_neg hE]
    rw [e1, e2]
    intro T w hP hb hs
    refine (rrrcv_no b q i hE hP).mono ?_
    rintro e w' ⟨e3, rfl⟩
    exact ⟨.slice none 0 0, e3, rr_none hP (Below.refl _ _)⟩
/-! ### Acks -/
theorem or_wd (x y : Int) : Wd (bits .or .u64 x y) := by
  show Wd (IntKind.u64.wrap ((BitVec.ofInt 64 x ||| BitVec.ofInt 64 y).toNat : Nat))
  rw [IntKind.wrap_u64]
  unfold Wd; omega
theorem stX_wd (b x q : Int) : Wd (stX b x q) := by
  unfold stX
  split
  · exact or_wd _ _
  · unfold Wd; omega
/-- The bitmap, number by number. -/
def rcAk (nx : Int) (l : List RcE) : Int × Int := l.foldl (fun m x => (stB m.1 x.q, stX m.1 m.2 x.q)) (nx, 0)
theorem rcAk_next (nx : Int) (l : List RcE) {k : Nat} (hk : k < l.length) : rcAk nx (l.take (k + 1)) = (stB (rcAk nx (l.take k)).1 l[k].q, stX (rcAk nx (l.take k)).1 (rcAk nx (l.take k)).2 l[k].q) := by
  unfold rcAk
  rw [List.take_succ_eq_append_getElem hk, List.foldl_append]; rfl
theorem rcAk_wd (nx : Int) (l : List RcE) : Wd (rcAk nx l).2 := by
  rcases List.eq_nil_or_concat l with rfl | ⟨m, x, rfl⟩
  · unfold Wd rcAk; simp
  · unfold rcAk
    rw [List.concat_eq_append, List.foldl_append]
    exact stX_wd _ _ _
set_option maxRecDepth 100000 in
set_option maxHeartbeats 8000000 in
theorem rracks_any {S : Nat} {s : RcS} {T : Nat → Prop} {w : World} (hn : s.l.length ≤ 99999) (h : RrP S s T w) : Calls Try.prog 35 #[.pointer (some ⟨S, 0, none⟩)] w (Calm (.agg #[.int .i64 (rcAk s.nx s.l).1, .int .u64 (rcAk s.nx s.l).2]) w) := by
  obtain ⟨h0, h1, h2, vL, h3, h4⟩ := h
  have d1 := h3.read 1
  have d2 := h3.read 2
  simp [rrC] at d1 d2
  have hSw := h1 S h2
  have HL := Lib.hid (fun k (hk : k < s.l.length) => h4.rc hk)
  obtain ⟨A, c, rfl, hcl, _⟩ := h4.shape
  clear h0 h1 h2 h3 h4
  obtain ⟨s1, nx, l⟩ := s
  simp only at hn d1 d2 HL hcl ⊢
  have HNX := Lib.hid (fun k (hk : k < l.length) => rcAk_next nx l hk)
  have HWD := Lib.hid (fun k => rcAk_wd nx (l.take k))
  have HEN := Lib.hid (show rcAk nx (l.take l.length) = rcAk nx l by rw [List.take_length])
  have HT0 := Lib.hid (show Two w ((w.alloc (.cells #[.int .i64 0, .int .u64 0] 49)).alloc (.cells #[.int .i64 nx, .int .u64 0] 49)) 49 #[.int .i64 0, .int .u64 0] #[.int .i64 (rcAk nx (l.take 0)).1, .int .u64 (rcAk nx (l.take 0)).2] from Two.first w _ _ _)
  have HCC := Lib.hid (fun (W : World) (hw : Below w.heap.size w W) => (hw.cell (p := ⟨S, 2, none⟩) hSw).trans d2)
  obtain ⟨n, hN⟩ : ∃ n, l.length = n := ⟨_, rfl⟩
  have HN := Lib.hid hN
  rw [hN] at HCC HEN
  have hnn : n ≤ 99999 := by omega
  clear hN hn hcl d2
  generalize rcAk nx l = R9 at *
  unfold Calm
  go_enter Try.func35, Try.ntmps35
  go_wp2_with fail
  go_loopw [4] (fun s4 wr => ∃ k : Nat, k ≤ n ∧ s4 = .int .i64 k ∧ Hid (Two w wr 49 #[.int .i64 0, .int .u64 0] #[.int .i64 (rcAk nx (l.take k)).1, .int .u64 (rcAk nx (l.take k)).2])) (fun s4 _ => n - (intOf s4).toNat)
  case atStart => exact ⟨0, Nat.zero_le _, rfl, HT0⟩
  case round =>
    obtain ⟨k, hk, rfl, HTW⟩ := hrel
    clear HT0
    have dd2 := HCC.out wr HTW.out.2.2
    by_cases hlt : k < n
    · have hlt' : (k : Int) < n := by omega
      have hk0 : (0 : Int) ≤ k := by omega
      have hkl : k < l.length := by have := HN.out; omega
      obtain ⟨bb, off, c', e1, _, _, hbw, q0, _⟩ := HL.out k hkl
      obtain ⟨rfl, rfl⟩ : A = some ⟨bb, off, none⟩ ∧ c = c' := by simpa using e1
      have hnx := HNX.out k hkl
      have hwd := HWD.out k
      obtain ⟨B, hB⟩ : ∃ B, (rcAk nx (l.take k)).1 = B := ⟨_, rfl⟩
      obtain ⟨X, hX⟩ : ∃ X, (rcAk nx (l.take k)).2 = X := ⟨_, rfl⟩
      rw [hB, hX] at hnx HTW
      rw [hX] at hwd
      generalize l[k].q = lq at *
      have HSE := Lib.hid (fun (W : World) (hw : Below wr.drew.heap.size wr.drew W) => refSet_any B X lq hwd W)
      obtain ⟨B2, hB2⟩ : ∃ B2, stB B lq = B2 := ⟨_, rfl⟩
      obtain ⟨X2, hX2⟩ : ∃ X2, stX B X lq = X2 := ⟨_, rfl⟩
      unfold StAns at HSE
      rw [hB2, hX2] at HSE hnx
      generalize stE B lq = E2 at *
      have HNX2 := Lib.hid hnx
      have HC4 := Lib.hid (fun (W : World) (hw : Below wr.drew.heap.size wr.drew W) => (by
        have h9 := HTW.out.later ((Below.refl _ wr).drew.trans hw)
        obtain ⟨_, _, g2, g3, _⟩ := h9.cells
        exact ⟨g2, g3, HCC.out W h9.2.2, (h9.2.2.cell (p := ⟨bb, off + k * 2, none⟩) hbw).trans q0⟩ :
        W.cell? ⟨w.heap.size + 1, 0, none⟩ = some (.int .i64 B) ∧ W.cell? ⟨w.heap.size + 1, 1, none⟩ = some (.int .u64 X) ∧ W.cell? ⟨S, 2, none⟩ = some (.slice (some ⟨bb, off, none⟩) n c) ∧ W.cell? ⟨bb, off + k * 2, none⟩ = some (.int .i64 lq)))
      have HZ4 := Lib.hid (fun (W : World) (hw : Below wr.drew.heap.size wr.drew W) => (by
        have h9 := HTW.out.later ((Below.refl _ wr).drew.trans hw)
        obtain ⟨_, _, _, _, _, _, g2, g3⟩ := h9.cells
        exact ⟨g2, g3⟩ : W.frozen? ⟨w.heap.size + 1, 0, none⟩ = false ∧ W.frozen? ⟨w.heap.size + 1, 1, none⟩ = false))
      clear HL HNX HWD HEN e1 q0 hnx hB hX hB2 hX2 hwd HN
      go_wp2_with fail
      refine wp_region_looseS 33 (by kernel_rfl) (by kernel_rfl) (StW wr.drew (fun vI => [.agg #[.int .i64 B, .int .u64 X], .pointer (some ⟨S, 0, none⟩), .pointer (some ⟨S, 0, none⟩), .pointer (some ⟨S, 2, none⟩), .slice (some ⟨bb, off, none⟩) n c, .int .i64 (k : Nat), .pointer (some ⟨bb, off + k * 2, none⟩), .pointer (some ⟨bb, off + k * 2, none⟩), .int .i64 lq, .tuple #[.agg #[.int .i64 B2, .int .u64 X2], .int .i64 E2], .tuple #[.agg #[.int .i64 B2, .int .u64 X2], .int .i64 E2], .agg #[.int .i64 B2, .int .u64 X2], .int .i64 E2, undef].getD vI undef) 13 (fun u => (u.setCell ⟨w.heap.size + 1, 0, none⟩ (.int .i64 B2)).setCell ⟨w.heap.size + 1, 1, none⟩ (.int .u64 X2))) rfl StW.start ?_ ?_
      · simp only [OblAllS]
        refine ⟨?_, ?_, ?_, ?_, ?_, ?_, ?_, ?_, ?_, ?_, ?_, ?_, ?_, ?_, trivial⟩
        · intro L wx vals hi hu hcl hC
          simp [ClosedL, UpL, predL, predE, Region.binds] at hcl
          have hst : L 13 = false := by clear hC; cases h : L 13 with | false => rfl | true => exfalso; simp_all
          have h0 := (HC4.out wx (hC.a hst)).1
          have h1 := (HC4.out wx (hC.a hst)).2.1
          have HCx := Lib.hid hC
          clear hC hcl hu hi
          simp only [fillA, if_true, Act.put]
          simp
          go_wp2
          exact ⟨rfl, HCx.out.quiet 0 (by decide) rfl⟩
        · intro L wx vals hi hu hcl hC
          simp [ClosedL, UpL, predL, predE, Region.binds] at hcl
          have hst : L 13 = false := by clear hC; cases h : L 13 with | false => rfl | true => exfalso; simp_all
          have HCx := Lib.hid hC
          clear hC hcl hu hi
          simp only [fillA, if_true, Act.put]
          simp
          go_wp2
          exact ⟨rfl, HCx.out.quiet 1 (by decide) rfl⟩
        · intro L wx vals hi hu hcl hC
          simp [ClosedL, UpL, predL, predE, Region.binds] at hcl
          have hst : L 13 = false := by clear hC; cases h : L 13 with | false => rfl | true => exfalso; simp_all
          simp [predL, predE, Region.binds, UpL] at hu
          have e1 : vals 1 = .pointer (some ⟨S, 0, none⟩) := hC.v 1 (by decide) (by simp [hu])
          have HCx := Lib.hid hC
          clear hC hcl hu hi
          simp only [fillA, if_true, Act.put]
          simp
          simp only [e1]
          clear e1
          go_wp2
          exact ⟨rfl, HCx.out.quiet 2 (by decide) rfl⟩
        · intro L wx vals hi hu hcl hC
          simp [ClosedL, UpL, predL, predE, Region.binds] at hcl
          have hst : L 13 = false := by clear hC; cases h : L 13 with | false => rfl | true => exfalso; simp_all
          simp [predL, predE, Region.binds, UpL] at hu
          have e2 : vals 2 = .pointer (some ⟨S, 0, none⟩) := hC.v 2 (by decide) (by simp [hu])
          have HCx := Lib.hid hC
          clear hC hcl hu hi
          simp only [fillA, if_true, Act.put]
          simp
          simp only [e2]
          clear e2
          go_wp2
          exact ⟨rfl, HCx.out.quiet 3 (by decide) rfl⟩
        · intro L wx vals hi hu hcl hC
          simp [ClosedL, UpL, predL, predE, Region.binds] at hcl
          have hst : L 13 = false := by clear hC; cases h : L 13 with | false => rfl | true => exfalso; simp_all
          simp [predL, predE, Region.binds, UpL] at hu
          have e3 : vals 3 = .pointer (some ⟨S, 2, none⟩) := hC.v 3 (by decide) (by simp [hu])
          have h0 := (HC4.out wx (hC.a hst)).2.2.1
          have HCx := Lib.hid hC
          clear hC hcl hu hi
          simp only [fillA, if_true, Act.put]
          simp
          simp only [e3]
          clear e3
          go_wp2
          exact ⟨rfl, HCx.out.quiet 4 (by decide) rfl⟩
        · intro L wx vals hi hu hcl hC
          simp [ClosedL, UpL, predL, predE, Region.binds] at hcl
          have hst : L 13 = false := by clear hC; cases h : L 13 with | false => rfl | true => exfalso; simp_all
          have HCx := Lib.hid hC
          clear hC hcl hu hi
          simp only [fillA, if_true, Act.put]
          simp
          go_wp2
          exact ⟨rfl, HCx.out.quiet 5 (by decide) rfl⟩
        · intro L wx vals hi hu hcl hC
          simp [ClosedL, UpL, predL, predE, Region.binds] at hcl
          have hst : L 13 = false := by clear hC; cases h : L 13 with | false => rfl | true => exfalso; simp_all
          simp [predL, predE, Region.binds, UpL] at hu
          have e4 : vals 4 = .slice (some ⟨bb, off, none⟩) n c := hC.v 4 (by decide) (by simp [hu])
          have e5 : vals 5 = .int .i64 (k : Nat) := hC.v 5 (by decide) (by simp [hu])
          have HCx := Lib.hid hC
          clear hC hcl hu hi
          simp only [fillA, if_true, Act.put]
          simp
          simp only [e4, e5]
          clear e4 e5
          go_wp2
          exact ⟨rfl, HCx.out.quiet 6 (by decide) rfl⟩
        · intro L wx vals hi hu hcl hC
          simp [ClosedL, UpL, predL, predE, Region.binds] at hcl
          have hst : L 13 = false := by clear hC; cases h : L 13 with | false => rfl | true => exfalso; simp_all
          simp [predL, predE, Region.binds, UpL] at hu
          have e6 : vals 6 = .pointer (some ⟨bb, off + k * 2, none⟩) := hC.v 6 (by decide) (by simp [hu])
          have HCx := Lib.hid hC
          clear hC hcl hu hi
          simp only [fillA, if_true, Act.put]
          simp
          simp only [e6]
          clear e6
          go_wp2
          exact ⟨rfl, HCx.out.quiet 7 (by decide) rfl⟩
        · intro L wx vals hi hu hcl hC
          simp [ClosedL, UpL, predL, predE, Region.binds] at hcl
          have hst : L 13 = false := by clear hC; cases h : L 13 with | false => rfl | true => exfalso; simp_all
          simp [predL, predE, Region.binds, UpL] at hu
          have e7 : vals 7 = .pointer (some ⟨bb, off + k * 2, none⟩) := hC.v 7 (by decide) (by simp [hu])
          have h0 := (HC4.out wx (hC.a hst)).2.2.2
          have HCx := Lib.hid hC
          clear hC hcl hu hi
          simp only [fillA, if_true, Act.put]
          simp
          simp only [e7]
          clear e7
          go_wp2
          exact ⟨rfl, HCx.out.quiet 8 (by decide) rfl⟩
        · intro L wx vals hi hu hcl hC
          simp [ClosedL, UpL, predL, predE, Region.binds] at hcl
          have hst : L 13 = false := by clear hC; cases h : L 13 with | false => rfl | true => exfalso; simp_all
          simp [predL, predE, Region.binds, UpL] at hu
          have e0 : vals 0 = .agg #[.int .i64 B, .int .u64 X] := hC.v 0 (by decide) (by simp [hu])
          have e8 : vals 8 = .int .i64 lq := hC.v 8 (by decide) (by simp [hu])
          have HL := Lib.hid (HSE.out wx (hC.a hst))
          have HCx := Lib.hid hC
          clear hC hcl hu hi
          simp only [fillA, if_true, Act.put]
          simp
          simp only [e0, e8]
          clear e0 e8
          go_wp2_with fail
          (with_reducible refine HL.out.mono ?_); rintro e w9 ⟨rfl, hb⟩
          have HX := Lib.hid (HCx.out.step 9 hst (by decide) (x := .tuple #[.agg #[.int .i64 B2, .int .u64 X2], .int .i64 E2]) rfl ((HCx.out.a hst).trans (hb.mono (HCx.out.a hst).size)))
          clear hb
          go_wp2
          exact ⟨rfl, HX.out⟩
        · intro L wx vals hi hu hcl hC
          simp [ClosedL, UpL, predL, predE, Region.binds] at hcl
          have hst : L 13 = false := by clear hC; cases h : L 13 with | false => rfl | true => exfalso; simp_all
          simp [predL, predE, Region.binds, UpL] at hu
          have e9 : vals 9 = .tuple #[.agg #[.int .i64 B2, .int .u64 X2], .int .i64 E2] := hC.v 9 (by decide) (by simp [hu])
          have HCx := Lib.hid hC
          clear hC hcl hu hi
          simp only [fillA, if_true, Act.put]
          simp
          simp only [e9]
          clear e9
          go_wp2
          exact ⟨rfl, HCx.out.quiet 10 (by decide) rfl⟩
        · intro L wx vals hi hu hcl hC
          simp [ClosedL, UpL, predL, predE, Region.binds] at hcl
          have hst : L 13 = false := by clear hC; cases h : L 13 with | false => rfl | true => exfalso; simp_all
          simp [predL, predE, Region.binds, UpL] at hu
          have e10 : vals 10 = .tuple #[.agg #[.int .i64 B2, .int .u64 X2], .int .i64 E2] := hC.v 10 (by decide) (by simp [hu])
          have HCx := Lib.hid hC
          clear hC hcl hu hi
          simp only [fillA, if_true, Act.put]
          simp
          simp only [e10]
          clear e10
          go_wp2
          exact ⟨rfl, HCx.out.quiet 11 (by decide) rfl⟩
        · intro L wx vals hi hu hcl hC
          simp [ClosedL, UpL, predL, predE, Region.binds] at hcl
          simp [predL, predE, Region.binds, UpL] at hu
          have e10 : vals 10 = .tuple #[.agg #[.int .i64 B2, .int .u64 X2], .int .i64 E2] := hC.v 10 (by decide) (by simp [hu])
          have HCx := Lib.hid hC
          clear hC hcl hu hi
          simp only [fillA, if_true, Act.put]
          simp
          simp only [e10]
          clear e10
          go_wp2
          exact ⟨rfl, HCx.out.quiet 12 (by decide) rfl⟩
        · intro L wx vals hi hu hcl hC
          simp [ClosedL, UpL, predL, predE, Region.binds] at hcl
          have hst : L 13 = false := hi
          simp [predL, predE, Region.binds, UpL] at hu
          have e11 : vals 11 = .agg #[.int .i64 B2, .int .u64 X2] := hC.v 11 (by decide) (by simp [hu])
          have HCx := Lib.hid hC
          clear hC hcl hu hi
          simp only [fillA, if_true, Act.put]
          simp
          simp only [e11]
          clear e11
          have HM := Lib.hid (HCx.out.write hst (x := undef))
          have hcx := HC4.out wx (HCx.out.a hst)
          obtain ⟨x0, x1, _, _⟩ := hcx
          have hz := HZ4.out wx (HCx.out.a hst)
          obtain ⟨y0, y1⟩ := hz
          go_wp2
          exact ⟨rfl, HM.out⟩
      · intro wz vals U hC hall
        obtain ⟨u, hbu, hwz⟩ := hC.b (hall 13 (by simp))
        have HT2 := Lib.hid (show Two w wz 49 #[.int .i64 0, .int .u64 0] #[.int .i64 (rcAk nx (l.take (k + 1))).1, .int .u64 (rcAk nx (l.take (k + 1))).2] by
          rw [hwz, HNX2.out]
          exact ((HTW.out.later ((Below.refl _ wr).drew.trans hbu)).res 0 (.int .i64 B2)).res 1 (.int .u64 X2))
        simp only [fillA, if_true, Act.put]
        simp
        clear hC hall hwz hbu HTW HC4 HZ4 HSE
        generalize vals 0 = t_0 at *
        generalize vals 1 = t_1 at *
        generalize vals 2 = t_2 at *
        generalize vals 3 = t_3 at *
        generalize vals 4 = t_4 at *
        generalize vals 5 = t_5 at *
        generalize vals 6 = t_6 at *
        generalize vals 7 = t_7 at *
        generalize vals 8 = t_8 at *
        generalize vals 9 = t_9 at *
        generalize vals 10 = t_10 at *
        generalize vals 11 = t_11 at *
        generalize vals 12 = t_12 at *
        generalize vals 13 = t_13 at *
        go_wp2
        go_roundw
        case rel => exact ⟨k + 1, by omega, by go_num, HT2⟩
        case measure => simp [intOf]; omega
    · obtain rfl : k = n := by omega
      have h9 := HTW.out
      rw [HEN.out] at h9
      obtain ⟨x0, x1, x2, x3, y0, y1, y2, y3⟩ := h9.cells
      have h10 := (h9.arg 0 (.int .i64 R9.1)).arg 1 (.int .u64 R9.2)
      have HF := Lib.hid h10
      clear HL HNX HWD HEN HTW h9
      go_wp2
      obtain ⟨k0, k1, _⟩ := HF.out.cells
      try simp at k0 k1
      exact bodyPost_ret (v := .agg #[.int .i64 R9.1, .int .u64 R9.2]) (by simp [results, Try.results35, go_sem, k0, k1]) rfl ⟨rfl, HF.out.2.2⟩
end Go.Proofs.Ythmncipenjhknaa

