/-
  Layer 17: the walk of the statement on errors (ReceiverErrors). Every input; no condition. Written by gen_rcwalk3.py.
-/
import Derived.Test.YthmncipenjhknaaRcSame
namespace Go.Proofs.Ythmncipenjhknaa
open Go.ChangeShapes Go.WideShapes Go.ChangeAt Go.RowKit
set_option linter.unusedVariables false

theorem rvl_len (s : RcS) (b q i : Int) : (rcRvL s b q i).length ≤ 65536 + s.l.length + 1 := by
  unfold rcRvL
  split
  · have h1 := rcMo_len s (rcM s b)
    have h2 := rcMo_len (rcPut (rcMv s (rcM s b)) ⟨q, i⟩) (rcRn (rcPut (rcMv s (rcM s b)) ⟨q, i⟩))
    have h3 := rcRn_le (rcPut (rcMv s (rcM s b)) ⟨q, i⟩)
    have h4 := rcPut_len (rcMv s (rcM s b)) ⟨q, i⟩
    have h5 := rcMv_len s (rcM s b)
    have h6 := rcM_le (s := s) (b := b)
    simp only [List.length_append]
    omega
  · simp
theorem skl_len (s : RcS) (b : Int) : (rcSkL s b).length ≤ 65536 + s.l.length := by
  unfold rcSkL
  split
  · have h1 := rcMo_len s (rcM s b)
    have h2 := rcMo_len (rcMv s (rcM s b)) (rcRn (rcMv s (rcM s b)))
    have h3 := rcRn_le (rcMv s (rcM s b))
    have h5 := rcMv_len s (rcM s b)
    have h6 := rcM_le (s := s) (b := b)
    simp only [List.length_append]
    omega
  · simp
set_option maxRecDepth 100000 in
set_option maxHeartbeats 16000000 in
theorem walkErrors17 (A : Option Addr) (len cap : Nat) (b q i : Int) (w : World) (he : Elems w.heap.size A len w) :
    Calls Try.prog 5 #[.slice A len cap, .int .i64 b, .int .i64 q, .int .i64 i] w (Calm (.bool true) w) := by
  have h0 := GenP.new (w0 := w) (cap := cap) he (Below.refl _ _) he
  have HX := Lib.hid (h0.emp.call ((prnew_any (wi := 4) (by decide)).star GenP.frm))
  have HAW := Lib.hid (fun w => awake17_any w)
  clear h0 he
  unfold Calm at *
  go_enter Try.func5, Try.ntmps5
  go_wp2_with fail
  (with_reducible refine (new_any A len cap _).mono ?_); rintro e w' ⟨rfl, rfl⟩
  go_wp2_with fail
  (with_reducible refine HX.out.mono ?_); rintro e w1 ⟨R, rfl, h1⟩
  have HX := Lib.hid (h1.emp.call ((rrnew_any (wi := 4) (by decide)).star (RcP.frm.star GenP.frm)))
  clear h1
  go_wp2_with fail
  (with_reducible refine HX.out.mono ?_); rintro e w2 ⟨S, rfl, h1⟩
  have HI := Lib.hid (show Inv w.heap.size w (RcE2 w.heap.size w.heap.size A len cap R S 0 (RcS.new 4) (RcS.new 4)) w2 from h1)
  clear h1 HX
  go_wp2_with fail
  go_loopw [14] (fun s14 wr => ∃ (k q' : Nat) (s : RcS), k ≤ 5 ∧ s14 = .int .i64 k ∧ q' ≤ k ∧ Hid (s.l.length ≤ k) ∧ Hid (Inv w.heap.size w (RcE2 w.heap.size w.heap.size A len cap R S q' s s) wr)) (fun s14 _ => 5 - (intOf s14).toNat)
  case atStart => exact ⟨0, 0, _, by omega, rfl, by omega, Lib.hid (by simp [RcS.new]), HI⟩
  case round =>
    obtain ⟨k, q', s, hk, rfl, hq', HL, HS⟩ := hrel
    clear HI
    have HX := Lib.hid (RcE2.nx1 HS.out (n := 5) (by omega) (by omega) (by omega))
    clear HS
    go_wp2_with fail
    (with_reducible refine HX.out.mono ?_); rintro e w3 ⟨r, r0, r1, rfl, h1⟩
    have hsl0 : s.l.length ≤ 5 := by have := HL.out; omega
    by_cases hlt : (k : Int) < r
    · have wa : IntKind.i64.wrap ((k : Int) + 2) = (k : Int) + 2 := IntWalk.i64_in _ (by omega)
      have wb : IntKind.i64.wrap ((k : Int) + 1) = (k : Int) + 1 := IntWalk.i64_in _ (by omega)
      have HX := Lib.hid (Inv.call h1 (RcE2.prcv (by omega) (k : Int) ((k : Int) + 2) ((k : Int) + 1)))
      have HL2 := Lib.hid (show (s.rcv (k : Int) ((k : Int) + 2) ((k : Int) + 1)).l.length ≤ k + 1 by have := HL.out; have := rcv_len s (k : Int) ((k : Int) + 2) ((k : Int) + 1); omega)
      clear h1 HL
      go_wp2_with fail
      (with_reducible refine HX.out.mono ?_); rintro e w4 ⟨v1, rfl, h1⟩
      have HX := Lib.hid (Inv.call h1.drop (RcE2.rrcv (by omega) (k : Int) ((k : Int) + 2) ((k : Int) + 1)))
      clear h1
      go_wp2_with fail
      (with_reducible refine HX.out.mono ?_); rintro e w5 ⟨v2, rfl, h1⟩
      have HF := Lib.hid h1.drop
      clear h1 HX
      go_wp2
      go_roundw
      case rel => exact ⟨k + 1, q' + 1, _, by omega, by go_num, by omega, HL2, HF⟩
      case measure => simp [intOf]; omega
    · obtain ⟨T9, hp9⟩ := RcE2.pget h1
      obtain ⟨a1, ha1⟩ : ∃ a1, (rcAk s.nx s.l).1 = a1 := ⟨_, rfl⟩
      obtain ⟨a2, ha2⟩ : ∃ a2, (rcAk s.nx s.l).2 = a2 := ⟨_, rfl⟩
      have hx := Inv.calm h1 RcE2.frm (pracks_any (by omega) hp9)
      rw [ha1, ha2] at hx
      have HX := Lib.hid hx
      clear h1 hx hp9
      go_wp2_with fail
      (with_reducible refine HX.out.mono ?_); rintro e w4 ⟨rfl, h1⟩
      have h2 := h1.box RcE2.frm 49 #[.int .i64 a1, .int .u64 a2]
      have HX := Lib.hid (Inv.call h2 (Acts.right BoxP.frm (RcE2.prcv (by omega) b q i)))
      clear h1 h2
      go_wp2_with fail
      (with_reducible refine HX.out.mono ?_); rintro e w5 ⟨v1, rfl, h1⟩
      have h2 := h1.imp fun T => Star.pick2
      have HX := Lib.hid (Inv.call h2 (Acts.right LsP.frm (Acts.right BoxP.frm (RcE2.rrcv (by omega) b q i))))
      clear h1 h2
      go_wp2_with fail
      (with_reducible refine HX.out.mono ?_); rintro e wy ⟨v2, rfl, h1⟩
      obtain ⟨g, hg⟩ : ∃ g, w4.heap.size = g := ⟨_, rfl⟩
      rw [hg] at h1 ⊢
      have HI9 := Lib.hid (h1.imp fun T => Star.pick3)
      clear h1 HX hg
      have hvl := rvl_len s b q i
      have hrl := rcv_len s b q i
      have hne0 : rcRvE s b q i ≠ 0 → s.rcv b q i = s := fun h => by unfold RcS.rcv; rw [if_neg h]
      obtain ⟨er, he9⟩ : ∃ er, rcRvE s b q i = er := ⟨_, rfl⟩
      obtain ⟨s2, hs2⟩ : ∃ s2, s.rcv b q i = s2 := ⟨_, rfl⟩
      rw [he9]
      rw [he9, hs2] at hne0
      rw [hs2] at HI9 hrl
      have HFR := Lib.hid (fun (W : World) (hw : Below wy.drew.heap.size wy.drew W) => HI9.out.step (LsP.frm.star (LsP.frm.star (BoxP.frm.star RcE2.frm))) ((Below.refl _ wy).drew.trans hw))
      have HEQ := Lib.hid (fun (W : World) (hw : Below wy.drew.heap.size wy.drew W) => eqI_any (l := rcRvL s b q i) (by omega) (LsP.any (HFR.out W hw).drop) (LsP.any (HFR.out W hw)))
      have hee : (er != er) = false := by simp
      have hlt' : r ≤ (k : Int) := by omega
      clear he9 hs2 hlt HL
      unfold Calm at HEQ
      by_cases h9 : er = 0
      · have h90 : (er != 0) = false := by simpa using h9
        clear HFR hne0
        subst h9
        go_wp2_with fail
        refine wp_region_looseS 127 (by kernel_rfl) (by kernel_rfl) (StB wy.drew (fun vI => [.int .i64 0, .int .i64 0, .bool false, .bool false, v1, v2, .bool true, .bool false, .bool false, .bool false, .int .i64 0, .bool false, .bool false, undef, undef, undef, undef, .bool false, .bool false].getD vI undef)) rfl StB.start ?_ ?_
        · simp only [OblAllS]
          refine ⟨?_, ?_, ?_, ?_, ?_, ?_, ?_, ?_, ?_, ?_, ?_, ?_, ?_, ?_, ?_, ?_, ?_, ?_, ?_, trivial⟩
          · intro L wx vals hi hu hcl hC
            have HCx := Lib.hid hC
            clear hC hcl hu hi
            simp only [fillA, if_true, Act.put]
            simp
            go_wp2
            exact ⟨rfl, HCx.out.quiet 0 rfl⟩
          · intro L wx vals hi hu hcl hC
            have HCx := Lib.hid hC
            clear hC hcl hu hi
            simp only [fillA, if_true, Act.put]
            simp
            go_wp2
            exact ⟨rfl, HCx.out.quiet 1 rfl⟩
          · intro L wx vals hi hu hcl hC
            simp [predL, predE, Region.binds, UpL] at hu
            have e0 : vals 0 = .int .i64 0 := hC.v 0 (by simp [hu])
            have e1 : vals 1 = .int .i64 0 := hC.v 1 (by simp [hu])
            have HCx := Lib.hid hC
            clear hC hcl hu hi
            simp only [fillA, if_true, Act.put]
            simp
            simp only [e0, e1]
            clear e0 e1
            go_wp2
            exact ⟨rfl, HCx.out.quiet 2 rfl⟩
          · intro L wx vals hi hu hcl hC
            simp [predL, predE, Region.binds, UpL] at hu
            have e2 : vals 2 = .bool false := hC.v 2 (by simp [hu])
            have HCx := Lib.hid hC
            clear hC hcl hu hi
            simp only [fillA, if_true, Act.put]
            simp
            simp only [e2]
            clear e2
            go_wp2
            exact ⟨rfl, HCx.out.quiet 3 rfl⟩
          · intro L wx vals hi hu hcl hC
            simp [predL, predE, Region.binds, UpL] at hu
            have e3 : vals 3 = .bool false := hC.v 3 (by simp [hu])
            have HCx := Lib.hid hC
            clear hC hcl hu hi
            simp only [fillA, if_true, Act.put]
            simp
            simp only [e3]
            clear e3
            go_wp2
            exact ⟨rfl, HCx.out.quiet 4 rfl⟩
          · intro L wx vals hi hu hcl hC
            simp [predL, predE, Region.binds, UpL] at hu
            have e3 : vals 3 = .bool false := hC.v 3 (by simp [hu])
            have HCx := Lib.hid hC
            clear hC hcl hu hi
            simp only [fillA, if_true, Act.put]
            simp
            simp only [e3]
            clear e3
            go_wp2
            exact ⟨rfl, HCx.out.quiet 5 rfl⟩
          · intro L wx vals hi hu hcl hC
            simp [predL, predE, Region.binds, UpL] at hu
            have e3 : vals 3 = .bool false := hC.v 3 (by simp [hu])
            have e4 : vals 4 = v1 := hC.v 4 (by simp [hu])
            have e5 : vals 5 = v2 := hC.v 5 (by simp [hu])
            have HL := Lib.hid (HEQ.out wx hC.b)
            have HCx := Lib.hid hC
            clear hC hcl hu hi
            simp only [fillA, if_true, Act.put]
            simp
            simp only [e3, e4, e5]
            clear e3 e4 e5
            go_wp2_with fail
            (with_reducible refine HL.out.mono ?_); rintro e w9 ⟨rfl, hb⟩
            have HX := Lib.hid (HCx.out.step 6 (x := .bool true) rfl (HCx.out.b.trans (hb.mono HCx.out.b.size)))
            clear hb
            go_wp2
            exact ⟨rfl, HX.out⟩
          · intro L wx vals hi hu hcl hC
            simp [predL, predE, Region.binds, UpL] at hu
            have e3 : vals 3 = .bool false := hC.v 3 (by simp [hu])
            have e6 : vals 6 = .bool true := hC.v 6 (by simp [hu])
            have HCx := Lib.hid hC
            clear hC hcl hu hi
            simp only [fillA, if_true, Act.put]
            simp
            simp only [e3, e6]
            clear e3 e6
            go_wp2
            exact ⟨rfl, HCx.out.quiet 7 rfl⟩
          · intro L wx vals hi hu hcl hC
            simp [predL, predE, Region.binds, UpL] at hu
            have e3 : vals 3 = .bool false := hC.v 3 (by simp [hu])
            have e7 : vals 7 = .bool false := hC.v 7 (by simp [hu])
            have HCx := Lib.hid hC
            clear hC hcl hu hi
            simp only [fillA, if_true, Act.put]
            simp
            simp only [e3, e7]
            clear e3 e7
            go_wp2
            exact ⟨rfl, HCx.out.quiet 8 rfl⟩
          · intro L wx vals hi hu hcl hC
            simp [predL, predE, Region.binds, UpL] at hu
            have e8 : vals 8 = .bool false := hC.v 8 (by simp [hu])
            have HCx := Lib.hid hC
            clear hC hcl hu hi
            simp only [fillA, if_true, Act.put]
            simp
            simp only [e8]
            clear e8
            go_wp2
            exact ⟨rfl, HCx.out.quiet 9 rfl⟩
          · intro L wx vals hi hu hcl hC
            simp [predL, predE, Region.binds, UpL] at hu
            have e9 : vals 9 = .bool false := hC.v 9 (by simp [hu])
            have HCx := Lib.hid hC
            clear hC hcl hu hi
            simp only [fillA, if_true, Act.put]
            simp
            simp only [e9]
            clear e9
            go_wp2
            exact ⟨rfl, HCx.out.quiet 10 rfl⟩
          · intro L wx vals hi hu hcl hC
            simp [predL, predE, Region.binds, UpL] at hu
            have e9 : vals 9 = .bool false := hC.v 9 (by simp [hu])
            have e10 : vals 10 = .int .i64 0 := hC.v 10 (by simp [hu])
            have HCx := Lib.hid hC
            clear hC hcl hu hi
            simp only [fillA, if_true, Act.put]
            simp
            simp only [e9, e10]
            clear e9 e10
            go_wp2
            exact ⟨rfl, HCx.out.quiet 11 rfl⟩
          · intro L wx vals hi hu hcl hC
            simp [predL, predE, Region.binds, UpL] at hu
            have e9 : vals 9 = .bool false := hC.v 9 (by simp [hu])
            have e11 : vals 11 = .bool false := hC.v 11 (by simp [hu])
            have HCx := Lib.hid hC
            clear hC hcl hu hi
            simp only [fillA, if_true, Act.put]
            simp
            simp only [e9, e11]
            clear e9 e11
            go_wp2
            exact ⟨rfl, HCx.out.quiet 12 rfl⟩
          · intro L wx vals hi hu hcl hC
            simp [predL, predE, Region.binds, UpL] at hu
            have e12 : vals 12 = .bool false := hC.v 12 (by simp [hu])
            have HCx := Lib.hid hC
            clear hC hcl hu hi
            simp only [fillA, if_true, Act.put]
            simp
            simp only [e12]
            clear e12
            go_wp2
            exact ⟨rfl, HCx.out.quiet 13 rfl⟩
          · intro L wx vals hi hu hcl hC
            simp [predL, predE, Region.binds, UpL] at hu
            have e12 : vals 12 = .bool false := hC.v 12 (by simp [hu])
            have HCx := Lib.hid hC
            clear hC hcl hu hi
            simp only [fillA, if_true, Act.put]
            simp
            simp only [e12]
            clear e12
            go_wp2
            exact ⟨rfl, HCx.out.quiet 14 rfl⟩
          · intro L wx vals hi hu hcl hC
            simp [predL, predE, Region.binds, UpL] at hu
            have e12 : vals 12 = .bool false := hC.v 12 (by simp [hu])
            have HCx := Lib.hid hC
            clear hC hcl hu hi
            simp only [fillA, if_true, Act.put]
            simp
            simp only [e12]
            clear e12
            go_wp2
            exact ⟨rfl, HCx.out.quiet 15 rfl⟩
          · intro L wx vals hi hu hcl hC
            simp [predL, predE, Region.binds, UpL] at hu
            have e12 : vals 12 = .bool false := hC.v 12 (by simp [hu])
            have HCx := Lib.hid hC
            clear hC hcl hu hi
            simp only [fillA, if_true, Act.put]
            simp
            simp only [e12]
            clear e12
            go_wp2
            exact ⟨rfl, HCx.out.quiet 16 rfl⟩
          · intro L wx vals hi hu hcl hC
            simp [predL, predE, Region.binds, UpL] at hu
            have e9 : vals 9 = .bool false := hC.v 9 (by simp [hu])
            have e12 : vals 12 = .bool false := hC.v 12 (by simp [hu])
            have e16 : vals 16 = undef := hC.v 16 (by simp [hu])
            have HCx := Lib.hid hC
            clear hC hcl hu hi
            simp only [fillA, if_true, Act.put]
            simp
            simp only [e9, e12, e16]
            clear e9 e12 e16
            go_wp2
            exact ⟨rfl, HCx.out.quiet 17 rfl⟩
          · intro L wx vals hi hu hcl hC
            simp [predL, predE, Region.binds, UpL] at hu
            have e9 : vals 9 = .bool false := hC.v 9 (by simp [hu])
            have e17 : vals 17 = .bool false := hC.v 17 (by simp [hu])
            have HCx := Lib.hid hC
            clear hC hcl hu hi
            simp only [fillA, if_true, Act.put]
            simp
            simp only [e9, e17]
            clear e9 e17
            go_wp2
            exact ⟨rfl, HCx.out.quiet 18 rfl⟩
        · intro wz vals U hC hall
          have e18 : vals 18 = .bool false := hC.v 18 (hall 18 (by simp))
          have HSK := Lib.hid (HI9.out.drop.drop.drop.step RcE2.frm ((Below.refl _ wy).drew.trans hC.b))
          simp only [fillA, if_true, Act.put]
          simp
          simp only [e18]
          clear hC hall e18 HEQ
          generalize vals 0 = t_0 at *
          generalize vals 1 = t_1 at *
          generalize vals 2 = t_2 at *
          generalize vals 3 = t_3 at *
          generalize vals 4 = t_4 at *
          generalize vals 5 = t_5 at *
          generalize vals 6 = t_6 at *
          generalize vals 7 = t_7 at *
          generalize vals 8 = t_8 at *
          generalize vals 9 = t_9 at *
          generalize vals 10 = t_10 at *
          generalize vals 11 = t_11 at *
          generalize vals 12 = t_12 at *
          generalize vals 13 = t_13 at *
          generalize vals 14 = t_14 at *
          generalize vals 15 = t_15 at *
          generalize vals 16 = t_16 at *
          generalize vals 17 = t_17 at *
          have HX := Lib.hid (Inv.call HSK.out (RcE2.pskp (by omega) b))
          clear HSK HI9
          go_wp2_with fail
          (with_reducible refine HX.out.mono ?_); rintro e w7 ⟨v3, rfl, h1⟩
          have HX := Lib.hid (Inv.call h1 (Acts.right LsP.frm (RcE2.rskp (by omega) b)))
          clear h1
          go_wp2_with fail
          (with_reducible refine HX.out.mono ?_); rintro e w8 ⟨v4, rfl, h1⟩
          have h2 := h1.imp fun T => Star.pick2
          obtain ⟨e8, he8⟩ : ∃ e8, rcSkE s2 b = e8 := ⟨_, rfl⟩
          rw [he8]
          have he88 : (e8 == e8) = true := by simp
          have hsl := skl_len s2 b
          have hss := skp_len s2 b
          have HX := Lib.hid (Inv.calm h2 (LsP.frm.star (LsP.frm.star RcE2.frm)) (eqI_any (l := rcSkL s2 b) (by omega) (LsP.any h2.drop) (LsP.any h2)))
          clear h1 h2 he8
          go_wp2_with fail
          (with_reducible refine HX.out.mono ?_); rintro e w9 ⟨rfl, h1⟩
          have h3 := h1.drop.drop
          obtain ⟨T5, hp5⟩ := RcE2.pget h3
          obtain ⟨T6, hp6⟩ := RcE2.rget h3
          have HX := Lib.hid (Inv.calm h3 RcE2.frm (same_any (by omega) hp5 hp6 i))
          clear h1 h3 hp5 hp6
          go_wp2_with fail
          (with_reducible refine HX.out.mono ?_); rintro e w10 ⟨rfl, h1⟩
          have HB := Lib.hid h1.out
          clear h1 HX
          go_wp2_with fail
          (with_reducible refine (HAW.out _).mono ?_); rintro e w11 ⟨rfl, hb⟩
          have HF := Lib.hid (HB.out.trans (hb.mono HB.out.size))
          clear hb HB
          go_wp2
          go_ret
          exact ⟨rfl, HF.out⟩
      · have h90 : (er != 0) = true := by simpa using h9
        obtain rfl := hne0 h9
        have HAK := Lib.hid (fun (W : World) (hw : Below wy.drew.heap.size wy.drew W) => (by
          obtain ⟨T7, hp7⟩ := RcE2.pget (HFR.out W hw).drop.drop.drop
          have h8 := pracks_any (by omega) hp7
          rw [ha1, ha2] at h8
          unfold Calm at h8
          exact h8 : Calls Try.prog 21 #[.pointer (some ⟨R, 0, none⟩)] W fun e w' => e = .returned (.agg #[.int .i64 a1, .int .u64 a2]) ∧ Below W.heap.size W w'))
        have HC4 := Lib.hid (fun (W : World) (hw : Below wy.drew.heap.size wy.drew W) => (by
          have h7 := (HFR.out W hw).drop.drop.boxed
          have g0 := h7.read 0
          have g1 := h7.read 1
          simp at g0 g1
          exact ⟨g0, g1⟩ : W.cell? ⟨g, 0, none⟩ = some (.int .i64 a1) ∧ W.cell? ⟨g, 1, none⟩ = some (.int .u64 a2)))
        clear HFR ha1 ha2
        go_wp2_with fail
        refine wp_region_looseS 127 (by kernel_rfl) (by kernel_rfl) (StB wy.drew (fun vI => [.int .i64 er, .int .i64 er, .bool false, .bool false, v1, v2, .bool true, .bool false, .bool false, .bool false, .int .i64 er, .bool true, .bool true, .pointer (some ⟨R, 0, none⟩), .agg #[.int .i64 a1, .int .u64 a2], .agg #[.int .i64 a1, .int .u64 a2], .bool false, .bool false, .bool false].getD vI undef)) rfl StB.start ?_ ?_
        · simp only [OblAllS]
          refine ⟨?_, ?_, ?_, ?_, ?_, ?_, ?_, ?_, ?_, ?_, ?_, ?_, ?_, ?_, ?_, ?_, ?_, ?_, ?_, trivial⟩
          · intro L wx vals hi hu hcl hC
            have HCx := Lib.hid hC
            clear hC hcl hu hi
            simp only [fillA, if_true, Act.put]
            simp
            go_wp2
            exact ⟨rfl, HCx.out.quiet 0 rfl⟩
          · intro L wx vals hi hu hcl hC
            have HCx := Lib.hid hC
            clear hC hcl hu hi
            simp only [fillA, if_true, Act.put]
            simp
            go_wp2
            exact ⟨rfl, HCx.out.quiet 1 rfl⟩
          · intro L wx vals hi hu hcl hC
            simp [predL, predE, Region.binds, UpL] at hu
            have e0 : vals 0 = .int .i64 er := hC.v 0 (by simp [hu])
            have e1 : vals 1 = .int .i64 er := hC.v 1 (by simp [hu])
            have HCx := Lib.hid hC
            clear hC hcl hu hi
            simp only [fillA, if_true, Act.put]
            simp
            simp only [e0, e1]
            clear e0 e1
            go_wp2
            exact ⟨rfl, HCx.out.quiet 2 rfl⟩
          · intro L wx vals hi hu hcl hC
            simp [predL, predE, Region.binds, UpL] at hu
            have e2 : vals 2 = .bool false := hC.v 2 (by simp [hu])
            have HCx := Lib.hid hC
            clear hC hcl hu hi
            simp only [fillA, if_true, Act.put]
            simp
            simp only [e2]
            clear e2
            go_wp2
            exact ⟨rfl, HCx.out.quiet 3 rfl⟩
          · intro L wx vals hi hu hcl hC
            simp [predL, predE, Region.binds, UpL] at hu
            have e3 : vals 3 = .bool false := hC.v 3 (by simp [hu])
            have HCx := Lib.hid hC
            clear hC hcl hu hi
            simp only [fillA, if_true, Act.put]
            simp
            simp only [e3]
            clear e3
            go_wp2
            exact ⟨rfl, HCx.out.quiet 4 rfl⟩
          · intro L wx vals hi hu hcl hC
            simp [predL, predE, Region.binds, UpL] at hu
            have e3 : vals 3 = .bool false := hC.v 3 (by simp [hu])
            have HCx := Lib.hid hC
            clear hC hcl hu hi
            simp only [fillA, if_true, Act.put]
            simp
            simp only [e3]
            clear e3
            go_wp2
            exact ⟨rfl, HCx.out.quiet 5 rfl⟩
          · intro L wx vals hi hu hcl hC
            simp [predL, predE, Region.binds, UpL] at hu
            have e3 : vals 3 = .bool false := hC.v 3 (by simp [hu])
            have e4 : vals 4 = v1 := hC.v 4 (by simp [hu])
            have e5 : vals 5 = v2 := hC.v 5 (by simp [hu])
            have HL := Lib.hid (HEQ.out wx hC.b)
            have HCx := Lib.hid hC
            clear hC hcl hu hi
            simp only [fillA, if_true, Act.put]
            simp
            simp only [e3, e4, e5]
            clear e3 e4 e5
            go_wp2_with fail
            (with_reducible refine HL.out.mono ?_); rintro e w9 ⟨rfl, hb⟩
            have HX := Lib.hid (HCx.out.step 6 (x := .bool true) rfl (HCx.out.b.trans (hb.mono HCx.out.b.size)))
            clear hb
            go_wp2
            exact ⟨rfl, HX.out⟩
          · intro L wx vals hi hu hcl hC
            simp [predL, predE, Region.binds, UpL] at hu
            have e3 : vals 3 = .bool false := hC.v 3 (by simp [hu])
            have e6 : vals 6 = .bool true := hC.v 6 (by simp [hu])
            have HCx := Lib.hid hC
            clear hC hcl hu hi
            simp only [fillA, if_true, Act.put]
            simp
            simp only [e3, e6]
            clear e3 e6
            go_wp2
            exact ⟨rfl, HCx.out.quiet 7 rfl⟩
          · intro L wx vals hi hu hcl hC
            simp [predL, predE, Region.binds, UpL] at hu
            have e3 : vals 3 = .bool false := hC.v 3 (by simp [hu])
            have e7 : vals 7 = .bool false := hC.v 7 (by simp [hu])
            have HCx := Lib.hid hC
            clear hC hcl hu hi
            simp only [fillA, if_true, Act.put]
            simp
            simp only [e3, e7]
            clear e3 e7
            go_wp2
            exact ⟨rfl, HCx.out.quiet 8 rfl⟩
          · intro L wx vals hi hu hcl hC
            simp [predL, predE, Region.binds, UpL] at hu
            have e8 : vals 8 = .bool false := hC.v 8 (by simp [hu])
            have HCx := Lib.hid hC
            clear hC hcl hu hi
            simp only [fillA, if_true, Act.put]
            simp
            simp only [e8]
            clear e8
            go_wp2
            exact ⟨rfl, HCx.out.quiet 9 rfl⟩
          · intro L wx vals hi hu hcl hC
            simp [predL, predE, Region.binds, UpL] at hu
            have e9 : vals 9 = .bool false := hC.v 9 (by simp [hu])
            have HCx := Lib.hid hC
            clear hC hcl hu hi
            simp only [fillA, if_true, Act.put]
            simp
            simp only [e9]
            clear e9
            go_wp2
            exact ⟨rfl, HCx.out.quiet 10 rfl⟩
          · intro L wx vals hi hu hcl hC
            simp [predL, predE, Region.binds, UpL] at hu
            have e9 : vals 9 = .bool false := hC.v 9 (by simp [hu])
            have e10 : vals 10 = .int .i64 er := hC.v 10 (by simp [hu])
            have HCx := Lib.hid hC
            clear hC hcl hu hi
            simp only [fillA, if_true, Act.put]
            simp
            simp only [e9, e10]
            clear e9 e10
            go_wp2
            exact ⟨rfl, HCx.out.quiet 11 rfl⟩
          · intro L wx vals hi hu hcl hC
            simp [predL, predE, Region.binds, UpL] at hu
            have e9 : vals 9 = .bool false := hC.v 9 (by simp [hu])
            have e11 : vals 11 = .bool true := hC.v 11 (by simp [hu])
            have HCx := Lib.hid hC
            clear hC hcl hu hi
            simp only [fillA, if_true, Act.put]
            simp
            simp only [e9, e11]
            clear e9 e11
            go_wp2
            exact ⟨rfl, HCx.out.quiet 12 rfl⟩
          · intro L wx vals hi hu hcl hC
            simp [predL, predE, Region.binds, UpL] at hu
            have e12 : vals 12 = .bool true := hC.v 12 (by simp [hu])
            have HCx := Lib.hid hC
            clear hC hcl hu hi
            simp only [fillA, if_true, Act.put]
            simp
            simp only [e12]
            clear e12
            go_wp2
            exact ⟨rfl, HCx.out.quiet 13 rfl⟩
          · intro L wx vals hi hu hcl hC
            simp [predL, predE, Region.binds, UpL] at hu
            have e12 : vals 12 = .bool true := hC.v 12 (by simp [hu])
            have e13 : vals 13 = .pointer (some ⟨R, 0, none⟩) := hC.v 13 (by simp [hu])
            have HL := Lib.hid (HAK.out wx hC.b)
            have HCx := Lib.hid hC
            clear hC hcl hu hi
            simp only [fillA, if_true, Act.put]
            simp
            simp only [e12, e13]
            clear e12 e13
            go_wp2_with fail
            (with_reducible refine HL.out.mono ?_); rintro e w9 ⟨rfl, hb⟩
            have HX := Lib.hid (HCx.out.step 14 (x := .agg #[.int .i64 a1, .int .u64 a2]) rfl (HCx.out.b.trans (hb.mono HCx.out.b.size)))
            clear hb
            go_wp2
            exact ⟨rfl, HX.out⟩
          · intro L wx vals hi hu hcl hC
            simp [predL, predE, Region.binds, UpL] at hu
            have e12 : vals 12 = .bool true := hC.v 12 (by simp [hu])
            have h0 := (HC4.out wx hC.b).1
            have h1 := (HC4.out wx hC.b).2
            have HCx := Lib.hid hC
            clear hC hcl hu hi
            simp only [fillA, if_true, Act.put]
            simp
            simp only [e12]
            clear e12
            go_wp2
            exact ⟨rfl, HCx.out.quiet 15 rfl⟩
          · intro L wx vals hi hu hcl hC
            simp [predL, predE, Region.binds, UpL] at hu
            have e12 : vals 12 = .bool true := hC.v 12 (by simp [hu])
            have e14 : vals 14 = .agg #[.int .i64 a1, .int .u64 a2] := hC.v 14 (by simp [hu])
            have e15 : vals 15 = .agg #[.int .i64 a1, .int .u64 a2] := hC.v 15 (by simp [hu])
            have HCx := Lib.hid hC
            clear hC hcl hu hi
            simp only [fillA, if_true, Act.put]
            simp
            simp only [e12, e14, e15]
            clear e12 e14 e15
            go_wp2
            exact ⟨rfl, HCx.out.quiet 16 rfl⟩
          · intro L wx vals hi hu hcl hC
            simp [predL, predE, Region.binds, UpL] at hu
            have e9 : vals 9 = .bool false := hC.v 9 (by simp [hu])
            have e12 : vals 12 = .bool true := hC.v 12 (by simp [hu])
            have e16 : vals 16 = .bool false := hC.v 16 (by simp [hu])
            have HCx := Lib.hid hC
            clear hC hcl hu hi
            simp only [fillA, if_true, Act.put]
            simp
            simp only [e9, e12, e16]
            clear e9 e12 e16
            go_wp2
            exact ⟨rfl, HCx.out.quiet 17 rfl⟩
          · intro L wx vals hi hu hcl hC
            simp [predL, predE, Region.binds, UpL] at hu
            have e9 : vals 9 = .bool false := hC.v 9 (by simp [hu])
            have e17 : vals 17 = .bool false := hC.v 17 (by simp [hu])
            have HCx := Lib.hid hC
            clear hC hcl hu hi
            simp only [fillA, if_true, Act.put]
            simp
            simp only [e9, e17]
            clear e9 e17
            go_wp2
            exact ⟨rfl, HCx.out.quiet 18 rfl⟩
        · intro wz vals U hC hall
          have e18 : vals 18 = .bool false := hC.v 18 (hall 18 (by simp))
          clear HAK HC4
          have HSK := Lib.hid (HI9.out.drop.drop.drop.step RcE2.frm ((Below.refl _ wy).drew.trans hC.b))
          simp only [fillA, if_true, Act.put]
          simp
          simp only [e18]
          clear hC hall e18 HEQ
          generalize vals 0 = t_0 at *
          generalize vals 1 = t_1 at *
          generalize vals 2 = t_2 at *
          generalize vals 3 = t_3 at *
          generalize vals 4 = t_4 at *
          generalize vals 5 = t_5 at *
          generalize vals 6 = t_6 at *
          generalize vals 7 = t_7 at *
          generalize vals 8 = t_8 at *
          generalize vals 9 = t_9 at *
          generalize vals 10 = t_10 at *
          generalize vals 11 = t_11 at *
          generalize vals 12 = t_12 at *
          generalize vals 13 = t_13 at *
          generalize vals 14 = t_14 at *
          generalize vals 15 = t_15 at *
          generalize vals 16 = t_16 at *
          generalize vals 17 = t_17 at *
          have HX := Lib.hid (Inv.call HSK.out (RcE2.pskp (by omega) b))
          clear HSK HI9
          go_wp2_with fail
          (with_reducible refine HX.out.mono ?_); rintro e w7 ⟨v3, rfl, h1⟩
          have HX := Lib.hid (Inv.call h1 (Acts.right LsP.frm (RcE2.rskp (by omega) b)))
          clear h1
          go_wp2_with fail
          (with_reducible refine HX.out.mono ?_); rintro e w8 ⟨v4, rfl, h1⟩
          have h2 := h1.imp fun T => Star.pick2
          obtain ⟨e8, he8⟩ : ∃ e8, rcSkE s2 b = e8 := ⟨_, rfl⟩
          rw [he8]
          have he88 : (e8 == e8) = true := by simp
          have hsl := skl_len s2 b
          have hss := skp_len s2 b
          have HX := Lib.hid (Inv.calm h2 (LsP.frm.star (LsP.frm.star RcE2.frm)) (eqI_any (l := rcSkL s2 b) (by omega) (LsP.any h2.drop) (LsP.any h2)))
          clear h1 h2 he8
          go_wp2_with fail
          (with_reducible refine HX.out.mono ?_); rintro e w9 ⟨rfl, h1⟩
          have h3 := h1.drop.drop
          obtain ⟨T5, hp5⟩ := RcE2.pget h3
          obtain ⟨T6, hp6⟩ := RcE2.rget h3
          have HX := Lib.hid (Inv.calm h3 RcE2.frm (same_any (by omega) hp5 hp6 i))
          clear h1 h3 hp5 hp6
          go_wp2_with fail
          (with_reducible refine HX.out.mono ?_); rintro e w10 ⟨rfl, h1⟩
          have HB := Lib.hid h1.out
          clear h1 HX
          go_wp2_with fail
          (with_reducible refine (HAW.out _).mono ?_); rintro e w11 ⟨rfl, hb⟩
          have HF := Lib.hid (HB.out.trans (hb.mono HB.out.size))
          clear hb HB
          go_wp2
          go_ret
          exact ⟨rfl, HF.out⟩
end Go.Proofs.Ythmncipenjhknaa

