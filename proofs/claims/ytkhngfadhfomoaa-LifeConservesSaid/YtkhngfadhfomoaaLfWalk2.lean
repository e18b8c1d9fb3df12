/-
  Layer 18: the walk of the statement that every packet is accounted for (LifeConserves). Every input; no condition. Written by gen_lfwalk2.py.
-/
import Derived.Test.YtkhngfadhfomoaaLfNew
namespace Go.Proofs.Ytkhngfadhfomoaa
open Go.ChangeShapes Go.WideShapes Go.ChangeAt Go.RowKit
set_option linter.unusedVariables false

set_option maxRecDepth 100000 in
set_option maxHeartbeats 16000000 in
theorem walkConserves18 (A : Option Addr) (len cap : Nat) (w : World) (he : Elems w.heap.size A len w) :
    Calls Try.prog 4 #[.slice A len cap] w (Calm (.bool true) w) := by
  have h0 := GenP.new (w0 := w) (cap := cap) he (Below.refl _ _) he
  have HX := Lib.hid (h0.emp.call (pfnew_any.star GenP.frm))
  have HAW := Lib.hid (fun w => awake18_any w)
  clear h0 he
  unfold Calm at *
  go_enter Try.func4, Try.ntmps4
  go_wp2_with fail
  (with_reducible refine (new_any A len cap _).mono ?_); rintro e w' ⟨rfl, rfl⟩
  go_wp2_with fail
  (with_reducible refine HX.out.mono ?_); rintro e w1 ⟨R, rfl, h1⟩
  have h2 := (h1.box (LfW.frm.star GenP.frm) 31 lt34).imp fun T h => Star.map (fun A h => ltnew h) h
  have h3 := h2.box (LtP.frm.star (LfW.frm.star GenP.frm)) 44 #[.int .i64 0, .int .i64 0, .int .i64 0]
  have e9 : (w1.alloc (.cells lt34 31)).heap.size = w1.heap.size + 1 := by simp
  rw [e9] at h3
  have HI := Lib.hid (show Inv w.heap.size w (LfE2 (BoxP (w1.heap.size + 1) 44 #[.int .i64 0, .int .i64 0, .int .i64 0]) w.heap.size w.heap.size A len cap R w1.heap.size 0 LfS.new LfS.new) ((w1.alloc (.cells lt34 31)).alloc (.cells #[.int .i64 0, .int .i64 0, .int .i64 0] 44)) from h3)
  unfold lt34 at HI
  clear h1 h2 h3 HX e9
  go_wp2_with fail
  generalize w1.heap.size + 1 = gA at *
  generalize w1.heap.size = S at *
  go_loopw [7] (fun s7 wr => ∃ (i q : Nat) (s : LfS) (a0 a1 a2 : Int), i ≤ 60 ∧ s7 = .int .i64 i ∧ q ≤ 60 * i ∧ Hid (LfB s (2 * i)) ∧ Hid ((0 ≤ a0 ∧ a0 ≤ s.r 0) ∧ (0 ≤ a1 ∧ a1 ≤ s.r 1) ∧ (0 ≤ a2 ∧ a2 ≤ s.r 2)) ∧ Hid (Inv w.heap.size w (LfE2 (BoxP gA 44 #[.int .i64 a0, .int .i64 a1, .int .i64 a2]) w.heap.size w.heap.size A len cap R S q s s) wr)) (fun s7 _ => 60 - (intOf s7).toNat)
  case atStart => exact ⟨0, 0, LfS.new, 0, 0, 0, by omega, rfl, by omega, Lib.hid (LfB.new _), Lib.hid (by simp [LfS.new]), HI⟩
  case round =>
    obtain ⟨i, q, s, a0, a1, a2, hi, rfl, hq, HB, HA, HS⟩ := hrel
    clear HI
    by_cases hlt : i < 60
    · have hlt' : (i : Int) < 60 := by omega
      have HX := Lib.hid (act18_any BoxP.frm HS.out (by omega) HB.out (by omega))
      clear HS
      go_wp2_with fail
      (with_reducible refine HX.out.mono ?_); rintro e w2 ⟨rfl, q1, s2, hq1, ⟨hB2, hr2⟩, h1⟩
      have HBB := Lib.hid hB2
      have HAA := Lib.hid (show (0 ≤ a0 ∧ a0 ≤ s2.r 0) ∧ (0 ≤ a1 ∧ a1 ≤ s2.r 1) ∧ (0 ≤ a2 ∧ a2 ≤ s2.r 2) from by have h8 := HA.out; have := hr2 0; have := hr2 1; have := hr2 2; omega)
      have HB9 := Lib.hid (hB2.up (M := 9999) (by omega))
      have HX := Lib.hid (LfE2.nD BoxP.frm h1 (n := 3) (by omega) (by omega) (by omega))
      clear h1 hB2 hr2 HA HB
      go_wp2_with fail
      (with_reducible refine HX.out.mono ?_); rintro e w3 ⟨f, f0, f1, rfl, h1, _⟩
      obtain ⟨q2, hq2⟩ : ∃ q2, q1 + 1 = q2 := ⟨_, rfl⟩
      rw [hq2] at h1
      have HS := Lib.hid h1
      have hq2b : q2 ≤ q + 41 := by omega
      clear h1 HX hq2 hq1
      go_upto_region 11 with fail
      go_cut [38] (fun s38 wx => ∃ (b : Bool), s38 = .bool b ∧ Hid (b = true → Inv w.heap.size w (LfE2 (BoxP gA 44 #[.int .i64 a0, .int .i64 a1, .int .i64 a2]) w.heap.size w.heap.size A len cap R S (q2 + 1) (s2.rfs f) s2) wx) ∧ Hid (b = false → Inv w.heap.size w (LfE2 (BoxP gA 44 #[.int .i64 a0, .int .i64 a1, .int .i64 a2]) w.heap.size w.heap.size A len cap R S (q2 + 1) s2 s2) wx))
      case first =>
        have HX := Lib.hid (LfE2.nD BoxP.frm HS.out (n := 6) (by omega) (by omega) (by omega))
        clear HS
        go_wp2_with fail
        (with_reducible refine HX.out.mono ?_); rintro e w4 ⟨r6, r60, r61, rfl, h1, _⟩
        have HS := Lib.hid h1
        clear h1 HX
        by_cases hr : r6 = 0
        · subst hr
          have hE0 : lfRfE f = 0 := by unfold lfRfE; rw [if_pos (lfF_of ⟨f0, by omega⟩)]
          have hx := Inv.call1 HS.out (LfE2.p BoxP.frm (pfrfs_any HB9.out f))
          rw [hE0] at hx
          have HX := Lib.hid hx
          clear hx HS hE0
          go_wp2_with fail
          (with_reducible refine HX.out.mono ?_); rintro e w5 ⟨rfl, h1⟩
          have HF := Lib.hid h1
          clear h1 HX
          go_wp2
          go_meet
          case rel => exact ⟨true, rfl, Lib.hid (fun _ => HF.out), Lib.hid (fun h => by cases h)⟩
        · have hr0 : (r6 == 0) = false := by simpa using hr
          go_wp2
          go_meet
          case rel => exact ⟨false, rfl, Lib.hid (fun h => by cases h), Lib.hid (fun _ => HS.out)⟩
      case rest =>
        obtain ⟨b, rfl, HT, HFA⟩ := hcut
        clear HS
        go_upto_if 38 with fail
        go_cut [8] (fun s8 wx => ∃ (q3 : Nat) (s3 : LfS) (b0 b1 b2 f' : Int), q3 ≤ q2 + 1 ∧ s8 = .int .i64 f' ∧ Hid (LfB s3 (2 * i + 2)) ∧ Hid ((0 ≤ b0 ∧ b0 ≤ s3.r 0) ∧ (0 ≤ b1 ∧ b1 ≤ s3.r 1) ∧ (0 ≤ b2 ∧ b2 ≤ s3.r 2)) ∧ Hid (Inv w.heap.size w (LfE2 (BoxP gA 44 #[.int .i64 b0, .int .i64 b1, .int .i64 b2]) w.heap.size w.heap.size A len cap R S q3 s3 s3) wx))
        case first =>
          cases b
          · have HS := Lib.hid (HFA.out rfl)
            clear HT HFA
            go_wp2
            go_meet
            case rel => exact ⟨q2 + 1, s2, a0, a1, a2, f, by omega, rfl, Lib.hid (HBB.out.up (by omega)), HAA, HS⟩
          · have h1 := HT.out rfl
            clear HT HFA
            rcases (by omega : f = 0 ∨ f = 1 ∨ f = 2) with rfl | rfl | rfl
            · have HX := Lib.hid (Inv.call1 h1 (LfE2.r BoxP.frm (rrfs_any HB9.out 0)))
              have HB2 := Lib.hid (HBB.out.rfs 0)
              have HRR := Lib.hid (show (0 ≤ a0 + 1 ∧ a0 + 1 ≤ (s2.rfs 0).r 0) ∧ (0 ≤ a1 ∧ a1 ≤ (s2.rfs 0).r 1) ∧ (0 ≤ a2 ∧ a2 ≤ (s2.rfs 0).r 2) from by
                have h9 := HAA.out
                have hf9 : lfF 0 = true := by decide
                unfold LfS.rfs
                rw [if_pos hf9]
                simp only
                refine ⟨?_, ?_, ?_⟩ <;> simp <;> omega)
              clear h1
              go_wp2_with fail
              (with_reducible refine HX.out.mono ?_); rintro e w7 ⟨rfl, h1⟩
              have hbx := h1.boxed
              have g0 : w7.cell? ⟨gA, 0, none⟩ = some (.int .i64 a0) := (hbx.read 0).trans rfl
              have z0 := hbx.free 0
              have hwa : IntKind.i64.wrap (a0 + 1) = a0 + 1 := IntWalk.i64_in _ (by have := HAA.out; have := HBB.out.r 0; omega)
              have HF := Lib.hid (show Inv w.heap.size w (LfE2 (BoxP gA 44 #[.int .i64 (a0 + 1), .int .i64 a1, .int .i64 a2]) w.heap.size w.heap.size A len cap R S (q2 + 1) (s2.rfs 0) (s2.rfs 0)) (w7.setCell ⟨gA, 0, none⟩ (.int .i64 (a0 + 1))) from h1.boxput (LtP.frm.star (LfW.frm.star GenP.frm)) 0 (.int .i64 (a0 + 1)))
              clear h1 hbx HX
              go_wp2
              go_meet
              case rel => exact ⟨q2 + 1, s2.rfs 0, a0 + 1, a1, a2, 0, by omega, rfl, Lib.hid (HB2.out.up (by omega)), HRR, HF⟩
            · have HX := Lib.hid (Inv.call1 h1 (LfE2.r BoxP.frm (rrfs_any HB9.out 1)))
              have HB2 := Lib.hid (HBB.out.rfs 1)
              have HRR := Lib.hid (show (0 ≤ a0 ∧ a0 ≤ (s2.rfs 1).r 0) ∧ (0 ≤ a1 + 1 ∧ a1 + 1 ≤ (s2.rfs 1).r 1) ∧ (0 ≤ a2 ∧ a2 ≤ (s2.rfs 1).r 2) from by
                have h9 := HAA.out
                have hf9 : lfF 1 = true := by decide
                unfold LfS.rfs
                rw [if_pos hf9]
                simp only
                refine ⟨?_, ?_, ?_⟩ <;> simp <;> omega)
              clear h1
              go_wp2_with fail
              (with_reducible refine HX.out.mono ?_); rintro e w7 ⟨rfl, h1⟩
              have hbx := h1.boxed
              have g0 : w7.cell? ⟨gA, 1, none⟩ = some (.int .i64 a1) := (hbx.read 1).trans rfl
              have z0 := hbx.free 1
              have hwa : IntKind.i64.wrap (a1 + 1) = a1 + 1 := IntWalk.i64_in _ (by have := HAA.out; have := HBB.out.r 1; omega)
              have HF := Lib.hid (show Inv w.heap.size w (LfE2 (BoxP gA 44 #[.int .i64 a0, .int .i64 (a1 + 1), .int .i64 a2]) w.heap.size w.heap.size A len cap R S (q2 + 1) (s2.rfs 1) (s2.rfs 1)) (w7.setCell ⟨gA, 1, none⟩ (.int .i64 (a1 + 1))) from h1.boxput (LtP.frm.star (LfW.frm.star GenP.frm)) 1 (.int .i64 (a1 + 1)))
              clear h1 hbx HX
              go_wp2
              go_meet
              case rel => exact ⟨q2 + 1, s2.rfs 1, a0, a1 + 1, a2, 1, by omega, rfl, Lib.hid (HB2.out.up (by omega)), HRR, HF⟩
            · have HX := Lib.hid (Inv.call1 h1 (LfE2.r BoxP.frm (rrfs_any HB9.out 2)))
              have HB2 := Lib.hid (HBB.out.rfs 2)
              have HRR := Lib.hid (show (0 ≤ a0 ∧ a0 ≤ (s2.rfs 2).r 0) ∧ (0 ≤ a1 ∧ a1 ≤ (s2.rfs 2).r 1) ∧ (0 ≤ a2 + 1 ∧ a2 + 1 ≤ (s2.rfs 2).r 2) from by
                have h9 := HAA.out
                have hf9 : lfF 2 = true := by decide
                unfold LfS.rfs
                rw [if_pos hf9]
                simp only
                refine ⟨?_, ?_, ?_⟩ <;> simp <;> omega)
              clear h1
              go_wp2_with fail
              (with_reducible refine HX.out.mono ?_); rintro e w7 ⟨rfl, h1⟩
              have hbx := h1.boxed
              have g0 : w7.cell? ⟨gA, 2, none⟩ = some (.int .i64 a2) := (hbx.read 2).trans rfl
              have z0 := hbx.free 2
              have hwa : IntKind.i64.wrap (a2 + 1) = a2 + 1 := IntWalk.i64_in _ (by have := HAA.out; have := HBB.out.r 2; omega)
              have HF := Lib.hid (show Inv w.heap.size w (LfE2 (BoxP gA 44 #[.int .i64 a0, .int .i64 a1, .int .i64 (a2 + 1)]) w.heap.size w.heap.size A len cap R S (q2 + 1) (s2.rfs 2) (s2.rfs 2)) (w7.setCell ⟨gA, 2, none⟩ (.int .i64 (a2 + 1))) from h1.boxput (LtP.frm.star (LfW.frm.star GenP.frm)) 2 (.int .i64 (a2 + 1)))
              clear h1 hbx HX
              go_wp2
              go_meet
              case rel => exact ⟨q2 + 1, s2.rfs 2, a0, a1, a2 + 1, 2, by omega, rfl, Lib.hid (HB2.out.up (by omega)), HRR, HF⟩
        case rest =>
          obtain ⟨q3, s3, b0, b1, b2, f', hq3, rfl, HB3, HA3, HS3⟩ := hcut
          clear HT HFA HAA HBB HB9 f0 f1
          have HB9 := Lib.hid (HB3.out.up (M := 9999) (by omega))
          go_wp2_with fail
          go_loopw [9] (fun s9 wr => ∃ (k : Nat), k ≤ 3 ∧ s9 = .int .i64 k ∧ Hid (Inv w.heap.size w (LfE2 (BoxP gA 44 #[.int .i64 b0, .int .i64 b1, .int .i64 b2]) w.heap.size w.heap.size A len cap R S q3 s3 s3) wr)) (fun s9 _ => 3 - (intOf s9).toNat)
          case atStart => exact ⟨0, by omega, rfl, HS3⟩
          case round =>
            obtain ⟨k, hk, rfl, HS4⟩ := hrel
            clear HS3
            by_cases hlk : k < 3
            · have hlk' : (k : Int) < 3 := by omega
              obtain ⟨T9, hp9⟩ := LfE2.pget HS4.out
              obtain ⟨T8, hr9⟩ := LfE2.rget HS4.out
              have hsum := lfC_sum (k : Int) s3.l (fun x hx => (hr9.1.e x hx).2.2)
              have hff : lfF (k : Int) = true := lfF_of ⟨by omega, by omega⟩
              have e1 : lfS1 s3 k = lfCn s3 k 1 + lfCn s3 k 2 + lfCn s3 k 3 + lfCn s3 k 4 := by unfold lfS1; rw [if_pos hff]; exact hsum
              have e2 : lfS2 s3 k = lfCn s3 k 3 := by unfold lfS2; rw [if_pos hff]; rfl
              have e3 : lfS3 s3 k = s3.r k + lfCn s3 k 4 := by unfold lfS3; rw [if_pos hff]; rfl
              have hx := Inv.calm HS4.out (LfE2.frm BoxP.frm) (pfss_any HB9.out hp9 (k : Int))
              unfold lfSs stA at hx
              rw [e1, e2, e3] at hx
              have HX := Lib.hid hx
              have d1 := lfCn_bd s3 k 1
              have d2 := lfCn_bd s3 k 2
              have d3 := lfCn_bd s3 k 3
              have d4 := lfCn_bd s3 k 4
              have hln := HB9.out.l
              have HCN := Lib.hid (fun (x : Int) (W : World) (h : Inv w.heap.size w (LfE2 (BoxP gA 44 #[.int .i64 b0, .int .i64 b1, .int .i64 b2]) w.heap.size w.heap.size A len cap R S q3 s3 s3) W) => (by
                obtain ⟨T7, hp7⟩ := LfE2.pget h
                exact (pfcn_any HB9.out hp7 (k : Int) x).mono fun e w' h8 => ⟨h8.1, h.step (LfE2.frm BoxP.frm) h8.2, h8.2⟩ : Calls Try.prog 18 #[.pointer (some ⟨R, 0, none⟩), .int .i64 (k : Nat), .int .i64 x] W fun e w' => e = .returned (.int .i64 (lfCn s3 k x)) ∧ Inv w.heap.size w (LfE2 (BoxP gA 44 #[.int .i64 b0, .int .i64 b1, .int .i64 b2]) w.heap.size w.heap.size A len cap R S q3 s3 s3) w' ∧ Below W.heap.size W w'))
              have HRK := Lib.hid (HB9.out.r k)
              obtain ⟨ak, hak, hak2⟩ : ∃ ak : Int, (#[Value.int .i64 b0, .int .i64 b1, .int .i64 b2])[k]? = some (.int .i64 ak) ∧ (0 ≤ ak ∧ ak ≤ s3.r k) := by
                have h9 := HA3.out
                rcases (by omega : k = 0 ∨ k = 1 ∨ k = 2) with rfl | rfl | rfl
                · exact ⟨b0, rfl, h9.1⟩
                · exact ⟨b1, rfl, h9.2.1⟩
                · exact ⟨b2, rfl, h9.2.2⟩
              have HAK := Lib.hid hak
              clear hx hp9 hr9 hsum hff e1 e2 e3 HS4 hak
              generalize lfS0 (k : Int) = s0 at *
              generalize lfS4 s3 (k : Int) = s4 at *
              obtain ⟨c1, hc1⟩ : ∃ c1, lfCn s3 k 1 = c1 := ⟨_, rfl⟩
              obtain ⟨c2, hc2⟩ : ∃ c2, lfCn s3 k 2 = c2 := ⟨_, rfl⟩
              obtain ⟨c3, hc3⟩ : ∃ c3, lfCn s3 k 3 = c3 := ⟨_, rfl⟩
              obtain ⟨c4, hc4⟩ : ∃ c4, lfCn s3 k 4 = c4 := ⟨_, rfl⟩
              rw [hc1] at d1
              rw [hc2] at d2
              rw [hc3] at d3
              rw [hc4] at d4
              rw [hc1, hc2, hc3, hc4] at HX
              obtain ⟨rk, hrk⟩ : ∃ rk, s3.r (k : Int) = rk := ⟨_, rfl⟩
              rw [hrk] at HX hak2 HRK
              obtain ⟨dr, hdr⟩ : ∃ dr, rk + c4 = dr := ⟨_, rfl⟩
              rw [hdr] at HX
              obtain ⟨nn, hnn⟩ : ∃ nn, c1 + c2 + c3 + c4 = nn := ⟨_, rfl⟩
              rw [hnn] at HX
              have HK1 := Lib.hid (fun W h => hc1 ▸ HCN.out 1 W h)
              have HK2 := Lib.hid (fun W h => hc2 ▸ HCN.out 2 W h)
              have HK3 := Lib.hid (fun W h => hc3 ▸ HCN.out 3 W h)
              have HK4 := Lib.hid (fun W h => hc4 ▸ HCN.out 4 W h)
              have hrr := HRK.out
              have v1 : IntKind.i64.wrap (c1 + c2) = c1 + c2 := IntWalk.i64_in _ (by omega)
              have v2 : IntKind.i64.wrap (c1 + c2 + c3) = c1 + c2 + c3 := IntWalk.i64_in _ (by omega)
              have v3 : IntKind.i64.wrap (c1 + c2 + c3 + c4) = nn := by rw [hnn]; exact IntWalk.i64_in _ (by omega)
              have v4 : IntKind.i64.wrap (c4 + ak) = c4 + ak := IntWalk.i64_in _ (by omega)
              have hlt9 : decide (dr < c4 + ak) = false := by simp; omega
              clear HCN hc1 hc2 hc3 hc4 hrk hrr HRK hln hdr hnn d1 d2 d3 d4 hak2
              go_wp2_with fail
              (with_reducible refine HX.out.mono ?_); rintro e w5 ⟨rfl, h1⟩
              have hal := (Below.refl w5.heap.size w5).alloc (Nat.le_refl _) (.cells #[.int .i64 s0, .int .i64 nn, .int .i64 c3, .int .i64 dr, .int .i64 s4, .int .i64 0] 37)
              have h2 := h1.step (LfE2.frm BoxP.frm) hal
              have HVW := Lib.hid (Whole.fresh w5 37 #[.int .i64 s0, .int .i64 nn, .int .i64 c3, .int .i64 dr, .int .i64 s4, .int .i64 0])
              have HX := Lib.hid (HK1.out _ h2)
              clear h1 h2 hal
              go_wp2_with fail
              obtain ⟨gS, hgS⟩ : ∃ gS, w5.heap.size = gS := ⟨_, rfl⟩
              rw [hgS] at HVW ⊢
              clear hgS
              generalize w5.alloc (.cells #[.int .i64 s0, .int .i64 nn, .int .i64 c3, .int .i64 dr, .int .i64 s4, .int .i64 0] 37) = wq at *
              (with_reducible refine HX.out.mono ?_); rintro e w6 ⟨rfl, h1, hb1⟩
              have HX := Lib.hid (HK2.out _ h1)
              replace HVW := Lib.hid (HVW.out.later hb1)
              clear h1 hb1
              go_wp2_with fail
              (with_reducible refine HX.out.mono ?_); rintro e w7 ⟨rfl, h1, hb1⟩
              have HX := Lib.hid (HK3.out _ h1)
              replace HVW := Lib.hid (HVW.out.later hb1)
              clear h1 hb1
              go_wp2_with fail
              (with_reducible refine HX.out.mono ?_); rintro e w8 ⟨rfl, h1, hb1⟩
              have HX := Lib.hid (HK4.out _ h1)
              replace HVW := Lib.hid (HVW.out.later hb1)
              clear h1 hb1
              go_wp2_with fail
              (with_reducible refine HX.out.mono ?_); rintro e wy ⟨rfl, h1, hb1⟩
              replace HVW := Lib.hid (HVW.out.later hb1)
              have HI9 := Lib.hid h1
              have HFR := Lib.hid (fun (W : World) (hw : Below wy.drew.heap.size wy.drew W) => HI9.out.step (LfE2.frm BoxP.frm) ((Below.refl _ wy).drew.trans hw))
              have HK3C := Lib.hid (fun (W : World) (hw : Below wy.drew.heap.size wy.drew W) => (HK3.out W (HFR.out W hw)).mono fun e w' h8 => (⟨h8.1, h8.2.2⟩ : _ ∧ Below W.heap.size W w'))
              have HK4C := Lib.hid (fun (W : World) (hw : Below wy.drew.heap.size wy.drew W) => (HK4.out W (HFR.out W hw)).mono fun e w' h8 => (⟨h8.1, h8.2.2⟩ : _ ∧ Below W.heap.size W w'))
              have HCC := Lib.hid (fun (W : World) (hw : Below wy.drew.heap.size wy.drew W) => (by
                have h7 := HVW.out.later ((Below.refl _ wy).drew.trans hw)
                have h6 := (HFR.out W hw).boxed
                exact ⟨(h7.read 1).trans rfl, (h7.read 2).trans rfl, (h7.read 3).trans rfl, (h6.read k).trans HAK.out⟩ : W.cell? ⟨gS, 1, none⟩ = some (.int .i64 nn) ∧ W.cell? ⟨gS, 2, none⟩ = some (.int .i64 c3) ∧ W.cell? ⟨gS, 3, none⟩ = some (.int .i64 dr) ∧ W.cell? ⟨gA, k, none⟩ = some (.int .i64 ak)))
              have hnn0 : (nn != nn) = false := by simp
              have hcc0 : (c3 != c3) = false := by simp
              have hk0 : (0 : Int) ≤ (k : Int) := by omega
              clear h1 hb1 HX HK1 HK2 HK3 HK4 HVW HAK
              go_wp2_with fail
              refine wp_region_looseS 94 (by kernel_rfl) (by kernel_rfl) (StB wy.drew (fun vI => [.pointer (some ⟨gS, 1, none⟩), .int .i64 nn, .int .i64 nn, .bool false, .bool false, .pointer (some ⟨gS, 2, none⟩), .int .i64 c3, .pointer (some ⟨R, 0, none⟩), .int .i64 (k : Nat), .int .i64 c3, .bool false, .bool false, .bool false, .pointer (some ⟨gS, 3, none⟩), .int .i64 dr, .pointer (some ⟨R, 0, none⟩), .int .i64 (k : Nat), .int .i64 c4, .int .i64 (k : Nat), .pointer (some ⟨gA, k, none⟩), .int .i64 ak, .int .i64 (c4 + ak), .bool false, .bool false].getD vI undef)) rfl StB.start ?_ ?_
              · simp only [OblAllS]
                refine ⟨?_, ?_, ?_, ?_, ?_, ?_, ?_, ?_, ?_, ?_, ?_, ?_, ?_, ?_, ?_, ?_, ?_, ?_, ?_, ?_, ?_, ?_, ?_, ?_, trivial⟩
                · intro L wx vals hi hu hcl hC
                  have HCx := Lib.hid hC
                  clear hC hcl hu hi
                  simp only [fillA, if_true, Act.put]
                  simp
                  go_wp2
                  exact ⟨rfl, HCx.out.quiet 0 rfl⟩
                · intro L wx vals hi hu hcl hC
                  simp [predL, predE, Region.binds, UpL] at hu
                  have e0 : vals 0 = .pointer (some ⟨gS, 1, none⟩) := hC.v 0 (by simp [hu])
                  have h0 := (HCC.out wx hC.b).1
                  have HCx := Lib.hid hC
                  clear hC hcl hu hi
                  simp only [fillA, if_true, Act.put]
                  simp
                  simp only [e0]
                  clear e0
                  go_wp2
                  exact ⟨rfl, HCx.out.quiet 1 rfl⟩
                · intro L wx vals hi hu hcl hC
                  have HCx := Lib.hid hC
                  clear hC hcl hu hi
                  simp only [fillA, if_true, Act.put]
                  simp
                  go_wp2
                  exact ⟨rfl, HCx.out.quiet 2 rfl⟩
                · intro L wx vals hi hu hcl hC
                  simp [predL, predE, Region.binds, UpL] at hu
                  have e1 : vals 1 = .int .i64 nn := hC.v 1 (by simp [hu])
                  have e2 : vals 2 = .int .i64 nn := hC.v 2 (by simp [hu])
                  have HCx := Lib.hid hC
                  clear hC hcl hu hi
                  simp only [fillA, if_true, Act.put]
                  simp
                  simp only [e1, e2]
                  clear e1 e2
                  go_wp2
                  exact ⟨rfl, HCx.out.quiet 3 rfl⟩
                · intro L wx vals hi hu hcl hC
                  simp [predL, predE, Region.binds, UpL] at hu
                  have e3 : vals 3 = .bool false := hC.v 3 (by simp [hu])
                  have HCx := Lib.hid hC
                  clear hC hcl hu hi
                  simp only [fillA, if_true, Act.put]
                  simp
                  simp only [e3]
                  clear e3
                  go_wp2
                  exact ⟨rfl, HCx.out.quiet 4 rfl⟩
                · intro L wx vals hi hu hcl hC
                  simp [predL, predE, Region.binds, UpL] at hu
                  have e4 : vals 4 = .bool false := hC.v 4 (by simp [hu])
                  have HCx := Lib.hid hC
                  clear hC hcl hu hi
                  simp only [fillA, if_true, Act.put]
                  simp
                  simp only [e4]
                  clear e4
                  go_wp2
                  exact ⟨rfl, HCx.out.quiet 5 rfl⟩
                · intro L wx vals hi hu hcl hC
                  simp [predL, predE, Region.binds, UpL] at hu
                  have e4 : vals 4 = .bool false := hC.v 4 (by simp [hu])
                  have e5 : vals 5 = .pointer (some ⟨gS, 2, none⟩) := hC.v 5 (by simp [hu])
                  have h0 := (HCC.out wx hC.b).2.1
                  have HCx := Lib.hid hC
                  clear hC hcl hu hi
                  simp only [fillA, if_true, Act.put]
                  simp
                  simp only [e4, e5]
                  clear e4 e5
                  go_wp2
                  exact ⟨rfl, HCx.out.quiet 6 rfl⟩
                · intro L wx vals hi hu hcl hC
                  simp [predL, predE, Region.binds, UpL] at hu
                  have e4 : vals 4 = .bool false := hC.v 4 (by simp [hu])
                  have HCx := Lib.hid hC
                  clear hC hcl hu hi
                  simp only [fillA, if_true, Act.put]
                  simp
                  simp only [e4]
                  clear e4
                  go_wp2
                  exact ⟨rfl, HCx.out.quiet 7 rfl⟩
                · intro L wx vals hi hu hcl hC
                  simp [predL, predE, Region.binds, UpL] at hu
                  have e4 : vals 4 = .bool false := hC.v 4 (by simp [hu])
                  have HCx := Lib.hid hC
                  clear hC hcl hu hi
                  simp only [fillA, if_true, Act.put]
                  simp
                  simp only [e4]
                  clear e4
                  go_wp2
                  exact ⟨rfl, HCx.out.quiet 8 rfl⟩
                · intro L wx vals hi hu hcl hC
                  simp [predL, predE, Region.binds, UpL] at hu
                  have e4 : vals 4 = .bool false := hC.v 4 (by simp [hu])
                  have e7 : vals 7 = .pointer (some ⟨R, 0, none⟩) := hC.v 7 (by simp [hu])
                  have e8 : vals 8 = .int .i64 (k : Nat) := hC.v 8 (by simp [hu])
                  have HL := Lib.hid (HK3C.out wx hC.b)
                  have HCx := Lib.hid hC
                  clear hC hcl hu hi
                  simp only [fillA, if_true, Act.put]
                  simp
                  simp only [e4, e7, e8]
                  clear e4 e7 e8
                  go_wp2_with fail
                  (with_reducible refine HL.out.mono ?_); rintro e w9 ⟨rfl, hb⟩
                  have HX := Lib.hid (HCx.out.step 9 (x := .int .i64 c3) rfl (HCx.out.b.trans (hb.mono HCx.out.b.size)))
                  clear hb
                  go_wp2
                  exact ⟨rfl, HX.out⟩
                · intro L wx vals hi hu hcl hC
                  simp [predL, predE, Region.binds, UpL] at hu
                  have e4 : vals 4 = .bool false := hC.v 4 (by simp [hu])
                  have e6 : vals 6 = .int .i64 c3 := hC.v 6 (by simp [hu])
                  have e9 : vals 9 = .int .i64 c3 := hC.v 9 (by simp [hu])
                  have HCx := Lib.hid hC
                  clear hC hcl hu hi
                  simp only [fillA, if_true, Act.put]
                  simp
                  simp only [e4, e6, e9]
                  clear e4 e6 e9
                  go_wp2
                  exact ⟨rfl, HCx.out.quiet 10 rfl⟩
                · intro L wx vals hi hu hcl hC
                  simp [predL, predE, Region.binds, UpL] at hu
                  have e4 : vals 4 = .bool false := hC.v 4 (by simp [hu])
                  have e10 : vals 10 = .bool false := hC.v 10 (by simp [hu])
                  have HCx := Lib.hid hC
                  clear hC hcl hu hi
                  simp only [fillA, if_true, Act.put]
                  simp
                  simp only [e4, e10]
                  clear e4 e10
                  go_wp2
                  exact ⟨rfl, HCx.out.quiet 11 rfl⟩
                · intro L wx vals hi hu hcl hC
                  simp [predL, predE, Region.binds, UpL] at hu
                  have e11 : vals 11 = .bool false := hC.v 11 (by simp [hu])
                  have HCx := Lib.hid hC
                  clear hC hcl hu hi
                  simp only [fillA, if_true, Act.put]
                  simp
                  simp only [e11]
                  clear e11
                  go_wp2
                  exact ⟨rfl, HCx.out.quiet 12 rfl⟩
                · intro L wx vals hi hu hcl hC
                  simp [predL, predE, Region.binds, UpL] at hu
                  have e12 : vals 12 = .bool false := hC.v 12 (by simp [hu])
                  have HCx := Lib.hid hC
                  clear hC hcl hu hi
                  simp only [fillA, if_true, Act.put]
                  simp
                  simp only [e12]
                  clear e12
                  go_wp2
                  exact ⟨rfl, HCx.out.quiet 13 rfl⟩
                · intro L wx vals hi hu hcl hC
                  simp [predL, predE, Region.binds, UpL] at hu
                  have e12 : vals 12 = .bool false := hC.v 12 (by simp [hu])
                  have e13 : vals 13 = .pointer (some ⟨gS, 3, none⟩) := hC.v 13 (by simp [hu])
                  have h0 := (HCC.out wx hC.b).2.2.1
                  have HCx := Lib.hid hC
                  clear hC hcl hu hi
                  simp only [fillA, if_true, Act.put]
                  simp
                  simp only [e12, e13]
                  clear e12 e13
                  go_wp2
                  exact ⟨rfl, HCx.out.quiet 14 rfl⟩
                · intro L wx vals hi hu hcl hC
                  simp [predL, predE, Region.binds, UpL] at hu
                  have e12 : vals 12 = .bool false := hC.v 12 (by simp [hu])
                  have HCx := Lib.hid hC
                  clear hC hcl hu hi
                  simp only [fillA, if_true, Act.put]
                  simp
                  simp only [e12]
                  clear e12
                  go_wp2
                  exact ⟨rfl, HCx.out.quiet 15 rfl⟩
                · intro L wx vals hi hu hcl hC
                  simp [predL, predE, Region.binds, UpL] at hu
                  have e12 : vals 12 = .bool false := hC.v 12 (by simp [hu])
                  have HCx := Lib.hid hC
                  clear hC hcl hu hi
                  simp only [fillA, if_true, Act.put]
                  simp
                  simp only [e12]
                  clear e12
                  go_wp2
                  exact ⟨rfl, HCx.out.quiet 16 rfl⟩
                · intro L wx vals hi hu hcl hC
                  simp [predL, predE, Region.binds, UpL] at hu
                  have e12 : vals 12 = .bool false := hC.v 12 (by simp [hu])
                  have e15 : vals 15 = .pointer (some ⟨R, 0, none⟩) := hC.v 15 (by simp [hu])
                  have e16 : vals 16 = .int .i64 (k : Nat) := hC.v 16 (by simp [hu])
                  have HL := Lib.hid (HK4C.out wx hC.b)
                  have HCx := Lib.hid hC
                  clear hC hcl hu hi
                  simp only [fillA, if_true, Act.put]
                  simp
                  simp only [e12, e15, e16]
                  clear e12 e15 e16
                  go_wp2_with fail
                  (with_reducible refine HL.out.mono ?_); rintro e w9 ⟨rfl, hb⟩
                  have HX := Lib.hid (HCx.out.step 17 (x := .int .i64 c4) rfl (HCx.out.b.trans (hb.mono HCx.out.b.size)))
                  clear hb
                  go_wp2
                  exact ⟨rfl, HX.out⟩
                · intro L wx vals hi hu hcl hC
                  simp [predL, predE, Region.binds, UpL] at hu
                  have e12 : vals 12 = .bool false := hC.v 12 (by simp [hu])
                  have HCx := Lib.hid hC
                  clear hC hcl hu hi
                  simp only [fillA, if_true, Act.put]
                  simp
                  simp only [e12]
                  clear e12
                  go_wp2
                  exact ⟨rfl, HCx.out.quiet 18 rfl⟩
                · intro L wx vals hi hu hcl hC
                  simp [predL, predE, Region.binds, UpL] at hu
                  have e12 : vals 12 = .bool false := hC.v 12 (by simp [hu])
                  have e18 : vals 18 = .int .i64 (k : Nat) := hC.v 18 (by simp [hu])
                  have HCx := Lib.hid hC
                  clear hC hcl hu hi
                  simp only [fillA, if_true, Act.put]
                  simp
                  simp only [e12, e18]
                  clear e12 e18
                  go_wp2
                  exact ⟨rfl, HCx.out.quiet 19 rfl⟩
                · intro L wx vals hi hu hcl hC
                  simp [predL, predE, Region.binds, UpL] at hu
                  have e12 : vals 12 = .bool false := hC.v 12 (by simp [hu])
                  have e19 : vals 19 = .pointer (some ⟨gA, k, none⟩) := hC.v 19 (by simp [hu])
                  have h0 := (HCC.out wx hC.b).2.2.2
                  have HCx := Lib.hid hC
                  clear hC hcl hu hi
                  simp only [fillA, if_true, Act.put]
                  simp
                  simp only [e12, e19]
                  clear e12 e19
                  go_wp2
                  exact ⟨rfl, HCx.out.quiet 20 rfl⟩
                · intro L wx vals hi hu hcl hC
                  simp [predL, predE, Region.binds, UpL] at hu
                  have e12 : vals 12 = .bool false := hC.v 12 (by simp [hu])
                  have e17 : vals 17 = .int .i64 c4 := hC.v 17 (by simp [hu])
                  have e20 : vals 20 = .int .i64 ak := hC.v 20 (by simp [hu])
                  have HCx := Lib.hid hC
                  clear hC hcl hu hi
                  simp only [fillA, if_true, Act.put]
                  simp
                  simp only [e12, e17, e20]
                  clear e12 e17 e20
                  go_wp2
                  exact ⟨rfl, HCx.out.quiet 21 rfl⟩
                · intro L wx vals hi hu hcl hC
                  simp [predL, predE, Region.binds, UpL] at hu
                  have e12 : vals 12 = .bool false := hC.v 12 (by simp [hu])
                  have e14 : vals 14 = .int .i64 dr := hC.v 14 (by simp [hu])
                  have e21 : vals 21 = .int .i64 (c4 + ak) := hC.v 21 (by simp [hu])
                  have HCx := Lib.hid hC
                  clear hC hcl hu hi
                  simp only [fillA, if_true, Act.put]
                  simp
                  simp only [e12, e14, e21]
                  clear e12 e14 e21
                  go_wp2
                  exact ⟨rfl, HCx.out.quiet 22 rfl⟩
                · intro L wx vals hi hu hcl hC
                  simp [predL, predE, Region.binds, UpL] at hu
                  have e12 : vals 12 = .bool false := hC.v 12 (by simp [hu])
                  have e22 : vals 22 = .bool false := hC.v 22 (by simp [hu])
                  have HCx := Lib.hid hC
                  clear hC hcl hu hi
                  simp only [fillA, if_true, Act.put]
                  simp
                  simp only [e12, e22]
                  clear e12 e22
                  go_wp2
                  exact ⟨rfl, HCx.out.quiet 23 rfl⟩
              · intro wz vals U hC hall
                have e23 : vals 23 = .bool false := hC.v 23 (hall 23 (by simp))
                have HF := Lib.hid (HI9.out.step (LfE2.frm BoxP.frm) ((Below.refl _ wy).drew.trans hC.b))
                simp only [fillA, if_true, Act.put]
                simp
                simp only [e23]
                clear hC hall e23 HCC HK3C HK4C HFR HI9
                generalize vals 0 = t_0 at *
                generalize vals 1 = t_1 at *
                generalize vals 2 = t_2 at *
                generalize vals 3 = t_3 at *
                generalize vals 4 = t_4 at *
                generalize vals 5 = t_5 at *
                generalize vals 6 = t_6 at *
                generalize vals 7 = t_7 at *
                generalize vals 8 = t_8 at *
                generalize vals 9 = t_9 at *
                generalize vals 10 = t_10 at *
                generalize vals 11 = t_11 at *
                generalize vals 12 = t_12 at *
                generalize vals 13 = t_13 at *
                generalize vals 14 = t_14 at *
                generalize vals 15 = t_15 at *
                generalize vals 16 = t_16 at *
                generalize vals 17 = t_17 at *
                generalize vals 18 = t_18 at *
                generalize vals 19 = t_19 at *
                generalize vals 20 = t_20 at *
                generalize vals 21 = t_21 at *
                generalize vals 22 = t_22 at *
                go_wp2
                go_roundw
                case rel => exact ⟨k + 1, by omega, by go_num, HF⟩
                case measure => simp [intOf]; omega
            · have hlk' : ¬ (k : Int) < 3 := by omega
              have HB4 := Lib.hid (HB3.out.up (M := 2 * (i + 1)) (by omega))
              clear hlk HB9
              go_wp2
              go_roundw
              case rel => exact ⟨i + 1, q3, s3, b0, b1, b2, by omega, by go_num, by omega, HB4, HA3, HS4⟩
              case measure => simp [intOf]; omega
    · obtain rfl : i = 60 := by omega
      have HF1 := Lib.hid HS.out.out
      clear HS HA HB
      go_wp2_with fail
      (with_reducible refine (HAW.out _).mono ?_); rintro e w12 ⟨rfl, hb⟩
      have HF := Lib.hid (HF1.out.trans (hb.mono HF1.out.size))
      clear hb HF1
      go_wp2
      go_ret
      exact ⟨rfl, HF.out⟩
end Go.Proofs.Ytkhngfadhfomoaa

