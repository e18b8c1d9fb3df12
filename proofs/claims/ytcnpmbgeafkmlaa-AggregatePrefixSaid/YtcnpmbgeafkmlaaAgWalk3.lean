/-
  Layer 20: the walk of AggregatePrefix. Written by gen_agwalk3.py.
-/
import Derived.Test.YtcnpmbgeafkmlaaAgHelp
namespace Go.Proofs.Ytcnpmbgeafkmlaa
open Go.ChangeShapes Go.WideShapes Go.ChangeAt Go.RowKit
set_option linter.unusedVariables false

theorem agL_snoc {L : List Int} {x : Int} (h : agL L = true) (hx : 1 ≤ x ∧ x ≤ 4096) : agL (L ++ [x]) = true := by
  unfold agL at *
  rw [List.all_append, h]
  simp [agX, hx]
set_option maxRecDepth 100000 in
set_option maxHeartbeats 16000000 in
theorem walkPrefix20 (A : Option Addr) (len cap : Nat) (w : World) (he : Elems w.heap.size A len w) :
    Calls Try.prog 5 #[.slice A len cap] w (Calm (.bool true) w) := by
  have h0 := GenP.new (w0 := w) (cap := cap) he (Below.refl _ _) he
  have HX := Lib.hid (h0.call (GenP.next (n := 9) (by omega) (by omega) (by omega)))
  clear h0 he
  unfold Calm
  go_enter Try.func5, Try.ntmps5
  go_wp2_with fail
  (with_reducible refine (new_any A len cap _).mono ?_); rintro e w' ⟨rfl, rfl⟩
  go_wp2_with fail
  (with_reducible refine HX.out.mono ?_); rintro e w2 ⟨⟨r, r0, r1⟩, rfl, h1⟩
  obtain ⟨k0, rfl⟩ := Int.eq_ofNat_of_zero_le r0
  have hk5 : k0 ≤ 8 := by omega
  have hw1 : IntKind.i64.wrap (1 + (k0 : Int)) = ((k0 + 1 : Nat) : Int) := by rw [IntWalk.i64_in _ (by omega)]; omega
  have HI0 := Lib.hid (Inv.row0 (cs := csI) (m := 1) (t := 3) h1)
  clear HX h1
  go_wp2_with fail
  go_loopw [4, 5] (fun s4 s5 wr => ∃ (k q2 : Nat) (L : List Int) (A_ : Option Addr) (c : Nat), L.length + k = k0 + 1 ∧ s5 = .int .i64 k ∧ s4 = .slice A_ L.length c ∧ q2 ≤ 1 + L.length ∧ Hid (agL L = true) ∧ Hid (Inv w.heap.size w (Star (RowP csI 1 3 w.heap.size (.slice A_ L.length c) L) (GenP w.heap.size w.heap.size A len cap q2)) wr)) (fun _ s5 _ => (intOf s5).toNat)
  case atStart => exact ⟨k0 + 1, 0 + 1, [], none, 0, by simp, rfl, rfl, by simp, Lib.hid rfl, HI0⟩
  case round =>
    obtain ⟨kk_, q2, L, A7, c7, hk, rfl, rfl, hq2, HL, HI⟩ := hrel
    clear HI0 hw1
    by_cases hk0 : 0 < kk_
    · have hk0' : (0 : Int) < kk_ := by omega
      have HX := Lib.hid (HI.out.call (Acts.right RowP.frm (GenP.length (by omega))))
      clear HI
      go_wp2_with fail
      (with_reducible refine HX.out.mono ?_); rintro e w3 ⟨⟨x, x0, x1⟩, rfl, h1⟩
      obtain ⟨A8, c8, w4, hrun, h4⟩ := Inv.app intElt h1 GenP.frm (by omega) x
      unfold csI at hrun
      have hll : (L ++ [x]).length = L.length + 1 := by simp
      have HI2 := Lib.hid h4
      have HL2 := Lib.hid (agL_snoc HL.out ⟨x0, x1⟩)
      have HVE := Lib.hid (show Value.slice A8 (L.length + 1) c8 = .slice A8 (L ++ [x]).length c8 by rw [hll])
      rw [← hll] at HI2
      clear HX h1 h4 HL
      obtain ⟨kk, rfl⟩ : ∃ kk, kk_ = kk + 1 := ⟨kk_ - 1, by omega⟩
      go_wp2_with (at_builtin; refine wpList_append_run rfl (.tmp 21) (.tmp 24) 22 rfl rfl rfl hrun ?_)
      go_roundw
      case rel => exact ⟨kk, q2 + 1, L ++ [x], A8, c8, by rw [hll]; omega, by go_num, HVE.out, by rw [hll]; omega, HL2, HI2⟩
      case measure => simp [intOf]
    · obtain rfl : kk_ = 0 := by omega
      have HX := Lib.hid (HI.out.call (Acts.right RowP.frm (GenP.gcaps (by omega))))
      clear HI
      go_wp2_with fail
      (with_reducible refine HX.out.mono ?_); rintro e w3 ⟨⟨⟨⟨p, b, t⟩, q3⟩, hcv, hq3⟩, rfl, h1⟩
      simp only at hcv hq3 h1
      unfold aggC
      have HCV := Lib.hid hcv
      have HX2 := Lib.hid (h1.call (Acts.right RowP.frm (GenP.grate (by omega))))
      clear HX h1
      go_wp2_with fail
      (with_reducible refine HX2.out.mono ?_); rintro e w4 ⟨⟨⟨k, o⟩, hko⟩, rfl, h1⟩
      have hko2 : aiV k o = true := hko
      obtain ⟨wB, hwB, hx⟩ := Bx2.all w4 p b t k o
      have HXX := Lib.hid hx
      have HW4 := Lib.hid h1.out
      obtain ⟨A9, c9, e9, hs⟩ := SlI.of (Inv.rowA intElt h1)
      obtain ⟨rfl, rfl⟩ : A7 = A9 ∧ c7 = c9 := by simpa using e9
      have hLn : L.length = k0 + 1 := by omega
      have hBE : agBE L p b t k o = 0 := agBE_zero.2 ⟨⟨HCV.out, hko2, HL.out, by omega⟩, by omega⟩
      have hM : agM L = L.length := by unfold agM; omega
      have hBn : agBn L p b t k o = (agN L p b t k o L.length : Nat) := by unfold agBn; rw [if_pos hBE, hM]
      have hNL := agN_le L p b t k o L.length
      have HIS := Lib.hid (fun j (hj : 1 ≤ j) (hjl : j ≤ L.length) => agN_is L p b t k o (m := L.length) (Nat.le_refl _) hj hjl)
      have HBD := Lib.hid (fun (W : World) (hb : Below wB.heap.size wB W) => (by
        have h9 := pbuild_any (hs.later (hx W hb).bel) (by omega) p b t k o
        rw [hBE, hBn] at h9; exact h9 : Calls Try.prog 19 #[.slice A7 L.length c7, .agg #[.int .i64 p, .int .i64 b, .int .i64 t], .agg #[.int .i64 k, .int .i64 o]] W (AiB (.tuple #[.int .i64 (agN L p b t k o L.length : Nat), .int .i64 (agBt L p b t k o), .int .i64 0]) W)))
      have HPM0 := Lib.hid (fun (j : Nat) (hj : j ≤ L.length) (W : World) (hb : Below wB.heap.size wB W) => (by
        have h9 := ppermitted_any ((hs.later (hx W hb).bel).take hj) (by rw [List.length_take]; omega) p b t k o
        have e9 : (L.take j).length = j := by rw [List.length_take]; omega
        rw [e9] at h9; exact h9 : Calls Try.prog 20 #[.slice A7 j c7, .agg #[.int .i64 p, .int .i64 b, .int .i64 t], .agg #[.int .i64 k, .int .i64 o]] W (AiB (.bool (agP (L.take j) p b t k o)) W)))
      have HNIL := Lib.hid (fun (W : World) => (by
        have h9 := ppermitted_any (SlI.nil W) (by decide) p b t k o
        have e9 : agP [] p b t k o = false := agP_no (by intro e; exact absurd e.1 (by decide))
        rw [e9] at h9; exact h9 : Calls Try.prog 20 #[.slice none 0 0, .agg #[.int .i64 p, .int .i64 b, .int .i64 t], .agg #[.int .i64 k, .int .i64 o]] W (AiB (.bool false) W)))
      have hlc := hs.1
      obtain ⟨_, y0, y1, y2, y3, y4⟩ := hx wB (Below.refl _ _)
      have HB0 := Lib.hid (HBD.out wB (Below.refl _ _))
      obtain ⟨NN, hNN⟩ : ∃ NN, agN L p b t k o L.length = NN := ⟨_, rfl⟩
      rw [hNN] at hNL HIS HB0
      generalize agBt L p b t k o = bt at *
      obtain ⟨n, hn⟩ : ∃ n, L.length = n := ⟨_, rfl⟩
      rw [hn] at hNL HIS HB0 HPM0 hLn hlc ⊢
      have hnb : 1 ≤ n := by omega
      have hnb2 : n ≤ 9 := by omega
      clear HX2 h1 hx e9 hs hBE hM hBn HBD hNN hcv hko2 hn HL hk hq2 hLn
      unfold AiB at *
      go_wp2_with fail
      (with_reducible refine HB0.out.mono ?_); rintro e w5 ⟨rfl, hb⟩
      have HB := Lib.hid hb
      have hq1 : (NN : Int) ≤ n := by omega
      have hq2 : (0 : Int) ≤ NN := by omega
      clear hb HB0 y0 y1 y2 y3 y4
      go_wp2_with fail
      go_loopw [11] (fun s11 wr => ∃ j : Nat, 1 ≤ j ∧ j ≤ n + 1 ∧ s11 = .int .i64 j ∧ Hid (Below wB.heap.size wB wr)) (fun s11 _ => n + 1 - (intOf s11).toNat)
      case atStart => exact ⟨1, Nat.le_refl _, by omega, rfl, HB⟩
      case round =>
        obtain ⟨j, hj1, hj, rfl, HBr⟩ := hrel
        clear HB
        have HB := HBr
        clear HBr
        by_cases hlt : j ≤ n
        · have hjn : (j : Int) ≤ n := by omega
          have hjc : (j : Int) ≤ c7 := by omega
          have hjcn : j ≤ c7 := by omega
          have hj0 : (0 : Int) ≤ j := by omega
          have HC4 := Lib.hid (fun (W : World) (hw : Below wr.drew.heap.size wr.drew W) => (by
            obtain ⟨_, g0, g1, g2, g3, g4⟩ := HXX.out W (HB.out.trans (((Below.refl _ wr).drew.trans hw).mono HB.out.size))
            exact ⟨g0, g1, g2, g3, g4⟩ : W.cell? ⟨w4.heap.size, 0, none⟩ = some (.int .i64 p) ∧ W.cell? ⟨w4.heap.size, 1, none⟩ = some (.int .i64 b) ∧ W.cell? ⟨w4.heap.size, 2, none⟩ = some (.int .i64 t) ∧ W.cell? ⟨w4.heap.size + 1, 0, none⟩ = some (.int .i64 k) ∧ W.cell? ⟨w4.heap.size + 1, 1, none⟩ = some (.int .i64 o)))
          have HPM1 := Lib.hid (fun (W : World) (hw : Below wr.drew.heap.size wr.drew W) => HPM0.out j (by omega) W (HB.out.trans (((Below.refl _ wr).drew.trans hw).mono HB.out.size)))
          have his := HIS.out j hj1 hlt
          obtain ⟨pm, hpm⟩ : ∃ pm, decide (j ≤ NN) = pm := ⟨_, rfl⟩
          rw [his, hpm] at HPM1
          have HPM := HPM1
          have hd1 : decide ((j : Int) ≤ (NN : Int)) = pm := by rw [← hpm]; exact decide_eq_decide.2 (by omega)
          have hpp : (pm != pm) = false := by simp
          clear HPM1 his HPM0 HIS HNIL
          go_wp2_with fail
          refine wp_region_looseS 73 (by kernel_rfl) (by kernel_rfl) (StB wr.drew (fun vI => [.slice A7 n c7, .int .i64 (j : Nat), .slice A7 j c7, .agg #[.int .i64 p, .int .i64 b, .int .i64 t], .agg #[.int .i64 k, .int .i64 o], .bool pm, .int .i64 (j : Nat), .int .i64 (NN : Nat), .bool pm, .bool false].getD vI undef)) rfl StB.start ?_ ?_
          · simp only [OblAllS]
            refine ⟨?_, ?_, ?_, ?_, ?_, ?_, ?_, ?_, ?_, ?_, trivial⟩
            · intro L wx vals hi hu hcl hC
              have HCx := Lib.hid hC
              clear hC hcl hu hi
              simp only [fillA, if_true, Act.put]
              simp
              go_wp2
              exact ⟨rfl, HCx.out.quiet 0 rfl⟩
            · intro L wx vals hi hu hcl hC
              have HCx := Lib.hid hC
              clear hC hcl hu hi
              simp only [fillA, if_true, Act.put]
              simp
              go_wp2
              exact ⟨rfl, HCx.out.quiet 1 rfl⟩
            · intro L wx vals hi hu hcl hC
              simp [predL, predE, Region.binds, UpL] at hu
              have e0 : vals 0 = .slice A7 n c7 := hC.v 0 (by simp [hu])
              have e1 : vals 1 = .int .i64 (j : Nat) := hC.v 1 (by simp [hu])
              have HCx := Lib.hid hC
              clear hC hcl hu hi
              simp only [fillA, if_true, Act.put]
              simp
              simp only [e0, e1]
              clear e0 e1
              go_wp2
              exact ⟨rfl, HCx.out.quiet 2 rfl⟩
            · intro L wx vals hi hu hcl hC
              have h0 := (HC4.out wx hC.b).1
              have h1 := (HC4.out wx hC.b).2.1
              have h2 := (HC4.out wx hC.b).2.2.1
              have HCx := Lib.hid hC
              clear hC hcl hu hi
              simp only [fillA, if_true, Act.put]
              simp
              go_wp2
              exact ⟨rfl, HCx.out.quiet 3 rfl⟩
            · intro L wx vals hi hu hcl hC
              have h0 := (HC4.out wx hC.b).2.2.2.1
              have h1 := (HC4.out wx hC.b).2.2.2.2
              have HCx := Lib.hid hC
              clear hC hcl hu hi
              simp only [fillA, if_true, Act.put]
              simp
              go_wp2
              exact ⟨rfl, HCx.out.quiet 4 rfl⟩
            · intro L wx vals hi hu hcl hC
              simp [predL, predE, Region.binds, UpL] at hu
              have e2 : vals 2 = .slice A7 j c7 := hC.v 2 (by simp [hu])
              have e3 : vals 3 = .agg #[.int .i64 p, .int .i64 b, .int .i64 t] := hC.v 3 (by simp [hu])
              have e4 : vals 4 = .agg #[.int .i64 k, .int .i64 o] := hC.v 4 (by simp [hu])
              have HL := Lib.hid (HPM.out wx hC.b)
              have HCx := Lib.hid hC
              clear hC hcl hu hi
              simp only [fillA, if_true, Act.put]
              simp
              simp only [e2, e3, e4]
              clear e2 e3 e4
              go_wp2_with fail
              (with_reducible refine HL.out.mono ?_); rintro e w9 ⟨rfl, hb⟩
              have HX := Lib.hid (HCx.out.step 5 (x := .bool pm) rfl (HCx.out.b.trans (hb.mono HCx.out.b.size)))
              clear hb
              go_wp2
              exact ⟨rfl, HX.out⟩
            · intro L wx vals hi hu hcl hC
              have HCx := Lib.hid hC
              clear hC hcl hu hi
              simp only [fillA, if_true, Act.put]
              simp
              go_wp2
              exact ⟨rfl, HCx.out.quiet 6 rfl⟩
            · intro L wx vals hi hu hcl hC
              have HCx := Lib.hid hC
              clear hC hcl hu hi
              simp only [fillA, if_true, Act.put]
              simp
              go_wp2
              exact ⟨rfl, HCx.out.quiet 7 rfl⟩
            · intro L wx vals hi hu hcl hC
              simp [predL, predE, Region.binds, UpL] at hu
              have e6 : vals 6 = .int .i64 (j : Nat) := hC.v 6 (by simp [hu])
              have e7 : vals 7 = .int .i64 (NN : Nat) := hC.v 7 (by simp [hu])
              have HCx := Lib.hid hC
              clear hC hcl hu hi
              simp only [fillA, if_true, Act.put]
              simp
              simp only [e6, e7]
              clear e6 e7
              go_wp2
              exact ⟨rfl, HCx.out.quiet 8 rfl⟩
            · intro L wx vals hi hu hcl hC
              simp [predL, predE, Region.binds, UpL] at hu
              have e5 : vals 5 = .bool pm := hC.v 5 (by simp [hu])
              have e8 : vals 8 = .bool pm := hC.v 8 (by simp [hu])
              have HCx := Lib.hid hC
              clear hC hcl hu hi
              simp only [fillA, if_true, Act.put]
              simp
              simp only [e5, e8]
              clear e5 e8
              go_wp2
              exact ⟨rfl, HCx.out.quiet 9 rfl⟩
          · intro wz vals U hC hall
            have e9 : vals 9 = .bool false := hC.v 9 (hall 9 (by simp))
            have HW := Lib.hid (HB.out.trans (((Below.refl _ wr).drew.trans hC.b).mono HB.out.size))
            simp only [fillA, if_true, Act.put]
            simp
            simp only [e9]
            clear hC hall e9 HC4 HPM HB
            generalize vals 0 = t_0 at *
            generalize vals 1 = t_1 at *
            generalize vals 2 = t_2 at *
            generalize vals 3 = t_3 at *
            generalize vals 4 = t_4 at *
            generalize vals 5 = t_5 at *
            generalize vals 6 = t_6 at *
            generalize vals 7 = t_7 at *
            generalize vals 8 = t_8 at *
            generalize vals 9 = t_9 at *
            go_wp2
            go_roundw
            case rel => exact ⟨j + 1, by omega, by omega, by go_num, HW⟩
            case measure => simp [intOf]; omega
        · obtain rfl : j = n + 1 := by omega
          have hq3 : (n : Int) < (n : Int) + 1 := by omega
          obtain ⟨_, x0, x1, x2, x3, x4⟩ := HXX.out wr HB.out
          have HN1 := Lib.hid (HNIL.out wr)
          have HB4 := Lib.hid (HW4.out.trans ((HXX.out wr HB.out).bel.mono HW4.out.size))
          clear HNIL HPM0 HIS HB HW4
          go_wp2_with fail
          (with_reducible refine HN1.out.mono ?_); rintro e w6 ⟨rfl, hb⟩
          have HB5 := Lib.hid (HB4.out.trans (hb.mono HB4.out.size))
          have HAW := Lib.hid (awake20_any w6)
          unfold AiB at HAW
          clear hb HB4 HN1 x0 x1 x2 x3 x4
          go_wp2_with fail
          (with_reducible refine HAW.out.mono ?_); rintro e w7 ⟨rfl, hb⟩
          have HF := Lib.hid (HB5.out.trans (hb.mono HB5.out.size))
          clear hb HAW HB5
          go_wp2
          go_ret
          exact ⟨rfl, HF.out⟩
end Go.Proofs.Ytcnpmbgeafkmlaa

