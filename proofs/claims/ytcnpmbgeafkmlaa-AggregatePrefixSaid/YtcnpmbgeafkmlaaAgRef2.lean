/-
  Layer 20: the reference's Build and Most. Every input. Written by gen_agref2.py.
-/
import Derived.Test.YtcnpmbgeafkmlaaAgRef
import Derived.Test.YtcnpmbgeafkmlaaStK
import Derived.Test.YtcnpmbgeafkmlaaStA
import Derived.BigQuiet
import Derived.LoopTactic
import Derived.Laws.Cover1
namespace Go.Proofs.Ytcnpmbgeafkmlaa
open Go.ChangeShapes Go.WideShapes Go.ChangeAt Go.RowKit
set_option linter.unusedVariables false

/-- The two structs that came in by value, in blocks of the call's own. -/
structure Bx2 (w : World) (p b t k o : Int) (W : World) : Prop where
  bel : Below w.heap.size w W
  a0 : W.cell? ⟨w.heap.size, 0, none⟩ = some (.int .i64 p)
  a1 : W.cell? ⟨w.heap.size, 1, none⟩ = some (.int .i64 b)
  a2 : W.cell? ⟨w.heap.size, 2, none⟩ = some (.int .i64 t)
  b0 : W.cell? ⟨w.heap.size + 1, 0, none⟩ = some (.int .i64 k)
  b1 : W.cell? ⟨w.heap.size + 1, 1, none⟩ = some (.int .i64 o)
theorem Bx2.all (w : World) (p b t k o : Int) : ∃ wB, (w.alloc (.cells #[.int .i64 p, .int .i64 b, .int .i64 t] 24)).alloc (.cells #[.int .i64 k, .int .i64 o] 34) = wB ∧ ∀ W, Below wB.heap.size wB W → Bx2 w p b t k o W := by
  have hbA := (Below.refl w.heap.size w).alloc (Nat.le_refl _) (.cells #[.int .i64 p, .int .i64 b, .int .i64 t] 24)
  have hbB := hbA.alloc (by simp) (.cells #[.int .i64 k, .int .i64 o] 34)
  refine ⟨_, rfl, fun W hb => ?_⟩
  have hfA : Whole ((w.alloc (.cells #[.int .i64 p, .int .i64 b, .int .i64 t] 24)).alloc (.cells #[.int .i64 k, .int .i64 o] 34)) w.heap.size 24 #[.int .i64 p, .int .i64 b, .int .i64 t] := ((Whole.fresh w _ _).alloc (.cells #[.int .i64 k, .int .i64 o] 34))
  have hfB : Whole ((w.alloc (.cells #[.int .i64 p, .int .i64 b, .int .i64 t] 24)).alloc (.cells #[.int .i64 k, .int .i64 o] 34)) (w.heap.size + 1) 34 #[.int .i64 k, .int .i64 o] := by
    have := Whole.fresh (w.alloc (.cells #[.int .i64 p, .int .i64 b, .int .i64 t] 24)) 34 #[.int .i64 k, .int .i64 o]
    simpa using this
  have g1 := hfA.later hb
  have g2 := hfB.later hb
  exact ⟨hbB.trans (hb.mono (by simp; omega)), (g1.read 0).trans rfl, (g1.read 1).trans rfl, (g1.read 2).trans rfl, (g2.read 0).trans rfl, (g2.read 1).trans rfl⟩
theorem agN_step (l : List Int) (p b t k o : Int) (m : Nat) : agN l p b t k o (m + 1) = if agP (l.take (m + 1)) p b t k o = true then m + 1 else agN l p b t k o m := rfl
theorem agN_zero (l : List Int) (p b t k o : Int) : agN l p b t k o 0 = 0 := rfl
theorem agBE_cases (L : List Int) (p b t k o : Int) : (agV p b t = false ∧ agBE L p b t k o = 1) ∨ (agV p b t = true ∧ aiV k o = false ∧ agBE L p b t k o = 1) ∨ (agV p b t = true ∧ aiV k o = true ∧ (agL L && decide ((L.length : Int) ≤ 128)) = false ∧ agBE L p b t k o = 1) ∨ (agV p b t = true ∧ aiV k o = true ∧ (agL L && decide ((L.length : Int) ≤ 128)) = true ∧ ((L.length = 0 ∧ agBE L p b t k o = 5) ∨ (L.length ≠ 0 ∧ agBE L p b t k o = 0))) := by
  unfold agBE
  cases h1 : agV p b t
  · left; simp
  · cases h2 : aiV k o
    · right; left; simp
    · cases h3 : agL L
      · right; right; left; simp
      · by_cases h4 : L.length ≤ 128
        · right; right; right
          have h4' : (L.length : Int) ≤ 128 := by omega
          by_cases h0 : L.length = 0
          · simp [h0]
          · simp [h0, h4, h4']
        · right; right; left
          have h4' : ¬ (L.length : Int) ≤ 128 := by omega
          simp [h4, h4']
theorem agBn_no {L : List Int} {p b t k o : Int} (h : agBE L p b t k o ≠ 0) : agBn L p b t k o = 0 ∧ agBt L p b t k o = 0 := by
  unfold agBn agBt
  rw [if_neg h, if_neg (fun e => h e.1)]; exact ⟨rfl, rfl⟩
set_option maxRecDepth 100000 in
set_option maxHeartbeats 16000000 in
theorem rbuild_any {A : Option Addr} {c : Nat} {L : List Int} {w : World} (h : SlI A c L w) (hn : L.length ≤ 100000) (p b t k o : Int) : Calls Try.prog 25 #[.slice A L.length c, .agg #[.int .i64 p, .int .i64 b, .int .i64 t], .agg #[.int .i64 k, .int .i64 o]] w (AiB (.tuple #[.int .i64 (agBn L p b t k o), .int .i64 (agBt L p b t k o), .int .i64 (agBE L p b t k o)]) w) := by
  obtain ⟨wB, hwB, hx⟩ := Bx2.all w p b t k o
  obtain ⟨hbel, y0, y1, y2, y3, y4⟩ := hx wB (Below.refl _ _)
  have HX := Lib.hid hx
  have HVC := Lib.hid (fun W => rvalidcaps_any p b t W)
  have HVR := Lib.hid (fun W => rvalidrate_any k o W)
  have HLOK := Lib.hid (fun (W : World) (hb : Below wB.heap.size wB W) => rlok_any (h.later (hx W hb).bel) (by omega) 128)
  have HB0 := Lib.hid (Below.refl wB.heap.size wB)
  unfold AiB at *
  rcases agBE_cases L p b t k o with ⟨h1, hE⟩ | ⟨h1, h2, hE⟩ | ⟨h1, h2, h3, hE⟩ | ⟨h1, h2, h3, ⟨h0, hE⟩ | ⟨h0, hE⟩⟩
  · obtain ⟨e1, e2⟩ := agBn_no (L := L) (p := p) (b := b) (t := t) (k := k) (o := o) (by rw [hE]; decide)
    rw [e1, e2, hE]
    rw [h1] at HVC
    clear e1 e2 hE h1 h hx HLOK hbel
    generalize L.length = n at *
    go_enter Try.func25, Try.ntmps25
    go_wp2_with fail
    (with_reducible refine (HVC.out _).mono ?_); rintro e w1 ⟨rfl, hb⟩
    have HB := Lib.hid hb
    have hbx := HX.out w1 HB.out
    obtain ⟨_, x0, x1, x2, x3, x4⟩ := hbx
    clear hb
    have HF := Lib.hid (HX.out _ HB.out).bel
    go_wp2
    go_ret3
    exact ⟨rfl, HF.out⟩
  · obtain ⟨e1, e2⟩ := agBn_no (L := L) (p := p) (b := b) (t := t) (k := k) (o := o) (by rw [hE]; decide)
    rw [e1, e2, hE]
    rw [h1] at HVC
    rw [h2] at HVR
    clear e1 e2 hE h1 h2 h hx HLOK hbel
    generalize L.length = n at *
    go_enter Try.func25, Try.ntmps25
    go_wp2_with fail
    (with_reducible refine (HVC.out _).mono ?_); rintro e w1 ⟨rfl, hb⟩
    have HB := Lib.hid hb
    have hbx := HX.out w1 HB.out
    obtain ⟨_, x0, x1, x2, x3, x4⟩ := hbx
    clear hb
    go_wp2_with fail
    (with_reducible refine (HVR.out _).mono ?_); rintro e w2 ⟨rfl, hb⟩
    have HB := Lib.hid (HB.out.trans (hb.mono HB.out.size))
    clear hb x0 x1 x2 x3 x4
    have HF := Lib.hid (HX.out _ HB.out).bel
    go_wp2
    go_ret3
    exact ⟨rfl, HF.out⟩
  · obtain ⟨e1, e2⟩ := agBn_no (L := L) (p := p) (b := b) (t := t) (k := k) (o := o) (by rw [hE]; decide)
    rw [e1, e2, hE]
    rw [h1] at HVC
    rw [h2] at HVR
    rw [h3] at HLOK
    clear e1 e2 hE h1 h2 h3 h hx hbel
    generalize L.length = n at *
    go_enter Try.func25, Try.ntmps25
    go_wp2_with fail
    (with_reducible refine (HVC.out _).mono ?_); rintro e w1 ⟨rfl, hb⟩
    have HB := Lib.hid hb
    have hbx := HX.out w1 HB.out
    obtain ⟨_, x0, x1, x2, x3, x4⟩ := hbx
    clear hb
    go_wp2_with fail
    (with_reducible refine (HVR.out _).mono ?_); rintro e w2 ⟨rfl, hb⟩
    have HB := Lib.hid (HB.out.trans (hb.mono HB.out.size))
    clear hb x0 x1 x2 x3 x4
    have HLK := Lib.hid (HLOK.out w2 HB.out)
    go_wp2_with fail
    (with_reducible refine HLK.out.mono ?_); rintro e w3 ⟨rfl, rfl⟩
    clear HLK
    have HF := Lib.hid (HX.out _ HB.out).bel
    go_wp2
    go_ret3
    exact ⟨rfl, HF.out⟩
  · obtain ⟨e1, e2⟩ := agBn_no (L := L) (p := p) (b := b) (t := t) (k := k) (o := o) (by rw [hE]; decide)
    rw [e1, e2, hE]
    rw [h1] at HVC
    rw [h2] at HVR
    rw [h3] at HLOK
    rw [h0] at HLOK ⊢
    clear e1 e2 hE h1 h2 h3 h hx hbel h0
    go_enter Try.func25, Try.ntmps25
    go_wp2_with fail
    (with_reducible refine (HVC.out _).mono ?_); rintro e w1 ⟨rfl, hb⟩
    have HB := Lib.hid hb
    have hbx := HX.out w1 HB.out
    obtain ⟨_, x0, x1, x2, x3, x4⟩ := hbx
    clear hb
    go_wp2_with fail
    (with_reducible refine (HVR.out _).mono ?_); rintro e w2 ⟨rfl, hb⟩
    have HB := Lib.hid (HB.out.trans (hb.mono HB.out.size))
    clear hb x0 x1 x2 x3 x4
    have HLK := Lib.hid (HLOK.out w2 HB.out)
    go_wp2_with fail
    (with_reducible refine HLK.out.mono ?_); rintro e w3 ⟨rfl, rfl⟩
    clear HLK
    have HF := Lib.hid (HX.out _ HB.out).bel
    go_wp2
    go_ret3
    exact ⟨rfl, HF.out⟩
  · obtain ⟨⟨_, _, hL, _⟩, _⟩ := agBE_zero.1 hE
    have hcv := agV_cases h1
    have hBn : agBn L p b t k o = (agN L p b t k o (agM L) : Nat) := if_pos hE
    have hBt : agBt L p b t k o = if agN L p b t k o (agM L) ≠ 0 then aiZ k o (agZ (L.take (agN L p b t k o (agM L)))) else 0 := by
      unfold agBt
      by_cases h9 : agN L p b t k o (agM L) = 0
      · rw [if_neg (fun e => e.2 h9), if_neg (by simp [h9])]
      · rw [if_pos ⟨hE, h9⟩, if_pos h9]
    have hNL := agN_le L p b t k o (agM L)
    have hML : agM L ≤ L.length ∧ agM L ≤ 32 := by unfold agM; omega
    have hMM : agM L = L.length ∨ (agM L = 32 ∧ 32 < L.length) := by unfold agM; omega
    have hper := fun h => agN_per L p b t k o (m := agM L) h
    have HPM0 := Lib.hid (fun (j : Nat) (hj : j ≤ L.length) (W : World) (hb : Below wB.heap.size wB W) => (by
      have h9 := rpermitted_any ((h.later (hx W hb).bel).take hj) (by rw [List.length_take]; omega) p b t k o
      have e9 : (L.take j).length = j := by rw [List.length_take]; omega
      rw [e9] at h9; exact h9 : Calls Try.prog 26 #[.slice A j c, .agg #[.int .i64 p, .int .i64 b, .int .i64 t], .agg #[.int .i64 k, .int .i64 o]] W (AiB (.bool (agP (L.take j) p b t k o)) W)))
    have HSZ := Lib.hid (fun (hN : agN L p b t k o (agM L) ≠ 0) (W : World) (hb : Below wB.heap.size wB W) => (by
      have h9 := rsize_any ((h.later (hx W hb).bel).take (k := agN L p b t k o (agM L)) (by omega)) (by rw [List.length_take]; omega)
      have e9 : (L.take (agN L p b t k o (agM L))).length = agN L p b t k o (agM L) := by rw [List.length_take]; omega
      have hP := agP_iff.1 (hper hN)
      have e8 : agSV (L.take (agN L p b t k o (agM L))) = agZ (L.take (agN L p b t k o (agM L))) := by unfold agSV; rw [if_pos hP.1]
      rw [e9, e8, hP.1] at h9; exact h9 : Calls Try.prog 24 #[.slice A (agN L p b t k o (agM L)) c] W fun e w' => e = .returned (.tuple #[.int .i64 (agZ (L.take (agN L p b t k o (agM L)))), .int .i64 0]) ∧ W = w'))
    have HTM := Lib.hid (fun (hN : agN L p b t k o (agM L) ≠ 0) (W : World) => (by
      have hP := agP_iff.1 (hper hN)
      have hz := agZ_bd hP.1
      have h9 := rtime_any k o (agZ (L.take (agN L p b t k o (agM L)))) W
      have e1 : aiTV k o (agZ (L.take (agN L p b t k o (agM L)))) = aiZ k o (agZ (L.take (agN L p b t k o (agM L)))) := if_pos (aiOk_mk h2 (by omega) (by omega))
      rw [e1] at h9; exact h9 : Calls Try.prog 35 #[.agg #[.int .i64 k, .int .i64 o], .int .i64 (agZ (L.take (agN L p b t k o (agM L))))] W (AiB (.tuple #[.int .i64 (aiZ k o (agZ (L.take (agN L p b t k o (agM L))))), .int .i64 (aiTE k o (agZ (L.take (agN L p b t k o (agM L)))))]) W)))
    have HNS0 := Lib.hid (fun m => agN_step L p b t k o m)
    have HN0 := Lib.hid (agN_zero L p b t k o)
    have hlc := h.1
    rw [hBn, hBt, hE]
    rw [h1] at HVC
    rw [h2] at HVR
    rw [h3] at HLOK
    obtain ⟨M, hM⟩ : ∃ M, agM L = M := ⟨_, rfl⟩
    rw [hM] at hNL hML hMM HSZ HTM ⊢
    obtain ⟨NN, hNN⟩ : ∃ NN, agN L p b t k o M = NN := ⟨_, rfl⟩
    have HNN := Lib.hid hNN
    rw [hNN] at hNL HSZ HTM ⊢
    generalize agZ (L.take NN) = zz at *
    generalize aiZ k o zz = tz at *
    generalize aiTE k o zz = te at *
    obtain ⟨tt, htt⟩ : ∃ tt, (if NN ≠ 0 then tz else 0) = tt := ⟨_, rfl⟩
    rw [htt]
    have HTT := Lib.hid (show (NN = 0 → tt = 0) ∧ (NN ≠ 0 → tz = tt) by
      rw [← htt]
      exact ⟨fun h => by rw [if_neg (by simp [h])], fun h => by rw [if_pos h]⟩)
    clear htt
    clear hE h1 h2 h3 h hx hbel hBn hBt hper hcv hL hM hNN
    generalize agN L p b t k o = nu at *
    obtain ⟨n, hn_⟩ : ∃ n, L.length = n := ⟨_, rfl⟩
    rw [hn_] at h0 hn HLOK hML hMM HPM0 hlc ⊢
    clear hn_
    have hn0 : ((n : Int) == 0) = false := by simp; omega
    unfold AiB at *
    go_enter Try.func25, Try.ntmps25
    go_wp2_with fail
    (with_reducible refine (HVC.out _).mono ?_); rintro e w1 ⟨rfl, hb⟩
    have HB := Lib.hid hb
    have hbx := HX.out w1 HB.out
    obtain ⟨_, x0, x1, x2, x3, x4⟩ := hbx
    clear hb
    go_wp2_with fail
    (with_reducible refine (HVR.out _).mono ?_); rintro e w2 ⟨rfl, hb⟩
    have HB := Lib.hid (HB.out.trans (hb.mono HB.out.size))
    clear hb x0 x1 x2 x3 x4
    have HLK := Lib.hid (HLOK.out w2 HB.out)
    go_wp2_with fail
    (with_reducible refine HLK.out.mono ?_); rintro e w3 ⟨rfl, rfl⟩
    clear HLK
    clear HVC HVR HLOK hwB y0 y1 y2 y3 y4 HB0
    go_wp2_with fail
    go_loopw [9, 10] (fun s9 s10 wr => ∃ j : Nat, 1 ≤ j ∧ j ≤ M + 1 ∧ s10 = .int .i64 j ∧ s9 = .int .i64 (nu (j - 1) : Nat) ∧ Hid (Below wB.heap.size wB wr)) (fun _ s10 _ => M + 1 - (intOf s10).toNat)
    case atStart => exact ⟨1, Nat.le_refl _, by omega, rfl, by rw [show 1 - 1 = 0 from rfl, HN0.out]; rfl, HB⟩
    case round =>
      obtain ⟨j, hj1, hj, rfl, rfl, HBr⟩ := hrel
      clear HB
      have HB := HBr
      clear HBr
      by_cases hlt : j ≤ M
      · have hjn : (j : Int) ≤ n := by omega
        have hj32 : (j : Int) ≤ 32 := by omega
        have hjc : (j : Int) ≤ c := by omega
        have hjcn : j ≤ c := by omega
        have hj0 : (0 : Int) ≤ j := by omega
        have HC4 := Lib.hid (fun (W : World) (hw : Below wr.drew.heap.size wr.drew W) => (by
          obtain ⟨_, g0, g1, g2, g3, g4⟩ := HX.out W (HB.out.trans (((Below.refl _ wr).drew.trans hw).mono HB.out.size))
          exact ⟨g0, g1, g2, g3, g4⟩ : W.cell? ⟨w.heap.size, 0, none⟩ = some (.int .i64 p) ∧ W.cell? ⟨w.heap.size, 1, none⟩ = some (.int .i64 b) ∧ W.cell? ⟨w.heap.size, 2, none⟩ = some (.int .i64 t) ∧ W.cell? ⟨w.heap.size + 1, 0, none⟩ = some (.int .i64 k) ∧ W.cell? ⟨w.heap.size + 1, 1, none⟩ = some (.int .i64 o)))
        have HPM1 := Lib.hid (fun (W : World) (hw : Below wr.drew.heap.size wr.drew W) => HPM0.out j (by omega) W (HB.out.trans (((Below.refl _ wr).drew.trans hw).mono HB.out.size)))
        have hns := HNS0.out (j - 1)
        rw [show j - 1 + 1 = j by omega] at hns
        obtain ⟨pm, hpm⟩ : ∃ pm, agP (L.take j) p b t k o = pm := ⟨_, rfl⟩
        rw [hpm] at HPM1 hns
        have HPM := HPM1
        have HNS := Lib.hid hns
        clear HPM1 hns hpm HPM0 HSZ HTM HNS0 HN0 HNN hMM
        go_wp2_with fail
        refine wp_region_looseS 65 (by kernel_rfl) (by kernel_rfl) (StB wr.drew (fun vI => [.slice A n c, .int .i64 (j : Nat), .slice A j c, .agg #[.int .i64 p, .int .i64 b, .int .i64 t], .agg #[.int .i64 k, .int .i64 o], .bool pm].getD vI undef)) rfl StB.start ?_ ?_
        · simp only [OblAllS]
          refine ⟨?_, ?_, ?_, ?_, ?_, ?_, trivial⟩
          · intro L wx vals hi hu hcl hC
            have HCx := Lib.hid hC
            clear hC hcl hu hi
            simp only [fillA, if_true, Act.put]
            simp
            go_wp2
            exact ⟨rfl, HCx.out.quiet 0 rfl⟩
          · intro L wx vals hi hu hcl hC
            have HCx := Lib.hid hC
            clear hC hcl hu hi
            simp only [fillA, if_true, Act.put]
            simp
            go_wp2
            exact ⟨rfl, HCx.out.quiet 1 rfl⟩
          · intro L wx vals hi hu hcl hC
            simp [predL, predE, Region.binds, UpL] at hu
            have e0 : vals 0 = .slice A n c := hC.v 0 (by simp [hu])
            have e1 : vals 1 = .int .i64 (j : Nat) := hC.v 1 (by simp [hu])
            have HCx := Lib.hid hC
            clear hC hcl hu hi
            simp only [fillA, if_true, Act.put]
            simp
            simp only [e0, e1]
            clear e0 e1
            go_wp2
            exact ⟨rfl, HCx.out.quiet 2 rfl⟩
          · intro L wx vals hi hu hcl hC
            have h0 := (HC4.out wx hC.b).1
            have h1 := (HC4.out wx hC.b).2.1
            have h2 := (HC4.out wx hC.b).2.2.1
            have HCx := Lib.hid hC
            clear hC hcl hu hi
            simp only [fillA, if_true, Act.put]
            simp
            go_wp2
            exact ⟨rfl, HCx.out.quiet 3 rfl⟩
          · intro L wx vals hi hu hcl hC
            have h0 := (HC4.out wx hC.b).2.2.2.1
            have h1 := (HC4.out wx hC.b).2.2.2.2
            have HCx := Lib.hid hC
            clear hC hcl hu hi
            simp only [fillA, if_true, Act.put]
            simp
            go_wp2
            exact ⟨rfl, HCx.out.quiet 4 rfl⟩
          · intro L wx vals hi hu hcl hC
            simp [predL, predE, Region.binds, UpL] at hu
            have e2 : vals 2 = .slice A j c := hC.v 2 (by simp [hu])
            have e3 : vals 3 = .agg #[.int .i64 p, .int .i64 b, .int .i64 t] := hC.v 3 (by simp [hu])
            have e4 : vals 4 = .agg #[.int .i64 k, .int .i64 o] := hC.v 4 (by simp [hu])
            have HL := Lib.hid (HPM.out wx hC.b)
            have HCx := Lib.hid hC
            clear hC hcl hu hi
            simp only [fillA, if_true, Act.put]
            simp
            simp only [e2, e3, e4]
            clear e2 e3 e4
            go_wp2_with fail
            (with_reducible refine HL.out.mono ?_); rintro e w9 ⟨rfl, hb⟩
            have HX := Lib.hid (HCx.out.step 5 (x := .bool pm) rfl (HCx.out.b.trans (hb.mono HCx.out.b.size)))
            clear hb
            go_wp2
            exact ⟨rfl, HX.out⟩
        · intro wz vals U hC hall
          have e5 : vals 5 = .bool pm := hC.v 5 (hall 5 (by simp))
          have HW := Lib.hid (HB.out.trans (((Below.refl _ wr).drew.trans hC.b).mono HB.out.size))
          simp only [fillA, if_true, Act.put]
          simp
          simp only [e5]
          clear hC hall e5 HC4 HPM HB
          generalize vals 0 = t_0 at *
          generalize vals 1 = t_1 at *
          generalize vals 2 = t_2 at *
          generalize vals 3 = t_3 at *
          generalize vals 4 = t_4 at *
          generalize vals 5 = t_5 at *
          cases pm
          · have hns := HNS.out
            rw [if_neg (by simp)] at hns
            have HVE := Lib.hid (show Value.int .i64 (nu (j - 1) : Nat) = .int .i64 (nu (j + 1 - 1) : Nat) by rw [show j + 1 - 1 = j by omega, hns])
            clear hns HNS
            go_wp2
            go_roundw
            case rel => exact ⟨j + 1, by omega, by omega, by go_num, HVE.out, HW⟩
            case measure => simp [intOf]; omega
          · have hns := HNS.out
            rw [if_pos rfl] at hns
            have HVE := Lib.hid (show Value.int .i64 (j : Nat) = .int .i64 (nu (j + 1 - 1) : Nat) by rw [show j + 1 - 1 = j by omega, hns])
            clear hns HNS
            go_wp2
            go_roundw
            case rel => exact ⟨j + 1, by omega, by omega, by go_num, HVE.out, HW⟩
            case measure => simp [intOf]; omega
      · obtain rfl : j = M + 1 := by omega
        have hnn : nu (M + 1 - 1) = NN := by rw [show M + 1 - 1 = M from rfl]; exact HNN.out
        rw [hnn]
        clear hnn HNS0 HN0 HNN HPM0
        by_cases hN0 : NN = 0
        · subst hN0
          have htt := HTT.out.1 rfl
          subst htt
          rcases hMM with hMM | ⟨hMM, hMM2⟩
          all_goals
            have hq : ¬ ((M : Int) + 1 ≤ n ∧ (M : Int) + 1 ≤ 32) := by omega
            have HF := Lib.hid (HX.out _ HB.out).bel
            clear HSZ HTM HX
            first
              | (have hq1 : (n : Int) < (M : Int) + 1 := by omega
                 go_wp2
                 go_ret3
                 exact ⟨rfl, HF.out⟩)
              | (have hq2 : (M : Int) + 1 ≤ n := by omega
                 have hq3 : (32 : Int) < (M : Int) + 1 := by omega
                 go_wp2
                 go_ret3
                 exact ⟨rfl, HF.out⟩)
        · have htt := HTT.out.2 hN0
          subst htt
          have HS1 := Lib.hid (HSZ.out hN0 wr HB.out)
          have HT1 := Lib.hid (HTM.out hN0 wr)
          have hN0' : ((NN : Int) == 0) = false := by simp; omega
          have hNc : (NN : Int) ≤ c := by omega
          have hNcn : NN ≤ c := by omega
          have hNn : (NN : Int) ≤ n := by omega
          have hNp : (0 : Int) ≤ NN := by omega
          obtain ⟨_, x0, x1, x2, x3, x4⟩ := HX.out wr HB.out
          clear HSZ HTM hN0
          rcases hMM with hMM | ⟨hMM, hMM2⟩
          all_goals
            first
              | (have hq1 : (n : Int) < (M : Int) + 1 := by omega
                 go_wp2_with fail
                 (with_reducible refine HS1.out.mono ?_); rintro e w4 ⟨rfl, rfl⟩
                 clear HS1
                 go_wp2_with fail
                 (with_reducible refine HT1.out.mono ?_); rintro e w5 ⟨rfl, hb⟩
                 have HF := Lib.hid (HX.out _ (HB.out.trans (hb.mono HB.out.size))).bel
                 clear HT1 hb
                 go_wp2
                 go_ret3
                 exact ⟨rfl, HF.out⟩)
              | (have hq2 : (M : Int) + 1 ≤ n := by omega
                 have hq3 : (32 : Int) < (M : Int) + 1 := by omega
                 go_wp2_with fail
                 (with_reducible refine HS1.out.mono ?_); rintro e w4 ⟨rfl, rfl⟩
                 clear HS1
                 go_wp2_with fail
                 (with_reducible refine HT1.out.mono ?_); rintro e w5 ⟨rfl, hb⟩
                 have HF := Lib.hid (HX.out _ (HB.out.trans (hb.mono HB.out.size))).bel
                 clear HT1 hb
                 go_wp2
                 go_ret3
                 exact ⟨rfl, HF.out⟩)
theorem agM_cases (p b t k o : Int) : (agV p b t = false ∧ agME p b t k o = 1 ∧ agMV p b t k o = 0) ∨ (agV p b t = true ∧ aiV k o = false ∧ agME p b t k o = 1 ∧ agMV p b t k o = 0) ∨ (agV p b t = true ∧ aiV k o = true ∧ t < o ∧ agME p b t k o = 2 ∧ agMV p b t k o = 0) ∨ (agV p b t = true ∧ aiV k o = true ∧ o ≤ t ∧ agME p b t k o = 0 ∧ agMV p b t k o = aiZ k o (agMn p b t k o)) := by
  unfold agMV agME
  cases h1 : agV p b t
  · left; simp
  · cases h2 : aiV k o
    · right; left; simp
    · by_cases h3 : t < o
      · right; right; left; simp [h3]
      · right; right; right; simp [h3]; omega
set_option maxRecDepth 100000 in
set_option maxHeartbeats 16000000 in
theorem rmost_any (p b t k o : Int) (w : World) : Calls Try.prog 22 #[.agg #[.int .i64 p, .int .i64 b, .int .i64 t], .agg #[.int .i64 k, .int .i64 o]] w (AiB (.tuple #[.int .i64 (agMV p b t k o), .int .i64 (agME p b t k o)]) w) := by
  obtain ⟨wB, hwB, hx⟩ := Bx2.all w p b t k o
  obtain ⟨hbel, y0, y1, y2, y3, y4⟩ := hx wB (Below.refl _ _)
  have HX := Lib.hid hx
  have HVC := Lib.hid (fun W => rvalidcaps_any p b t W)
  have HVR := Lib.hid (fun W => rvalidrate_any k o W)
  have HFT := Lib.hid (fun W => rfit_any k o t W)
  unfold AiB at *
  rcases agM_cases p b t k o with ⟨h1, e1, e2⟩ | ⟨h1, h2, e1, e2⟩ | ⟨h1, h2, h3, e1, e2⟩ | ⟨h1, h2, h3, e1, e2⟩
  · rw [e1, e2]
    rw [h1] at HVC
    clear e1 e2 h1 hx hbel HFT
    go_enter Try.func22, Try.ntmps22
    go_wp2_with fail
    (with_reducible refine (HVC.out _).mono ?_); rintro e w1 ⟨rfl, hb⟩
    have HB := Lib.hid hb
    have hbx := HX.out w1 HB.out
    obtain ⟨_, x0, x1, x2, x3, x4⟩ := hbx
    clear hb
    have HF := Lib.hid (HX.out _ HB.out).bel
    go_wp2
    go_ret2
    exact ⟨rfl, HF.out⟩
  · rw [e1, e2]
    rw [h1] at HVC
    rw [h2] at HVR
    clear e1 e2 h1 h2 hx hbel HFT
    go_enter Try.func22, Try.ntmps22
    go_wp2_with fail
    (with_reducible refine (HVC.out _).mono ?_); rintro e w1 ⟨rfl, hb⟩
    have HB := Lib.hid hb
    have hbx := HX.out w1 HB.out
    obtain ⟨_, x0, x1, x2, x3, x4⟩ := hbx
    clear hb
    go_wp2_with fail
    (with_reducible refine (HVR.out _).mono ?_); rintro e w2 ⟨rfl, hb⟩
    have HB := Lib.hid (HB.out.trans (hb.mono HB.out.size))
    clear hb x0 x1 x2 x3 x4
    have HF := Lib.hid (HX.out _ HB.out).bel
    go_wp2
    go_ret2
    exact ⟨rfl, HF.out⟩
  · have hcv := agV_cases h1
    have HF1 := HFT
    have q1 : aiFV k o t = 0 := by unfold aiFV; rw [if_pos h2, if_pos h3]
    have q2 : aiFE k o t = 2 := by unfold aiFE; rw [if_pos h2, if_pos h3]
    rw [q1, q2] at HF1
    rw [e1, e2]
    rw [h1] at HVC
    rw [h2] at HVR
    clear e1 e2 h1 h2 h3 hx hbel HFT q1 q2 hcv
    go_enter Try.func22, Try.ntmps22
    go_wp2_with fail
    (with_reducible refine (HVC.out _).mono ?_); rintro e w1 ⟨rfl, hb⟩
    have HB := Lib.hid hb
    have hbx := HX.out w1 HB.out
    obtain ⟨_, x0, x1, x2, x3, x4⟩ := hbx
    clear hb
    go_wp2_with fail
    (with_reducible refine (HVR.out _).mono ?_); rintro e w2 ⟨rfl, hb⟩
    have HB := Lib.hid (HB.out.trans (hb.mono HB.out.size))
    clear hb x0 x1 x2 x3 x4
    obtain ⟨_, x0, x1, x2, x3, x4⟩ := HX.out _ HB.out
    go_wp2_with fail
    (with_reducible refine (HF1.out _).mono ?_); rintro e w3 ⟨rfl, hb⟩
    have HB := Lib.hid (HB.out.trans (hb.mono HB.out.size))
    clear hb x0 x1 x2 x3 x4 HF1
    obtain ⟨_, x0, x1, x2, x3, x4⟩ := HX.out _ HB.out
    have HF := Lib.hid (HX.out _ HB.out).bel
    go_wp2
    go_ret2
    exact ⟨rfl, HF.out⟩
  · have hcv := agV_cases h1
    have HF1 := HFT
    have q1 : aiFV k o t = aiFz k o t := by unfold aiFV; rw [if_pos h2, if_neg (by omega)]
    have q2 : aiFE k o t = 0 := by unfold aiFE; rw [if_pos h2, if_neg (by omega)]
    rw [q1, q2] at HF1
    have hmb := agMn_bd e1
    have hfb := aiFz_bd h2 (t := t) (by omega)
    have hmn : agMn p b t k o = min (min (aiFz k o t) b) (p * 4096 + 4 * (p - 1)) := rfl
    have HTM := Lib.hid (fun (W : World) => (by
      have h9 := rtime_any k o (agMn p b t k o) W
      have e1 : aiTV k o (agMn p b t k o) = aiZ k o (agMn p b t k o) := if_pos (aiOk_mk h2 (by omega) (by omega))
      rw [e1] at h9; exact h9 : Calls Try.prog 35 #[.agg #[.int .i64 k, .int .i64 o], .int .i64 (agMn p b t k o)] W (AiB (.tuple #[.int .i64 (aiZ k o (agMn p b t k o)), .int .i64 (aiTE k o (agMn p b t k o))]) W)))
    unfold AiB at *
    rw [e1, e2]
    rw [h1] at HVC
    rw [h2] at HVR
    generalize agMn p b t k o = mn at *
    generalize aiZ k o mn = z at *
    generalize aiTE k o mn = te at *
    generalize aiFz k o t = fz at *
    have w1_ : IntKind.i64.wrap (p * 4096) = p * 4096 := IntWalk.i64_in _ (by omega)
    have w2_ : IntKind.i64.wrap (p - 1) = p - 1 := IntWalk.i64_in _ (by omega)
    have w3_ : IntKind.i64.wrap (4 * (p - 1)) = 4 * (p - 1) := IntWalk.i64_in _ (by omega)
    have w4_ : IntKind.i64.wrap (p * 4096 + 4 * (p - 1)) = p * 4096 + 4 * (p - 1) := IntWalk.i64_in _ (by omega)
    clear e1 e2 h1 h2 h3 hx hbel HFT q1 q2 hcv
    go_enter Try.func22, Try.ntmps22
    go_wp2_with fail
    (with_reducible refine (HVC.out _).mono ?_); rintro e w1 ⟨rfl, hb⟩
    have HB := Lib.hid hb
    have hbx := HX.out w1 HB.out
    obtain ⟨_, x0, x1, x2, x3, x4⟩ := hbx
    clear hb
    go_wp2_with fail
    (with_reducible refine (HVR.out _).mono ?_); rintro e w2 ⟨rfl, hb⟩
    have HB := Lib.hid (HB.out.trans (hb.mono HB.out.size))
    clear hb x0 x1 x2 x3 x4
    obtain ⟨_, x0, x1, x2, x3, x4⟩ := HX.out _ HB.out
    go_wp2_with fail
    (with_reducible refine (HF1.out _).mono ?_); rintro e w3 ⟨rfl, hb⟩
    have HB := Lib.hid (HB.out.trans (hb.mono HB.out.size))
    clear hb x0 x1 x2 x3 x4 HF1
    obtain ⟨_, x0, x1, x2, x3, x4⟩ := HX.out _ HB.out
    clear HVC HVR hwB y0 y1 y2 y3 y4
    have hmin : ∀ (W : World) (ts : Array TypeId) (ty : TypeId), (Builtin.min_ ts ty #[.int .i64 fz, .int .i64 b, .int .i64 (p * 4096 + 4 * (p - 1))]).run Try.prog W = .ok (.int .i64 mn) W := fun W ts ty => by
      rw [run_min_int3]
      congr 2
      rw [hmn]
      by_cases g1 : b < fz
      · rw [if_pos g1]
        by_cases g2 : p * 4096 + 4 * (p - 1) < b
        · rw [if_pos g2]; congr 1; omega
        · rw [if_neg g2]; congr 1; omega
      · rw [if_neg g1]
        by_cases g2 : p * 4096 + 4 * (p - 1) < fz
        · rw [if_pos g2]; congr 1; omega
        · rw [if_neg g2]; congr 1; omega
    clear hmn
    go_wp2_with fail
    (with_reducible refine (HTM.out _).mono ?_); rintro e w4 ⟨rfl, hb⟩
    have HF := Lib.hid (HX.out _ (HB.out.trans (hb.mono HB.out.size))).bel
    clear hb
    go_wp2
    go_ret2
    exact ⟨rfl, HF.out⟩
end Go.Proofs.Ytcnpmbgeafkmlaa

