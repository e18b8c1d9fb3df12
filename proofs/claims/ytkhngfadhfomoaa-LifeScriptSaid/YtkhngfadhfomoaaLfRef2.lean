/-
  Layer 18: contracts of the reference's Deliver, Drop, Order. Written by gen_lfref2.py.
-/
import Derived.Test.YtkhngfadhfomoaaLfRef
namespace Go.Proofs.Ytkhngfadhfomoaa
open Go.ChangeShapes Go.WideShapes Go.ChangeAt Go.RowKit
set_option linter.unusedVariables false

theorem lfFl_in {s : LfS} {k : Int} (h : lfIn s k) : lfFl s k = (s.l[lfI k]'(lfI_lt h)).f := by unfold lfFl; rw [dif_pos h]
/-! ### Order -/
set_option maxRecDepth 100000 in
set_option maxHeartbeats 8000000 in
theorem rord_any {S : Nat} {s : LfS} {T : Nat → Prop} {w : World} (hb9 : LfB s 9999) (h : LtP S s T w) (f : Int) : Calls Try.prog 17 #[.pointer (some ⟨S, 0, none⟩), .int .i64 f] w (GotLs csI 1 3 (lfOd s f) w) := by
  obtain ⟨h0, hS, ⟨AL, cL, d0, hRL⟩, ⟨AD, cD, d1, hRD⟩, _⟩ := h.rd
  have HRL := Lib.hid hRL
  have HRD := Lib.hid hRD
  have HIN := Lib.hid (fun k (hk : k < s.d.length) => h0.d _ (List.getElem_mem hk))
  have hln := hb9.l
  have hdn := hb9.d
  unfold GotLs lfOd
  have HY := Lib.hid (fun k (hk : k < s.d.length) (h : (lfFl s s.d[k] == f) = true) => lfilter_yes (fun x : Int => lfFl s x == f) s.d hk h)
  have HNO := Lib.hid (fun k (hk : k < s.d.length) (h : (lfFl s s.d[k] == f) = false) => lfilter_no (fun x : Int => lfFl s x == f) s.d hk h)
  obtain ⟨d, hd⟩ : ∃ d, s.d = d := ⟨_, rfl⟩
  rw [hd] at d1 HRD HIN hdn HY HNO ⊢
  obtain ⟨m, hM⟩ : ∃ m, d.length = m := ⟨_, rfl⟩
  have HMM := Lib.hid hM
  obtain ⟨n, hN⟩ : ∃ n, s.l.length = n := ⟨_, rfl⟩
  have HNN := Lib.hid hN
  rw [hM] at d1 hdn
  rw [hN] at d0 hln
  have HSW := Lib.hid (And.intro d0 d1)
  clear h h0 hb9 hRL hRD hd hM hN
  go_enter Try.func17, Try.ntmps17
  go_wp2
  go_loopw [5, 6] (fun s5 s6 wr => ∃ (k q : Nat) (A1 : Option Addr) (c1 : Nat), k ≤ m ∧ q ≤ k ∧ s6 = .int .i64 k ∧ s5 = .slice A1 q c1 ∧ Hid (((d.take k).filter (fun x => lfFl s x == f)).length = q) ∧ Hid (wr.ownsRow w.heap.size 3 1 (.slice A1 q c1) q (srs csI ((d.take k).filter (fun x => lfFl s x == f)))) ∧ Hid (Below w.heap.size w wr)) (fun _ s6 _ => m - (intOf s6).toNat)
  case atStart => exact ⟨0, 0, none, 0, Nat.zero_le _, Nat.le_refl _, rfl, rfl, Lib.hid (by simp), Lib.hid (show w.ownsRow w.heap.size 3 1 (.slice none 0 0) 0 (srs csI []) from World.ownsRow_nil _ _ _ _), Lib.hid (Below.refl _ _)⟩
  case round =>
    obtain ⟨k, q, A1, c1, hk, hqk, rfl, rfl, HM, HROW, HW⟩ := hrel
    have dd1 := (HW.out.cell (p := ⟨S, 1, none⟩) hS).trans HSW.out.2
    by_cases hlt : k < m
    · have hlt' : (k : Int) < m := by omega
      have hk0 : (0 : Int) ≤ k := by omega
      have hkl : k < d.length := by have := HMM.out; omega
      obtain ⟨gD, rfl, hSD, hgD, x0⟩ := HRD.out k hkl
      have hin := HIN.out k hkl
      have hil := lfI_lt hin
      have hsub := lfI_is hin
      have hfl := lfFl_in hin
      obtain ⟨gL, rfl, hSL, _, hgL, _, x1, x2, x3, x4⟩ := HRL.out _ hil
      rw [← hfl] at x1
      clear x2 x3 x4 hfl
      have hY := HY.out k hkl
      have hNO := HNO.out k hkl
      rw [HNN.out] at hil
      generalize d[k] = dk at *
      obtain ⟨fl, hfl2⟩ : ∃ fl, lfFl s dk = fl := ⟨_, rfl⟩
      rw [hfl2] at x1 hY hNO
      generalize lfI dk = i at *
      have hdk : 1 ≤ dk ∧ dk ≤ 9999 := by omega
      have hwk : IntKind.i64.wrap (dk - 1) = (i : Int) := by rw [IntWalk.i64_in _ (by omega)]; omega
      have hi2 : (i : Int) < n := by omega
      have hi0 : (0 : Int) ≤ i := by omega
      have HC := Lib.hid (fun (W : World) (hw : Below wr.drew.heap.size wr.drew W) => (by
        have hbb := HW.out.trans (((Below.refl _ wr).drew.trans hw).mono HW.out.size)
        exact ⟨(hbb.cell (p := ⟨S, 0, none⟩) hS).trans HSW.out.1, (hbb.cell (p := ⟨S, 1, none⟩) hS).trans HSW.out.2, (hbb.cell (p := ⟨gD, k, none⟩) hgD).trans x0, (hbb.cell (p := ⟨gL, i * 4, none⟩) hgL).trans x1⟩ :
        W.cell? ⟨S, 0, none⟩ = some (.slice (some ⟨gL, 0, none⟩) n cL) ∧ W.cell? ⟨S, 1, none⟩ = some (.slice (some ⟨gD, 0, none⟩) m cD) ∧ W.cell? ⟨gD, k, none⟩ = some (.int .i64 dk) ∧ W.cell? ⟨gL, i * 4, none⟩ = some (.int .i64 fl)))
      clear HRL HRD HIN HY HNO HSW hin hsub hfl2 x0 x1 hil d0 d1 hS
      cases hb : (fl == f)
      · have HNX := Lib.hid (hNO hb)
        clear hY hNO
        go_wp2_with fail
        refine wp_region_looseS 44 (by kernel_rfl) (by kernel_rfl) (StB wr.drew (fun vI => [.pointer (some ⟨S, 0, none⟩), .pointer (some ⟨S, 0, none⟩), .pointer (some ⟨S, 0, none⟩), .slice (some ⟨gL, 0, none⟩) n cL, .pointer (some ⟨S, 0, none⟩), .pointer (some ⟨S, 0, none⟩), .pointer (some ⟨S, 1, none⟩), .slice (some ⟨gD, 0, none⟩) m cD, .int .i64 (k : Nat), .pointer (some ⟨gD, k, none⟩), .int .i64 dk, .int .i64 (i : Nat), .pointer (some ⟨gL, i * 4, none⟩), .pointer (some ⟨gL, i * 4, none⟩), .int .i64 fl, .int .i64 f, .bool false].getD vI undef)) rfl StB.start ?_ ?_
        · simp only [OblAllS]
          refine ⟨?_, ?_, ?_, ?_, ?_, ?_, ?_, ?_, ?_, ?_, ?_, ?_, ?_, ?_, ?_, ?_, ?_, trivial⟩
          · intro L wx vals hi hu hcl hC
            have HCx := Lib.hid hC
            clear hC hcl hu hi
            simp only [fillA, if_true, Act.put]
            simp
            go_wp2
            exact ⟨rfl, HCx.out.quiet 0 rfl⟩
          · intro L wx vals hi hu hcl hC
            simp [predL, predE, Region.binds, UpL] at hu
            have e0 : vals 0 = .pointer (some ⟨S, 0, none⟩) := hC.v 0 (by simp [hu])
            have HCx := Lib.hid hC
            clear hC hcl hu hi
            simp only [fillA, if_true, Act.put]
            simp
            simp only [e0]
            clear e0
            go_wp2
            exact ⟨rfl, HCx.out.quiet 1 rfl⟩
          · intro L wx vals hi hu hcl hC
            simp [predL, predE, Region.binds, UpL] at hu
            have e1 : vals 1 = .pointer (some ⟨S, 0, none⟩) := hC.v 1 (by simp [hu])
            have HCx := Lib.hid hC
            clear hC hcl hu hi
            simp only [fillA, if_true, Act.put]
            simp
            simp only [e1]
            clear e1
            go_wp2
            exact ⟨rfl, HCx.out.quiet 2 rfl⟩
          · intro L wx vals hi hu hcl hC
            simp [predL, predE, Region.binds, UpL] at hu
            have e2 : vals 2 = .pointer (some ⟨S, 0, none⟩) := hC.v 2 (by simp [hu])
            have h0 := (HC.out wx hC.b).1
            have HCx := Lib.hid hC
            clear hC hcl hu hi
            simp only [fillA, if_true, Act.put]
            simp
            simp only [e2]
            clear e2
            go_wp2
            exact ⟨rfl, HCx.out.quiet 3 rfl⟩
          · intro L wx vals hi hu hcl hC
            have HCx := Lib.hid hC
            clear hC hcl hu hi
            simp only [fillA, if_true, Act.put]
            simp
            go_wp2
            exact ⟨rfl, HCx.out.quiet 4 rfl⟩
          · intro L wx vals hi hu hcl hC
            simp [predL, predE, Region.binds, UpL] at hu
            have e4 : vals 4 = .pointer (some ⟨S, 0, none⟩) := hC.v 4 (by simp [hu])
            have HCx := Lib.hid hC
            clear hC hcl hu hi
            simp only [fillA, if_true, Act.put]
            simp
            simp only [e4]
            clear e4
            go_wp2
            exact ⟨rfl, HCx.out.quiet 5 rfl⟩
          · intro L wx vals hi hu hcl hC
            simp [predL, predE, Region.binds, UpL] at hu
            have e5 : vals 5 = .pointer (some ⟨S, 0, none⟩) := hC.v 5 (by simp [hu])
            have HCx := Lib.hid hC
            clear hC hcl hu hi
            simp only [fillA, if_true, Act.put]
            simp
            simp only [e5]
            clear e5
            go_wp2
            exact ⟨rfl, HCx.out.quiet 6 rfl⟩
          · intro L wx vals hi hu hcl hC
            simp [predL, predE, Region.binds, UpL] at hu
            have e6 : vals 6 = .pointer (some ⟨S, 1, none⟩) := hC.v 6 (by simp [hu])
            have h0 := (HC.out wx hC.b).2.1
            have HCx := Lib.hid hC
            clear hC hcl hu hi
            simp only [fillA, if_true, Act.put]
            simp
            simp only [e6]
            clear e6
            go_wp2
            exact ⟨rfl, HCx.out.quiet 7 rfl⟩
          · intro L wx vals hi hu hcl hC
            have HCx := Lib.hid hC
            clear hC hcl hu hi
            simp only [fillA, if_true, Act.put]
            simp
            go_wp2
            exact ⟨rfl, HCx.out.quiet 8 rfl⟩
          · intro L wx vals hi hu hcl hC
            simp [predL, predE, Region.binds, UpL] at hu
            have e7 : vals 7 = .slice (some ⟨gD, 0, none⟩) m cD := hC.v 7 (by simp [hu])
            have e8 : vals 8 = .int .i64 (k : Nat) := hC.v 8 (by simp [hu])
            have HCx := Lib.hid hC
            clear hC hcl hu hi
            simp only [fillA, if_true, Act.put]
            simp
            simp only [e7, e8]
            clear e7 e8
            go_wp2
            exact ⟨rfl, HCx.out.quiet 9 rfl⟩
          · intro L wx vals hi hu hcl hC
            simp [predL, predE, Region.binds, UpL] at hu
            have e9 : vals 9 = .pointer (some ⟨gD, k, none⟩) := hC.v 9 (by simp [hu])
            have h0 := (HC.out wx hC.b).2.2.1
            have HCx := Lib.hid hC
            clear hC hcl hu hi
            simp only [fillA, if_true, Act.put]
            simp
            simp only [e9]
            clear e9
            go_wp2
            exact ⟨rfl, HCx.out.quiet 10 rfl⟩
          · intro L wx vals hi hu hcl hC
            simp [predL, predE, Region.binds, UpL] at hu
            have e10 : vals 10 = .int .i64 dk := hC.v 10 (by simp [hu])
            have HCx := Lib.hid hC
            clear hC hcl hu hi
            simp only [fillA, if_true, Act.put]
            simp
            simp only [e10]
            clear e10
            go_wp2
            exact ⟨rfl, HCx.out.quiet 11 rfl⟩
          · intro L wx vals hi hu hcl hC
            simp [predL, predE, Region.binds, UpL] at hu
            have e3 : vals 3 = .slice (some ⟨gL, 0, none⟩) n cL := hC.v 3 (by simp [hu])
            have e11 : vals 11 = .int .i64 (i : Nat) := hC.v 11 (by simp [hu])
            have HCx := Lib.hid hC
            clear hC hcl hu hi
            simp only [fillA, if_true, Act.put]
            simp
            simp only [e3, e11]
            clear e3 e11
            go_wp2
            exact ⟨rfl, HCx.out.quiet 12 rfl⟩
          · intro L wx vals hi hu hcl hC
            simp [predL, predE, Region.binds, UpL] at hu
            have e12 : vals 12 = .pointer (some ⟨gL, i * 4, none⟩) := hC.v 12 (by simp [hu])
            have HCx := Lib.hid hC
            clear hC hcl hu hi
            simp only [fillA, if_true, Act.put]
            simp
            simp only [e12]
            clear e12
            go_wp2
            exact ⟨rfl, HCx.out.quiet 13 rfl⟩
          · intro L wx vals hi hu hcl hC
            simp [predL, predE, Region.binds, UpL] at hu
            have e13 : vals 13 = .pointer (some ⟨gL, i * 4, none⟩) := hC.v 13 (by simp [hu])
            have h0 := (HC.out wx hC.b).2.2.2
            have HCx := Lib.hid hC
            clear hC hcl hu hi
            simp only [fillA, if_true, Act.put]
            simp
            simp only [e13]
            clear e13
            go_wp2
            exact ⟨rfl, HCx.out.quiet 14 rfl⟩
          · intro L wx vals hi hu hcl hC
            have HCx := Lib.hid hC
            clear hC hcl hu hi
            simp only [fillA, if_true, Act.put]
            simp
            go_wp2
            exact ⟨rfl, HCx.out.quiet 15 rfl⟩
          · intro L wx vals hi hu hcl hC
            simp [predL, predE, Region.binds, UpL] at hu
            have e14 : vals 14 = .int .i64 fl := hC.v 14 (by simp [hu])
            have e15 : vals 15 = .int .i64 f := hC.v 15 (by simp [hu])
            have HCx := Lib.hid hC
            clear hC hcl hu hi
            simp only [fillA, if_true, Act.put]
            simp
            simp only [e14, e15]
            clear e14 e15
            go_wp2
            exact ⟨rfl, HCx.out.quiet 16 rfl⟩
        · intro wz vals U hC hall
          have e16 : vals 16 = .bool false := hC.v 16 (hall 16 (by simp))
          have HB := Lib.hid (HW.out.trans (((Below.refl _ wr).drew.trans hC.b).mono HW.out.size))
          have HR2 := Lib.hid (row_from HROW.out ((Below.refl _ wr).drew.trans hC.b))
          obtain ⟨_, y1, y2, _⟩ := HC.out wz hC.b
          simp only [fillA, if_true, Act.put]
          simp
          simp only [e16]
          clear hC hall e16 HC HROW HW
          generalize vals 0 = t_0 at *
          generalize vals 1 = t_1 at *
          generalize vals 2 = t_2 at *
          generalize vals 3 = t_3 at *
          generalize vals 4 = t_4 at *
          generalize vals 5 = t_5 at *
          generalize vals 6 = t_6 at *
          generalize vals 7 = t_7 at *
          generalize vals 8 = t_8 at *
          generalize vals 9 = t_9 at *
          generalize vals 10 = t_10 at *
          generalize vals 11 = t_11 at *
          generalize vals 12 = t_12 at *
          generalize vals 13 = t_13 at *
          generalize vals 14 = t_14 at *
          generalize vals 15 = t_15 at *
          have HR3 := Lib.hid (show wz.ownsRow w.heap.size 3 1 (.slice A1 q c1) q (srs csI ((d.take (k + 1)).filter (fun x => lfFl s x == f))) from by rw [HNX.out]; exact HR2.out)
          have HLN := Lib.hid (show ((d.take (k + 1)).filter (fun x => lfFl s x == f)).length = q by rw [HNX.out, HM.out])
          clear y1 y2 HR2
          go_wp2
          go_roundw
          case rel => exact ⟨k + 1, q, A1, c1, by omega, by omega, by go_num, rfl, HLN, HR3, HB⟩
          case measure => simp [intOf]; omega
      · have HNX := Lib.hid (hY hb)
        clear hY hNO
        go_wp2_with fail
        refine wp_region_looseS 44 (by kernel_rfl) (by kernel_rfl) (StB wr.drew (fun vI => [.pointer (some ⟨S, 0, none⟩), .pointer (some ⟨S, 0, none⟩), .pointer (some ⟨S, 0, none⟩), .slice (some ⟨gL, 0, none⟩) n cL, .pointer (some ⟨S, 0, none⟩), .pointer (some ⟨S, 0, none⟩), .pointer (some ⟨S, 1, none⟩), .slice (some ⟨gD, 0, none⟩) m cD, .int .i64 (k : Nat), .pointer (some ⟨gD, k, none⟩), .int .i64 dk, .int .i64 (i : Nat), .pointer (some ⟨gL, i * 4, none⟩), .pointer (some ⟨gL, i * 4, none⟩), .int .i64 fl, .int .i64 f, .bool true].getD vI undef)) rfl StB.start ?_ ?_
        · simp only [OblAllS]
          refine ⟨?_, ?_, ?_, ?_, ?_, ?_, ?_, ?_, ?_, ?_, ?_, ?_, ?_, ?_, ?_, ?_, ?_, trivial⟩
          · intro L wx vals hi hu hcl hC
            have HCx := Lib.hid hC
            clear hC hcl hu hi
            simp only [fillA, if_true, Act.put]
            simp
            go_wp2
            exact ⟨rfl, HCx.out.quiet 0 rfl⟩
          · intro L wx vals hi hu hcl hC
            simp [predL, predE, Region.binds, UpL] at hu
            have e0 : vals 0 = .pointer (some ⟨S, 0, none⟩) := hC.v 0 (by simp [hu])
            have HCx := Lib.hid hC
            clear hC hcl hu hi
            simp only [fillA, if_true, Act.put]
            simp
            simp only [e0]
            clear e0
            go_wp2
            exact ⟨rfl, HCx.out.quiet 1 rfl⟩
          · intro L wx vals hi hu hcl hC
            simp [predL, predE, Region.binds, UpL] at hu
            have e1 : vals 1 = .pointer (some ⟨S, 0, none⟩) := hC.v 1 (by simp [hu])
            have HCx := Lib.hid hC
            clear hC hcl hu hi
            simp only [fillA, if_true, Act.put]
            simp
            simp only [e1]
            clear e1
            go_wp2
            exact ⟨rfl, HCx.out.quiet 2 rfl⟩
          · intro L wx vals hi hu hcl hC
            simp [predL, predE, Region.binds, UpL] at hu
            have e2 : vals 2 = .pointer (some ⟨S, 0, none⟩) := hC.v 2 (by simp [hu])
            have h0 := (HC.out wx hC.b).1
            have HCx := Lib.hid hC
            clear hC hcl hu hi
            simp only [fillA, if_true, Act.put]
            simp
            simp only [e2]
            clear e2
            go_wp2
            exact ⟨rfl, HCx.out.quiet 3 rfl⟩
          · intro L wx vals hi hu hcl hC
            have HCx := Lib.hid hC
            clear hC hcl hu hi
            simp only [fillA, if_true, Act.put]
            simp
            go_wp2
            exact ⟨rfl, HCx.out.quiet 4 rfl⟩
          · intro L wx vals hi hu hcl hC
            simp [predL, predE, Region.binds, UpL] at hu
            have e4 : vals 4 = .pointer (some ⟨S, 0, none⟩) := hC.v 4 (by simp [hu])
            have HCx := Lib.hid hC
            clear hC hcl hu hi
            simp only [fillA, if_true, Act.put]
            simp
            simp only [e4]
            clear e4
            go_wp2
            exact ⟨rfl, HCx.out.quiet 5 rfl⟩
          · intro L wx vals hi hu hcl hC
            simp [predL, predE, Region.binds, UpL] at hu
            have e5 : vals 5 = .pointer (some ⟨S, 0, none⟩) := hC.v 5 (by simp [hu])
            have HCx := Lib.hid hC
            clear hC hcl hu hi
            simp only [fillA, if_true, Act.put]
            simp
            simp only [e5]
            clear e5
            go_wp2
            exact ⟨rfl, HCx.out.quiet 6 rfl⟩
          · intro L wx vals hi hu hcl hC
            simp [predL, predE, Region.binds, UpL] at hu
            have e6 : vals 6 = .pointer (some ⟨S, 1, none⟩) := hC.v 6 (by simp [hu])
            have h0 := (HC.out wx hC.b).2.1
            have HCx := Lib.hid hC
            clear hC hcl hu hi
            simp only [fillA, if_true, Act.put]
            simp
            simp only [e6]
            clear e6
            go_wp2
            exact ⟨rfl, HCx.out.quiet 7 rfl⟩
          · intro L wx vals hi hu hcl hC
            have HCx := Lib.hid hC
            clear hC hcl hu hi
            simp only [fillA, if_true, Act.put]
            simp
            go_wp2
            exact ⟨rfl, HCx.out.quiet 8 rfl⟩
          · intro L wx vals hi hu hcl hC
            simp [predL, predE, Region.binds, UpL] at hu
            have e7 : vals 7 = .slice (some ⟨gD, 0, none⟩) m cD := hC.v 7 (by simp [hu])
            have e8 : vals 8 = .int .i64 (k : Nat) := hC.v 8 (by simp [hu])
            have HCx := Lib.hid hC
            clear hC hcl hu hi
            simp only [fillA, if_true, Act.put]
            simp
            simp only [e7, e8]
            clear e7 e8
            go_wp2
            exact ⟨rfl, HCx.out.quiet 9 rfl⟩
          · intro L wx vals hi hu hcl hC
            simp [predL, predE, Region.binds, UpL] at hu
            have e9 : vals 9 = .pointer (some ⟨gD, k, none⟩) := hC.v 9 (by simp [hu])
            have h0 := (HC.out wx hC.b).2.2.1
            have HCx := Lib.hid hC
            clear hC hcl hu hi
            simp only [fillA, if_true, Act.put]
            simp
            simp only [e9]
            clear e9
            go_wp2
            exact ⟨rfl, HCx.out.quiet 10 rfl⟩
          · intro L wx vals hi hu hcl hC
            simp [predL, predE, Region.binds, UpL] at hu
            have e10 : vals 10 = .int .i64 dk := hC.v 10 (by simp [hu])
            have HCx := Lib.hid hC
            clear hC hcl hu hi
            simp only [fillA, if_true, Act.put]
            simp
            simp only [e10]
            clear e10
            go_wp2
            exact ⟨rfl, HCx.out.quiet 11 rfl⟩
          · intro L wx vals hi hu hcl hC
            simp [predL, predE, Region.binds, UpL] at hu
            have e3 : vals 3 = .slice (some ⟨gL, 0, none⟩) n cL := hC.v 3 (by simp [hu])
            have e11 : vals 11 = .int .i64 (i : Nat) := hC.v 11 (by simp [hu])
            have HCx := Lib.hid hC
            clear hC hcl hu hi
            simp only [fillA, if_true, Act.put]
            simp
            simp only [e3, e11]
            clear e3 e11
            go_wp2
            exact ⟨rfl, HCx.out.quiet 12 rfl⟩
          · intro L wx vals hi hu hcl hC
            simp [predL, predE, Region.binds, UpL] at hu
            have e12 : vals 12 = .pointer (some ⟨gL, i * 4, none⟩) := hC.v 12 (by simp [hu])
            have HCx := Lib.hid hC
            clear hC hcl hu hi
            simp only [fillA, if_true, Act.put]
            simp
            simp only [e12]
            clear e12
            go_wp2
            exact ⟨rfl, HCx.out.quiet 13 rfl⟩
          · intro L wx vals hi hu hcl hC
            simp [predL, predE, Region.binds, UpL] at hu
            have e13 : vals 13 = .pointer (some ⟨gL, i * 4, none⟩) := hC.v 13 (by simp [hu])
            have h0 := (HC.out wx hC.b).2.2.2
            have HCx := Lib.hid hC
            clear hC hcl hu hi
            simp only [fillA, if_true, Act.put]
            simp
            simp only [e13]
            clear e13
            go_wp2
            exact ⟨rfl, HCx.out.quiet 14 rfl⟩
          · intro L wx vals hi hu hcl hC
            have HCx := Lib.hid hC
            clear hC hcl hu hi
            simp only [fillA, if_true, Act.put]
            simp
            go_wp2
            exact ⟨rfl, HCx.out.quiet 15 rfl⟩
          · intro L wx vals hi hu hcl hC
            simp [predL, predE, Region.binds, UpL] at hu
            have e14 : vals 14 = .int .i64 fl := hC.v 14 (by simp [hu])
            have e15 : vals 15 = .int .i64 f := hC.v 15 (by simp [hu])
            have HCx := Lib.hid hC
            clear hC hcl hu hi
            simp only [fillA, if_true, Act.put]
            simp
            simp only [e14, e15]
            clear e14 e15
            go_wp2
            exact ⟨rfl, HCx.out.quiet 16 rfl⟩
        · intro wz vals U hC hall
          have e16 : vals 16 = .bool true := hC.v 16 (hall 16 (by simp))
          have HB := Lib.hid (HW.out.trans (((Below.refl _ wr).drew.trans hC.b).mono HW.out.size))
          have HR2 := Lib.hid (row_from HROW.out ((Below.refl _ wr).drew.trans hC.b))
          obtain ⟨_, y1, y2, _⟩ := HC.out wz hC.b
          simp only [fillA, if_true, Act.put]
          simp
          simp only [e16]
          clear hC hall e16 HC HROW HW
          generalize vals 0 = t_0 at *
          generalize vals 1 = t_1 at *
          generalize vals 2 = t_2 at *
          generalize vals 3 = t_3 at *
          generalize vals 4 = t_4 at *
          generalize vals 5 = t_5 at *
          generalize vals 6 = t_6 at *
          generalize vals 7 = t_7 at *
          generalize vals 8 = t_8 at *
          generalize vals 9 = t_9 at *
          generalize vals 10 = t_10 at *
          generalize vals 11 = t_11 at *
          generalize vals 12 = t_12 at *
          generalize vals 13 = t_13 at *
          generalize vals 14 = t_14 at *
          generalize vals 15 = t_15 at *
          obtain ⟨A2, c2, w2, hrun, hv2, hb2⟩ := intElt.app_new dk HR2.out (by omega) HB.out.size
          have HB2 := Lib.hid (HB.out.trans hb2)
          have HR3 := Lib.hid (show w2.ownsRow w.heap.size 3 1 (.slice A2 (q + 1) c2) (q + 1) (srs csI ((d.take (k + 1)).filter (fun x => lfFl s x == f))) from by rw [HNX.out]; exact hv2)
          have HLN := Lib.hid (show ((d.take (k + 1)).filter (fun x => lfFl s x == f)).length = q + 1 by rw [HNX.out, List.length_append, HM.out]; rfl)
          unfold csI at hrun
          clear hv2 hb2 HB HR2
          go_wp2_with (at_builtin; refine wpList_append_run rfl (.tmp 33) (.tmp 41) 22 rfl rfl rfl hrun ?_)
          go_roundw
          case rel => exact ⟨k + 1, q + 1, A2, c2, by omega, by omega, by go_num, rfl, HLN, HR3, HB2⟩
          case measure => simp [intOf]; omega
    · obtain rfl : k = m := by omega
      have HF := Lib.hid (show ∃ v, Ending.returned (.slice A1 q c1) = .returned v ∧ LsG csI 1 3 wr (fun b => w.heap.size ≤ b ∧ b < wr.heap.size) v (d.filter (fun x => lfFl s x == f)) ∧ Below w.heap.size w wr from ⟨_, rfl, by
        have h9 := intElt.row_ls HROW.out HM.out.symm
        rw [List.take_of_length_le (by rw [HMM.out]; exact Nat.le_refl _)] at h9
        exact h9, HW.out⟩)
      clear HROW HM HW HRL HRD HIN HY HNO
      go_wp2
      go_ret
      exact HF.out
/-! ### Deliver -/
theorem rdone_mem {S : Nat} {s : LfS} {k : Int} {T : Nat → Prop} {w : World} (hdl : s.d.length ≤ 99999) (hP : LtP S s T w) (hk : lfIn s k) :
    ∃ A0 c0 A c w3, w.cell? ⟨S, 1, none⟩ = some (.slice A0 s.d.length c0) ∧
      (Builtin.append_ #[22, 22] 22 #[.slice A0 s.d.length c0, .slice (some ⟨w.heap.size, 0, none⟩) 1 1]).run Try.prog (w.alloc (.cells #[.int .i64 k] 3)) = .ok (.slice A (s.d.length + 1) c) w3 ∧
      w3.cell? ⟨S, 1, none⟩ = some (.slice A0 s.d.length c0) ∧ w3.frozen? ⟨S, 1, none⟩ = false ∧
      (∃ T', LtP S { s with d := s.d ++ [k] } T' (w3.setCell ⟨S, 1, none⟩ (.slice A (s.d.length + 1) c)) ∧ ∀ j, T' j → T j ∨ w.heap.size ≤ j) ∧ Chg T w (w3.setCell ⟨S, 1, none⟩ (.slice A (s.d.length + 1) c)) := by
  obtain ⟨h0, h1, h2, vL, vD, h3, h4, h5, h6, h7⟩ := hP
  have hok : LfOk { s with d := s.d ++ [k] } := ⟨h0.e, fun x hx => by
    rcases List.mem_append.1 hx with h | h
    · exact h0.d x h
    · rw [List.mem_singleton] at h; rw [h]; exact hk⟩
  obtain ⟨A, c, w3, hrun, hv, hb3, hk3, hwh⟩ := intElt.app_new3 k h5 (by omega) (Nat.zero_le _)
  have hS3 : w3.heap[S]? = w.heap[S]? := hk3 S (h1 S h2) fun e => lt_apart h3 h5 (by decide) e rfl
  have hB3 := h3.carry hS3
  obtain ⟨A0, c0, rfl⟩ := ow_shape h5
  have d0 : w.cell? ⟨S, 1, none⟩ = some (.slice A0 s.d.length c0) := (h3.cell (i := 1) (by omega)).trans rfl
  have k0 : w3.cell? ⟨S, 1, none⟩ = some (.slice A0 s.d.length c0) := (hB3.cell (i := 1) (by omega)).trans rfl
  have hch : Chg T w w3 := ⟨hb3.os, hb3.tape, hb3.output, hb3.size, fun k hk hnT => hk3 k hk fun e => hnT (h7 k e)⟩
  have hv' : w3.ownsRow 0 3 1 (.slice A (s.d.length + 1) c) (s.d ++ [k]).length (srs csI (s.d ++ [k])) := by rw [List.length_append]; exact hv
  have h4' : w3.ownsRow 0 34 4 vL s.l.length (srs csF s.l) := owk h4 fun b e => hk3 b (h1 b (h6 b e)) fun e2 => own_other h4 h5 (by decide) e e2
  have hne : ∀ (u : Value) (j : Nat), j ≠ S → (w3.setCell ⟨S, 1, none⟩ u).heap[j]? = w3.heap[j]? := fun u j hj => Below.heap_setCell _ _ _ _ (by simpa using hj)
  refine ⟨A0, c0, A, c, w3, d0, hrun, k0, hB3.free 1, ⟨fun k => (T k ∨ w.heap.size ≤ k) ∧ k < w3.heap.size, ⟨hok, fun k hk => by simpa [World.setCell] using hk.2, ⟨.inl h2, hB3.lt⟩, vL, .slice A (s.d.length + 1) c, ?_, ?_, ?_, fun b e => ⟨.inl (h6 b e), (own_lt h4' e).2⟩, fun b e => ⟨?_, (own_lt hv e).2⟩⟩, fun j hj => hj.1⟩, hch.setCell h2 _ _⟩
  · refine (hB3.set_ (i := 1) (by omega) _).same fun i hi => ?_
    by_cases e : i = 1
    · subst e; rw [updV_at]; rfl
    · rw [updV_ne e]; unfold ltC; rw [if_neg e, if_neg e]
  · exact owk h4' fun b e => hne _ b (lt_apart hB3 h4' (by decide) e)
  · exact owk hv' fun b e => hne _ b (lt_apart hB3 hv' (by decide) e)
  · rcases hwh with h | ⟨g, h, hg⟩
    · rw [h] at e; exact .inl (h7 b e)
    · rw [h] at e
      have : g = b := by simpa using e
      exact .inr (by omega)
/-- Where Deliver goes through. -/
theorem rdlv_mem {S : Nat} {s : LfS} {id : Int} {T : Nat → Prop} {w w1 : World} (hb9 : LfB s 9999) (hP : LtP S s T w) (hb : Below w.heap.size w w1) (hE : lfDvE s id = 0) (hi : lfIn s id) :
    ∃ g c, S ≠ g ∧ w1.cell? ⟨S, 0, none⟩ = some (.slice (some ⟨g, 0, none⟩) s.l.length c) ∧ (∃ u, w1.cell? ⟨g, lfI id * 4 + 2, none⟩ = some u) ∧ w1.frozen? ⟨g, lfI id * 4 + 2, none⟩ = false ∧
      ∃ A0 c0 A c w3, (w1.setCell ⟨g, lfI id * 4 + 2, none⟩ (.int .i64 3)).cell? ⟨S, 1, none⟩ = some (.slice A0 s.d.length c0) ∧
      (Builtin.append_ #[22, 22] 22 #[.slice A0 s.d.length c0, .slice (some ⟨w1.heap.size, 0, none⟩) 1 1]).run Try.prog ((w1.setCell ⟨g, lfI id * 4 + 2, none⟩ (.int .i64 3)).alloc (.cells #[.int .i64 id] 3)) = .ok (.slice A (s.d.length + 1) c) w3 ∧
      w3.cell? ⟨S, 1, none⟩ = some (.slice A0 s.d.length c0) ∧ w3.frozen? ⟨S, 1, none⟩ = false ∧
      (∃ T', LtP S (s.dlv id) T' (w3.setCell ⟨S, 1, none⟩ (.slice A (s.d.length + 1) c)) ∧ ∀ j, T' j → T j ∨ w.heap.size ≤ j) ∧ Chg T w (w3.setCell ⟨S, 1, none⟩ (.slice A (s.d.length + 1) c)) := by
  have hA : s.dlv id = { s with l := lfUp s id 3 (lfWy s id), d := s.d ++ [id] } := by unfold LfS.dlv; rw [if_pos hE]
  have hP1 := hP.later hb
  obtain ⟨h0, hS, ⟨A, c, d0, HR⟩, _, _⟩ := hP1.rd
  obtain ⟨g, rfl, hSg, _, hg, _, c0, c1, c2, c3⟩ := HR _ (lfI_lt hi)
  obtain ⟨z2, _, hU, _⟩ := hP1.upd hi d0
  obtain ⟨hU1, hU2⟩ := hU 3 (by omega)
  have hi2 : lfIn { s with l := lfUp s id 3 (lfWy s id) } id := by unfold lfIn at hi ⊢; simp only [lfUp_len]; exact hi
  obtain ⟨A0, c0, A1, c1, w3, m1, m2, m3, m4, ⟨T', m5, m6⟩, m7⟩ := rdone_mem (s := { s with l := lfUp s id 3 (lfWy s id) }) (by have := hb9.d; simp only; omega) hU1 hi2
  rw [hA]
  have hsz : (w1.setCell ⟨g, lfI id * 4 + 2, none⟩ (.int .i64 3)).heap.size = w1.heap.size := by simp [World.setCell]
  rw [hsz] at m2
  refine ⟨g, c, hSg, d0, ⟨_, c2⟩, z2, A0, c0, A1, c1, w3, m1, m2, m3, m4, ⟨T', m5, fun j hj => ?_⟩, ?_⟩
  · rcases m6 j hj with h | h
    · exact .inl h
    · have h9 : w1.heap.size ≤ j := by simpa [World.setCell] using h
      have := hb.size
      exact .inr (by omega)
  · exact ((Chg.of_below (S := T) hb).trans hU2).join m7 (fun k hk => .inl hk)
set_option maxRecDepth 100000 in
set_option maxHeartbeats 16000000 in
theorem rdlv_any {S : Nat} {s : LfS} {base : Nat} (hb9 : LfB s 9999) (id : Int) : Acts 32 #[.pointer (some ⟨S, 0, none⟩), .int .i64 id] base (LtP S s) (fun _ : Unit => .int .i64 (lfDvE s id)) fun _ => LtP S (s.dlv id) := by
  intro T w hP hb hs
  have HST := Lib.hid (rstate_any hb9.l hP id)
  have hst := (hP.1.st id).2
  have HF0 := Lib.hid (fun (W : World) (hw : Below w.heap.size w W) (h : lfDvE s id ≠ 0) => (by
    have hA : s.dlv id = s := by unfold LfS.dlv; rw [if_neg h]
    rw [hA]
    exact ⟨⟨T, hP.later hw, fun k hk => .inl hk⟩, Chg.of_below hw⟩ : (∃ T', LtP S (s.dlv id) T' W ∧ ∀ j, T' j → T j ∨ w.heap.size ≤ j) ∧ Chg T w W))
  by_cases h2 : lfSt s id = 2
  rotate_left 1
  · have hc : (lfSt s id = 0 ∧ lfDvE s id = 6) ∨ ((lfSt s id = 1 ∨ lfSt s id = 3 ∨ lfSt s id = 4) ∧ lfDvE s id = 14) := by
      unfold lfDvE
      by_cases h1 : lfSt s id = 0
      · exact .inl ⟨h1, if_pos h1⟩
      · rw [if_neg h1, if_pos h2]; exact .inr ⟨by omega, rfl⟩
    have HF := Lib.hid (HF0.out w (Below.refl _ _) (by rcases hc with ⟨_, e⟩ | ⟨_, e⟩ <;> omega))
    clear hP hb hs hb9 hst h2 HF0
    generalize s.dlv id = s' at *
    generalize lfSt s id = x at *
    rcases hc with ⟨rfl, e⟩ | ⟨rfl | rfl | rfl, e⟩
    all_goals
      rw [e]
      clear e
      go_enter Try.func32, Try.ntmps32
      go_wp2_with fail
      (with_reducible refine HST.out.mono ?_); rintro e w1 ⟨rfl, rfl⟩
      go_wp2
      go_ret
      first | exact ⟨rfl, HF.out⟩ | exact ⟨(), rfl, HF.out⟩
  have hin : lfIn s id := lfSt_in (by omega)
  have HMEM := Lib.hid (fun (W : World) (hw : Below w.heap.size w W) (hE : lfDvE s id = 0) => rdlv_mem hb9 hP hw hE hin)
  have hE1 : lfOver s id = true → lfDvE s id = 1 := fun h => by unfold lfDvE; rw [h2, if_neg (by decide), if_neg (by decide), if_pos h]
  have hE0 : lfOver s id = false → lfDvE s id = 0 := fun h => by unfold lfDvE; rw [h2, if_neg (by decide), if_neg (by decide), h]; rfl
  rw [h2] at HST
  obtain ⟨h0, hS, ⟨AL, cL, d0, hRL⟩, ⟨AD, cD, d1, hRD⟩, _⟩ := hP.rd
  have HRL := Lib.hid hRL
  have HRD := Lib.hid hRD
  have HIN := Lib.hid (fun k (hk : k < s.d.length) => h0.d _ (List.getElem_mem hk))
  have hln := hb9.l
  have hdn := hb9.d
  have HOY := Lib.hid (fun k (hk : k < s.d.length) (h : (decide (id < s.d[k]) && (lfFl s s.d[k] == lfFl s id)) = true) => (show lfOver s id = true from List.any_eq_true.2 ⟨_, List.getElem_mem hk, h⟩))
  have HON := Lib.hid (fun (h : ∀ k (hk : k < s.d.length), (decide (id < s.d[k]) && (lfFl s s.d[k] == lfFl s id)) = false) => (by
    unfold lfOver
    rw [List.any_eq_false]
    intro y hy
    obtain ⟨k, hk, rfl⟩ := List.getElem_of_mem hy
    rw [h k hk]; decide : lfOver s id = false))
  have HE1 := Lib.hid hE1
  have HE0 := Lib.hid hE0
  have hjl := lfI_lt hin
  have hjs := lfI_is hin
  obtain ⟨gL, rfl, hSL, _, hgL, _, xj, _, _, _⟩ := hRL _ hjl
  rw [← lfFl_in hin] at xj
  obtain ⟨fi, hfi⟩ : ∃ fi, lfFl s id = fi := ⟨_, rfl⟩
  rw [hfi] at xj HOY HON
  obtain ⟨d, hd⟩ : ∃ d, s.d = d := ⟨_, rfl⟩
  rw [hd] at d1 HRD HIN hdn HOY HON HMEM
  obtain ⟨m, hM⟩ : ∃ m, d.length = m := ⟨_, rfl⟩
  have HMM := Lib.hid hM
  obtain ⟨n, hN⟩ : ∃ n, s.l.length = n := ⟨_, rfl⟩
  have HNN := Lib.hid hN
  rw [hM] at d1 hdn HMEM
  rw [hN] at d0 hln hjl HMEM
  have hidb : 1 ≤ id ∧ id ≤ 9999 := by unfold lfIn at hin; omega
  have HSW := Lib.hid (And.intro d0 d1)
  obtain ⟨j, hjj⟩ : ∃ j, lfI id = j := ⟨_, rfl⟩
  rw [hjj] at hjl hjs xj HMEM
  have hwj : IntKind.i64.wrap (id - 1) = (j : Int) := by rw [IntWalk.i64_in _ (by omega)]; omega
  have hj2 : (j : Int) < n := by omega
  have hj0 : (0 : Int) ≤ j := by omega
  clear hP hb hs hb9 hst h2 h0 hRL hRD hd hM hN hE1 hE0 hin hfi hjj
  go_enter Try.func32, Try.ntmps32
  go_wp2_with fail
  (with_reducible refine HST.out.mono ?_); rintro e w1 ⟨rfl, rfl⟩
  clear HST
  go_wp2_with fail
  go_loopw [6] (fun s6 wr => ∃ (k : Nat), k ≤ m ∧ s6 = .int .i64 k ∧ Hid (∀ i (hi : i < d.length), i < k → (decide (id < d[i]) && (lfFl s d[i] == fi)) = false) ∧ Hid (Below w.heap.size w wr)) (fun s6 _ => m - (intOf s6).toNat)
  case atStart => exact ⟨0, Nat.zero_le _, rfl, Lib.hid (fun i _ h => by omega), Lib.hid (Below.refl _ _)⟩
  case round =>
    obtain ⟨k, hk, rfl, HA, HW⟩ := hrel
    have dd1 := (HW.out.cell (p := ⟨S, 1, none⟩) hS).trans HSW.out.2
    by_cases hlt : k < m
    · have hlt' : (k : Int) < m := by omega
      have hk0 : (0 : Int) ≤ k := by omega
      have hkl : k < d.length := by have := HMM.out; omega
      obtain ⟨gD, rfl, hSD, hgD, x0⟩ := HRD.out k hkl
      have hin := HIN.out k hkl
      have hil := lfI_lt hin
      have hsub := lfI_is hin
      have hfl := lfFl_in hin
      obtain ⟨gL', e9, _, _, _, _, x1, x2, x3, x4⟩ := HRL.out _ hil
      obtain rfl : gL = gL' := by simpa using e9
      rw [← hfl] at x1
      clear x2 x3 x4 hfl
      rw [HNN.out] at hil
      have HYES := Lib.hid (fun (h : (decide (id < d[k]) && (lfFl s d[k] == fi)) = true) => HOY.out k hkl h)
      have HNO := Lib.hid (fun (h : (decide (id < d[k]) && (lfFl s d[k] == fi)) = false) i (hi : i < d.length) (hik : i < k + 1) => (by
        rcases Nat.lt_or_ge i k with h1 | h1
        · exact HA.out i hi h1
        · obtain rfl : i = k := by omega
          exact h : (decide (id < d[i]) && (lfFl s d[i] == fi)) = false))
      generalize d[k] = dk at *
      obtain ⟨fl, hfl2⟩ : ∃ fl, lfFl s dk = fl := ⟨_, rfl⟩
      rw [hfl2] at x1 HYES HNO
      generalize lfI dk = i at *
      have hdk : 1 ≤ dk ∧ dk ≤ 9999 := by omega
      have hwk : IntKind.i64.wrap (dk - 1) = (i : Int) := by rw [IntWalk.i64_in _ (by omega)]; omega
      have hi2 : (i : Int) < n := by omega
      have hi0 : (0 : Int) ≤ i := by omega
      have HC := Lib.hid (fun (W : World) (hw : Below wr.drew.heap.size wr.drew W) => (by
        have hbb := HW.out.trans (((Below.refl _ wr).drew.trans hw).mono HW.out.size)
        exact ⟨(hbb.cell (p := ⟨S, 0, none⟩) hS).trans HSW.out.1, (hbb.cell (p := ⟨S, 1, none⟩) hS).trans HSW.out.2, (hbb.cell (p := ⟨gD, k, none⟩) hgD).trans x0, (hbb.cell (p := ⟨gL, i * 4, none⟩) hgL).trans x1, (hbb.cell (p := ⟨gL, j * 4, none⟩) hgL).trans xj⟩ :
        W.cell? ⟨S, 0, none⟩ = some (.slice (some ⟨gL, 0, none⟩) n cL) ∧ W.cell? ⟨S, 1, none⟩ = some (.slice (some ⟨gD, 0, none⟩) m cD) ∧ W.cell? ⟨gD, k, none⟩ = some (.int .i64 dk) ∧ W.cell? ⟨gL, i * 4, none⟩ = some (.int .i64 fl) ∧ W.cell? ⟨gL, j * 4, none⟩ = some (.int .i64 fi)))
      clear HRL HRD HIN HSW hin hsub hfl2 x0 x1 hil d0 d1 hS HA e9 HMEM HON xj
      cases hb1 : decide (id < dk)
      · rw [hb1] at HYES HNO
        clear HYES HF0 HE1 HOY
        go_wp2_with fail
        refine wp_region_looseS 77 (by kernel_rfl) (by kernel_rfl) (StB wr.drew (fun vI => [.pointer (some ⟨S, 0, none⟩), .pointer (some ⟨S, 0, none⟩), .pointer (some ⟨S, 1, none⟩), .slice (some ⟨gD, 0, none⟩) m cD, .int .i64 (k : Nat), .pointer (some ⟨gD, k, none⟩), .int .i64 dk, .int .i64 id, .bool false, .bool false, undef, undef, undef, undef, undef, undef, undef, undef, undef, undef, undef, undef, undef, undef, undef, undef, undef, undef, undef, undef, undef, undef, undef, undef, undef, .bool false].getD vI undef)) rfl StB.start ?_ ?_
        · simp only [OblAllS]
          refine ⟨?_, ?_, ?_, ?_, ?_, ?_, ?_, ?_, ?_, ?_, ?_, ?_, ?_, ?_, ?_, ?_, ?_, ?_, ?_, ?_, ?_, ?_, ?_, ?_, ?_, ?_, ?_, ?_, ?_, ?_, ?_, ?_, ?_, ?_, ?_, ?_, trivial⟩
          · intro L wx vals hi hu hcl hC
            have HCx := Lib.hid hC
            clear hC hcl hu hi
            simp only [fillA, if_true, Act.put]
            simp
            go_wp2
            exact ⟨rfl, HCx.out.quiet 0 rfl⟩
          · intro L wx vals hi hu hcl hC
            simp [predL, predE, Region.binds, UpL] at hu
            have e0 : vals 0 = .pointer (some ⟨S, 0, none⟩) := hC.v 0 (by simp [hu])
            have HCx := Lib.hid hC
            clear hC hcl hu hi
            simp only [fillA, if_true, Act.put]
            simp
            simp only [e0]
            clear e0
            go_wp2
            exact ⟨rfl, HCx.out.quiet 1 rfl⟩
          · intro L wx vals hi hu hcl hC
            simp [predL, predE, Region.binds, UpL] at hu
            have e1 : vals 1 = .pointer (some ⟨S, 0, none⟩) := hC.v 1 (by simp [hu])
            have HCx := Lib.hid hC
            clear hC hcl hu hi
            simp only [fillA, if_true, Act.put]
            simp
            simp only [e1]
            clear e1
            go_wp2
            exact ⟨rfl, HCx.out.quiet 2 rfl⟩
          · intro L wx vals hi hu hcl hC
            simp [predL, predE, Region.binds, UpL] at hu
            have e2 : vals 2 = .pointer (some ⟨S, 1, none⟩) := hC.v 2 (by simp [hu])
            have h0 := (HC.out wx hC.b).2.1
            have HCx := Lib.hid hC
            clear hC hcl hu hi
            simp only [fillA, if_true, Act.put]
            simp
            simp only [e2]
            clear e2
            go_wp2
            exact ⟨rfl, HCx.out.quiet 3 rfl⟩
          · intro L wx vals hi hu hcl hC
            have HCx := Lib.hid hC
            clear hC hcl hu hi
            simp only [fillA, if_true, Act.put]
            simp
            go_wp2
            exact ⟨rfl, HCx.out.quiet 4 rfl⟩
          · intro L wx vals hi hu hcl hC
            simp [predL, predE, Region.binds, UpL] at hu
            have e3 : vals 3 = .slice (some ⟨gD, 0, none⟩) m cD := hC.v 3 (by simp [hu])
            have e4 : vals 4 = .int .i64 (k : Nat) := hC.v 4 (by simp [hu])
            have HCx := Lib.hid hC
            clear hC hcl hu hi
            simp only [fillA, if_true, Act.put]
            simp
            simp only [e3, e4]
            clear e3 e4
            go_wp2
            exact ⟨rfl, HCx.out.quiet 5 rfl⟩
          · intro L wx vals hi hu hcl hC
            simp [predL, predE, Region.binds, UpL] at hu
            have e5 : vals 5 = .pointer (some ⟨gD, k, none⟩) := hC.v 5 (by simp [hu])
            have h0 := (HC.out wx hC.b).2.2.1
            have HCx := Lib.hid hC
            clear hC hcl hu hi
            simp only [fillA, if_true, Act.put]
            simp
            simp only [e5]
            clear e5
            go_wp2
            exact ⟨rfl, HCx.out.quiet 6 rfl⟩
          · intro L wx vals hi hu hcl hC
            have HCx := Lib.hid hC
            clear hC hcl hu hi
            simp only [fillA, if_true, Act.put]
            simp
            go_wp2
            exact ⟨rfl, HCx.out.quiet 7 rfl⟩
          · intro L wx vals hi hu hcl hC
            simp [predL, predE, Region.binds, UpL] at hu
            have e6 : vals 6 = .int .i64 dk := hC.v 6 (by simp [hu])
            have e7 : vals 7 = .int .i64 id := hC.v 7 (by simp [hu])
            have HCx := Lib.hid hC
            clear hC hcl hu hi
            simp only [fillA, if_true, Act.put]
            simp
            simp only [e6, e7]
            clear e6 e7
            go_wp2
            exact ⟨rfl, HCx.out.quiet 8 rfl⟩
          · intro L wx vals hi hu hcl hC
            simp [predL, predE, Region.binds, UpL] at hu
            have e8 : vals 8 = .bool false := hC.v 8 (by simp [hu])
            have HCx := Lib.hid hC
            clear hC hcl hu hi
            simp only [fillA, if_true, Act.put]
            simp
            simp only [e8]
            clear e8
            go_wp2
            exact ⟨rfl, HCx.out.quiet 9 rfl⟩
          · intro L wx vals hi hu hcl hC
            simp [predL, predE, Region.binds, UpL] at hu
            have e9 : vals 9 = .bool false := hC.v 9 (by simp [hu])
            have HCx := Lib.hid hC
            clear hC hcl hu hi
            simp only [fillA, if_true, Act.put]
            simp
            simp only [e9]
            clear e9
            go_wp2
            exact ⟨rfl, HCx.out.quiet 10 rfl⟩
          · intro L wx vals hi hu hcl hC
            simp [predL, predE, Region.binds, UpL] at hu
            have e9 : vals 9 = .bool false := hC.v 9 (by simp [hu])
            have HCx := Lib.hid hC
            clear hC hcl hu hi
            simp only [fillA, if_true, Act.put]
            simp
            simp only [e9]
            clear e9
            go_wp2
            exact ⟨rfl, HCx.out.quiet 11 rfl⟩
          · intro L wx vals hi hu hcl hC
            simp [predL, predE, Region.binds, UpL] at hu
            have e9 : vals 9 = .bool false := hC.v 9 (by simp [hu])
            have HCx := Lib.hid hC
            clear hC hcl hu hi
            simp only [fillA, if_true, Act.put]
            simp
            simp only [e9]
            clear e9
            go_wp2
            exact ⟨rfl, HCx.out.quiet 12 rfl⟩
          · intro L wx vals hi hu hcl hC
            simp [predL, predE, Region.binds, UpL] at hu
            have e9 : vals 9 = .bool false := hC.v 9 (by simp [hu])
            have HCx := Lib.hid hC
            clear hC hcl hu hi
            simp only [fillA, if_true, Act.put]
            simp
            simp only [e9]
            clear e9
            go_wp2
            exact ⟨rfl, HCx.out.quiet 13 rfl⟩
          · intro L wx vals hi hu hcl hC
            simp [predL, predE, Region.binds, UpL] at hu
            have e9 : vals 9 = .bool false := hC.v 9 (by simp [hu])
            have HCx := Lib.hid hC
            clear hC hcl hu hi
            simp only [fillA, if_true, Act.put]
            simp
            simp only [e9]
            clear e9
            go_wp2
            exact ⟨rfl, HCx.out.quiet 14 rfl⟩
          · intro L wx vals hi hu hcl hC
            simp [predL, predE, Region.binds, UpL] at hu
            have e9 : vals 9 = .bool false := hC.v 9 (by simp [hu])
            have HCx := Lib.hid hC
            clear hC hcl hu hi
            simp only [fillA, if_true, Act.put]
            simp
            simp only [e9]
            clear e9
            go_wp2
            exact ⟨rfl, HCx.out.quiet 15 rfl⟩
          · intro L wx vals hi hu hcl hC
            simp [predL, predE, Region.binds, UpL] at hu
            have e9 : vals 9 = .bool false := hC.v 9 (by simp [hu])
            have HCx := Lib.hid hC
            clear hC hcl hu hi
            simp only [fillA, if_true, Act.put]
            simp
            simp only [e9]
            clear e9
            go_wp2
            exact ⟨rfl, HCx.out.quiet 16 rfl⟩
          · intro L wx vals hi hu hcl hC
            simp [predL, predE, Region.binds, UpL] at hu
            have e9 : vals 9 = .bool false := hC.v 9 (by simp [hu])
            have HCx := Lib.hid hC
            clear hC hcl hu hi
            simp only [fillA, if_true, Act.put]
            simp
            simp only [e9]
            clear e9
            go_wp2
            exact ⟨rfl, HCx.out.quiet 17 rfl⟩
          · intro L wx vals hi hu hcl hC
            simp [predL, predE, Region.binds, UpL] at hu
            have e9 : vals 9 = .bool false := hC.v 9 (by simp [hu])
            have HCx := Lib.hid hC
            clear hC hcl hu hi
            simp only [fillA, if_true, Act.put]
            simp
            simp only [e9]
            clear e9
            go_wp2
            exact ⟨rfl, HCx.out.quiet 18 rfl⟩
          · intro L wx vals hi hu hcl hC
            simp [predL, predE, Region.binds, UpL] at hu
            have e9 : vals 9 = .bool false := hC.v 9 (by simp [hu])
            have HCx := Lib.hid hC
            clear hC hcl hu hi
            simp only [fillA, if_true, Act.put]
            simp
            simp only [e9]
            clear e9
            go_wp2
            exact ⟨rfl, HCx.out.quiet 19 rfl⟩
          · intro L wx vals hi hu hcl hC
            simp [predL, predE, Region.binds, UpL] at hu
            have e9 : vals 9 = .bool false := hC.v 9 (by simp [hu])
            have HCx := Lib.hid hC
            clear hC hcl hu hi
            simp only [fillA, if_true, Act.put]
            simp
            simp only [e9]
            clear e9
            go_wp2
            exact ⟨rfl, HCx.out.quiet 20 rfl⟩
          · intro L wx vals hi hu hcl hC
            simp [predL, predE, Region.binds, UpL] at hu
            have e9 : vals 9 = .bool false := hC.v 9 (by simp [hu])
            have HCx := Lib.hid hC
            clear hC hcl hu hi
            simp only [fillA, if_true, Act.put]
            simp
            simp only [e9]
            clear e9
            go_wp2
            exact ⟨rfl, HCx.out.quiet 21 rfl⟩
          · intro L wx vals hi hu hcl hC
            simp [predL, predE, Region.binds, UpL] at hu
            have e9 : vals 9 = .bool false := hC.v 9 (by simp [hu])
            have HCx := Lib.hid hC
            clear hC hcl hu hi
            simp only [fillA, if_true, Act.put]
            simp
            simp only [e9]
            clear e9
            go_wp2
            exact ⟨rfl, HCx.out.quiet 22 rfl⟩
          · intro L wx vals hi hu hcl hC
            simp [predL, predE, Region.binds, UpL] at hu
            have e9 : vals 9 = .bool false := hC.v 9 (by simp [hu])
            have HCx := Lib.hid hC
            clear hC hcl hu hi
            simp only [fillA, if_true, Act.put]
            simp
            simp only [e9]
            clear e9
            go_wp2
            exact ⟨rfl, HCx.out.quiet 23 rfl⟩
          · intro L wx vals hi hu hcl hC
            simp [predL, predE, Region.binds, UpL] at hu
            have e9 : vals 9 = .bool false := hC.v 9 (by simp [hu])
            have HCx := Lib.hid hC
            clear hC hcl hu hi
            simp only [fillA, if_true, Act.put]
            simp
            simp only [e9]
            clear e9
            go_wp2
            exact ⟨rfl, HCx.out.quiet 24 rfl⟩
          · intro L wx vals hi hu hcl hC
            simp [predL, predE, Region.binds, UpL] at hu
            have e9 : vals 9 = .bool false := hC.v 9 (by simp [hu])
            have HCx := Lib.hid hC
            clear hC hcl hu hi
            simp only [fillA, if_true, Act.put]
            simp
            simp only [e9]
            clear e9
            go_wp2
            exact ⟨rfl, HCx.out.quiet 25 rfl⟩
          · intro L wx vals hi hu hcl hC
            simp [predL, predE, Region.binds, UpL] at hu
            have e9 : vals 9 = .bool false := hC.v 9 (by simp [hu])
            have HCx := Lib.hid hC
            clear hC hcl hu hi
            simp only [fillA, if_true, Act.put]
            simp
            simp only [e9]
            clear e9
            go_wp2
            exact ⟨rfl, HCx.out.quiet 26 rfl⟩
          · intro L wx vals hi hu hcl hC
            simp [predL, predE, Region.binds, UpL] at hu
            have e9 : vals 9 = .bool false := hC.v 9 (by simp [hu])
            have HCx := Lib.hid hC
            clear hC hcl hu hi
            simp only [fillA, if_true, Act.put]
            simp
            simp only [e9]
            clear e9
            go_wp2
            exact ⟨rfl, HCx.out.quiet 27 rfl⟩
          · intro L wx vals hi hu hcl hC
            simp [predL, predE, Region.binds, UpL] at hu
            have e9 : vals 9 = .bool false := hC.v 9 (by simp [hu])
            have HCx := Lib.hid hC
            clear hC hcl hu hi
            simp only [fillA, if_true, Act.put]
            simp
            simp only [e9]
            clear e9
            go_wp2
            exact ⟨rfl, HCx.out.quiet 28 rfl⟩
          · intro L wx vals hi hu hcl hC
            simp [predL, predE, Region.binds, UpL] at hu
            have e9 : vals 9 = .bool false := hC.v 9 (by simp [hu])
            have HCx := Lib.hid hC
            clear hC hcl hu hi
            simp only [fillA, if_true, Act.put]
            simp
            simp only [e9]
            clear e9
            go_wp2
            exact ⟨rfl, HCx.out.quiet 29 rfl⟩
          · intro L wx vals hi hu hcl hC
            simp [predL, predE, Region.binds, UpL] at hu
            have e9 : vals 9 = .bool false := hC.v 9 (by simp [hu])
            have HCx := Lib.hid hC
            clear hC hcl hu hi
            simp only [fillA, if_true, Act.put]
            simp
            simp only [e9]
            clear e9
            go_wp2
            exact ⟨rfl, HCx.out.quiet 30 rfl⟩
          · intro L wx vals hi hu hcl hC
            simp [predL, predE, Region.binds, UpL] at hu
            have e9 : vals 9 = .bool false := hC.v 9 (by simp [hu])
            have HCx := Lib.hid hC
            clear hC hcl hu hi
            simp only [fillA, if_true, Act.put]
            simp
            simp only [e9]
            clear e9
            go_wp2
            exact ⟨rfl, HCx.out.quiet 31 rfl⟩
          · intro L wx vals hi hu hcl hC
            simp [predL, predE, Region.binds, UpL] at hu
            have e9 : vals 9 = .bool false := hC.v 9 (by simp [hu])
            have HCx := Lib.hid hC
            clear hC hcl hu hi
            simp only [fillA, if_true, Act.put]
            simp
            simp only [e9]
            clear e9
            go_wp2
            exact ⟨rfl, HCx.out.quiet 32 rfl⟩
          · intro L wx vals hi hu hcl hC
            simp [predL, predE, Region.binds, UpL] at hu
            have e9 : vals 9 = .bool false := hC.v 9 (by simp [hu])
            have HCx := Lib.hid hC
            clear hC hcl hu hi
            simp only [fillA, if_true, Act.put]
            simp
            simp only [e9]
            clear e9
            go_wp2
            exact ⟨rfl, HCx.out.quiet 33 rfl⟩
          · intro L wx vals hi hu hcl hC
            simp [predL, predE, Region.binds, UpL] at hu
            have e9 : vals 9 = .bool false := hC.v 9 (by simp [hu])
            have HCx := Lib.hid hC
            clear hC hcl hu hi
            simp only [fillA, if_true, Act.put]
            simp
            simp only [e9]
            clear e9
            go_wp2
            exact ⟨rfl, HCx.out.quiet 34 rfl⟩
          · intro L wx vals hi hu hcl hC
            simp [predL, predE, Region.binds, UpL] at hu
            have e9 : vals 9 = .bool false := hC.v 9 (by simp [hu])
            have HCx := Lib.hid hC
            clear hC hcl hu hi
            simp only [fillA, if_true, Act.put]
            simp
            simp only [e9]
            clear e9
            go_wp2
            exact ⟨rfl, HCx.out.quiet 35 rfl⟩
        · intro wz vals U hC hall
          have e35 : vals 35 = .bool false := hC.v 35 (hall 35 (by simp))
          have HB := Lib.hid (HW.out.trans (((Below.refl _ wr).drew.trans hC.b).mono HW.out.size))
          simp only [fillA, if_true, Act.put]
          simp
          simp only [e35]
          clear hC hall e35 HC HW
          generalize vals 0 = t_0 at *
          generalize vals 1 = t_1 at *
          generalize vals 2 = t_2 at *
          generalize vals 3 = t_3 at *
          generalize vals 4 = t_4 at *
          generalize vals 5 = t_5 at *
          generalize vals 6 = t_6 at *
          generalize vals 7 = t_7 at *
          generalize vals 8 = t_8 at *
          generalize vals 9 = t_9 at *
          generalize vals 10 = t_10 at *
          generalize vals 11 = t_11 at *
          generalize vals 12 = t_12 at *
          generalize vals 13 = t_13 at *
          generalize vals 14 = t_14 at *
          generalize vals 15 = t_15 at *
          generalize vals 16 = t_16 at *
          generalize vals 17 = t_17 at *
          generalize vals 18 = t_18 at *
          generalize vals 19 = t_19 at *
          generalize vals 20 = t_20 at *
          generalize vals 21 = t_21 at *
          generalize vals 22 = t_22 at *
          generalize vals 23 = t_23 at *
          generalize vals 24 = t_24 at *
          generalize vals 25 = t_25 at *
          generalize vals 26 = t_26 at *
          generalize vals 27 = t_27 at *
          generalize vals 28 = t_28 at *
          generalize vals 29 = t_29 at *
          generalize vals 30 = t_30 at *
          generalize vals 31 = t_31 at *
          generalize vals 32 = t_32 at *
          generalize vals 33 = t_33 at *
          generalize vals 34 = t_34 at *
          have HA2 := Lib.hid (HNO.out rfl)
          go_wp2
          go_roundw
          case rel => exact ⟨k + 1, by omega, by go_num, HA2, HB⟩
          case measure => simp [intOf]; omega
      · cases hb2 : (fl == fi)
        · rw [hb1, hb2] at HYES HNO
          clear HYES HF0 HE1 HOY
          go_wp2_with fail
          refine wp_region_looseS 77 (by kernel_rfl) (by kernel_rfl) (StB wr.drew (fun vI => [.pointer (some ⟨S, 0, none⟩), .pointer (some ⟨S, 0, none⟩), .pointer (some ⟨S, 1, none⟩), .slice (some ⟨gD, 0, none⟩) m cD, .int .i64 (k : Nat), .pointer (some ⟨gD, k, none⟩), .int .i64 dk, .int .i64 id, .bool true, .bool true, .pointer (some ⟨S, 0, none⟩), .pointer (some ⟨S, 0, none⟩), .pointer (some ⟨S, 0, none⟩), .slice (some ⟨gL, 0, none⟩) n cL, .pointer (some ⟨S, 0, none⟩), .pointer (some ⟨S, 0, none⟩), .pointer (some ⟨S, 1, none⟩), .slice (some ⟨gD, 0, none⟩) m cD, .int .i64 (k : Nat), .pointer (some ⟨gD, k, none⟩), .int .i64 dk, .int .i64 (i : Nat), .pointer (some ⟨gL, i * 4, none⟩), .pointer (some ⟨gL, i * 4, none⟩), .int .i64 fl, .pointer (some ⟨S, 0, none⟩), .pointer (some ⟨S, 0, none⟩), .pointer (some ⟨S, 0, none⟩), .slice (some ⟨gL, 0, none⟩) n cL, .int .i64 id, .int .i64 (j : Nat), .pointer (some ⟨gL, j * 4, none⟩), .pointer (some ⟨gL, j * 4, none⟩), .int .i64 fi, .bool false, .bool false].getD vI undef)) rfl StB.start ?_ ?_
          · simp only [OblAllS]
            refine ⟨?_, ?_, ?_, ?_, ?_, ?_, ?_, ?_, ?_, ?_, ?_, ?_, ?_, ?_, ?_, ?_, ?_, ?_, ?_, ?_, ?_, ?_, ?_, ?_, ?_, ?_, ?_, ?_, ?_, ?_, ?_, ?_, ?_, ?_, ?_, ?_, trivial⟩
            · intro L wx vals hi hu hcl hC
              have HCx := Lib.hid hC
              clear hC hcl hu hi
              simp only [fillA, if_true, Act.put]
              simp
              go_wp2
              exact ⟨rfl, HCx.out.quiet 0 rfl⟩
            · intro L wx vals hi hu hcl hC
              simp [predL, predE, Region.binds, UpL] at hu
              have e0 : vals 0 = .pointer (some ⟨S, 0, none⟩) := hC.v 0 (by simp [hu])
              have HCx := Lib.hid hC
              clear hC hcl hu hi
              simp only [fillA, if_true, Act.put]
              simp
              simp only [e0]
              clear e0
              go_wp2
              exact ⟨rfl, HCx.out.quiet 1 rfl⟩
            · intro L wx vals hi hu hcl hC
              simp [predL, predE, Region.binds, UpL] at hu
              have e1 : vals 1 = .pointer (some ⟨S, 0, none⟩) := hC.v 1 (by simp [hu])
              have HCx := Lib.hid hC
              clear hC hcl hu hi
              simp only [fillA, if_true, Act.put]
              simp
              simp only [e1]
              clear e1
              go_wp2
              exact ⟨rfl, HCx.out.quiet 2 rfl⟩
            · intro L wx vals hi hu hcl hC
              simp [predL, predE, Region.binds, UpL] at hu
              have e2 : vals 2 = .pointer (some ⟨S, 1, none⟩) := hC.v 2 (by simp [hu])
              have h0 := (HC.out wx hC.b).2.1
              have HCx := Lib.hid hC
              clear hC hcl hu hi
              simp only [fillA, if_true, Act.put]
              simp
              simp only [e2]
              clear e2
              go_wp2
              exact ⟨rfl, HCx.out.quiet 3 rfl⟩
            · intro L wx vals hi hu hcl hC
              have HCx := Lib.hid hC
              clear hC hcl hu hi
              simp only [fillA, if_true, Act.put]
              simp
              go_wp2
              exact ⟨rfl, HCx.out.quiet 4 rfl⟩
            · intro L wx vals hi hu hcl hC
              simp [predL, predE, Region.binds, UpL] at hu
              have e3 : vals 3 = .slice (some ⟨gD, 0, none⟩) m cD := hC.v 3 (by simp [hu])
              have e4 : vals 4 = .int .i64 (k : Nat) := hC.v 4 (by simp [hu])
              have HCx := Lib.hid hC
              clear hC hcl hu hi
              simp only [fillA, if_true, Act.put]
              simp
              simp only [e3, e4]
              clear e3 e4
              go_wp2
              exact ⟨rfl, HCx.out.quiet 5 rfl⟩
            · intro L wx vals hi hu hcl hC
              simp [predL, predE, Region.binds, UpL] at hu
              have e5 : vals 5 = .pointer (some ⟨gD, k, none⟩) := hC.v 5 (by simp [hu])
              have h0 := (HC.out wx hC.b).2.2.1
              have HCx := Lib.hid hC
              clear hC hcl hu hi
              simp only [fillA, if_true, Act.put]
              simp
              simp only [e5]
              clear e5
              go_wp2
              exact ⟨rfl, HCx.out.quiet 6 rfl⟩
            · intro L wx vals hi hu hcl hC
              have HCx := Lib.hid hC
              clear hC hcl hu hi
              simp only [fillA, if_true, Act.put]
              simp
              go_wp2
              exact ⟨rfl, HCx.out.quiet 7 rfl⟩
            · intro L wx vals hi hu hcl hC
              simp [predL, predE, Region.binds, UpL] at hu
              have e6 : vals 6 = .int .i64 dk := hC.v 6 (by simp [hu])
              have e7 : vals 7 = .int .i64 id := hC.v 7 (by simp [hu])
              have HCx := Lib.hid hC
              clear hC hcl hu hi
              simp only [fillA, if_true, Act.put]
              simp
              simp only [e6, e7]
              clear e6 e7
              go_wp2
              exact ⟨rfl, HCx.out.quiet 8 rfl⟩
            · intro L wx vals hi hu hcl hC
              simp [predL, predE, Region.binds, UpL] at hu
              have e8 : vals 8 = .bool true := hC.v 8 (by simp [hu])
              have HCx := Lib.hid hC
              clear hC hcl hu hi
              simp only [fillA, if_true, Act.put]
              simp
              simp only [e8]
              clear e8
              go_wp2
              exact ⟨rfl, HCx.out.quiet 9 rfl⟩
            · intro L wx vals hi hu hcl hC
              simp [predL, predE, Region.binds, UpL] at hu
              have e9 : vals 9 = .bool true := hC.v 9 (by simp [hu])
              have HCx := Lib.hid hC
              clear hC hcl hu hi
              simp only [fillA, if_true, Act.put]
              simp
              simp only [e9]
              clear e9
              go_wp2
              exact ⟨rfl, HCx.out.quiet 10 rfl⟩
            · intro L wx vals hi hu hcl hC
              simp [predL, predE, Region.binds, UpL] at hu
              have e9 : vals 9 = .bool true := hC.v 9 (by simp [hu])
              have e10 : vals 10 = .pointer (some ⟨S, 0, none⟩) := hC.v 10 (by simp [hu])
              have HCx := Lib.hid hC
              clear hC hcl hu hi
              simp only [fillA, if_true, Act.put]
              simp
              simp only [e9, e10]
              clear e9 e10
              go_wp2
              exact ⟨rfl, HCx.out.quiet 11 rfl⟩
            · intro L wx vals hi hu hcl hC
              simp [predL, predE, Region.binds, UpL] at hu
              have e9 : vals 9 = .bool true := hC.v 9 (by simp [hu])
              have e11 : vals 11 = .pointer (some ⟨S, 0, none⟩) := hC.v 11 (by simp [hu])
              have HCx := Lib.hid hC
              clear hC hcl hu hi
              simp only [fillA, if_true, Act.put]
              simp
              simp only [e9, e11]
              clear e9 e11
              go_wp2
              exact ⟨rfl, HCx.out.quiet 12 rfl⟩
            · intro L wx vals hi hu hcl hC
              simp [predL, predE, Region.binds, UpL] at hu
              have e9 : vals 9 = .bool true := hC.v 9 (by simp [hu])
              have e12 : vals 12 = .pointer (some ⟨S, 0, none⟩) := hC.v 12 (by simp [hu])
              have h0 := (HC.out wx hC.b).1
              have HCx := Lib.hid hC
              clear hC hcl hu hi
              simp only [fillA, if_true, Act.put]
              simp
              simp only [e9, e12]
              clear e9 e12
              go_wp2
              exact ⟨rfl, HCx.out.quiet 13 rfl⟩
            · intro L wx vals hi hu hcl hC
              simp [predL, predE, Region.binds, UpL] at hu
              have e9 : vals 9 = .bool true := hC.v 9 (by simp [hu])
              have HCx := Lib.hid hC
              clear hC hcl hu hi
              simp only [fillA, if_true, Act.put]
              simp
              simp only [e9]
              clear e9
              go_wp2
              exact ⟨rfl, HCx.out.quiet 14 rfl⟩
            · intro L wx vals hi hu hcl hC
              simp [predL, predE, Region.binds, UpL] at hu
              have e9 : vals 9 = .bool true := hC.v 9 (by simp [hu])
              have e14 : vals 14 = .pointer (some ⟨S, 0, none⟩) := hC.v 14 (by simp [hu])
              have HCx := Lib.hid hC
              clear hC hcl hu hi
              simp only [fillA, if_true, Act.put]
              simp
              simp only [e9, e14]
              clear e9 e14
              go_wp2
              exact ⟨rfl, HCx.out.quiet 15 rfl⟩
            · intro L wx vals hi hu hcl hC
              simp [predL, predE, Region.binds, UpL] at hu
              have e9 : vals 9 = .bool true := hC.v 9 (by simp [hu])
              have e15 : vals 15 = .pointer (some ⟨S, 0, none⟩) := hC.v 15 (by simp [hu])
              have HCx := Lib.hid hC
              clear hC hcl hu hi
              simp only [fillA, if_true, Act.put]
              simp
              simp only [e9, e15]
              clear e9 e15
              go_wp2
              exact ⟨rfl, HCx.out.quiet 16 rfl⟩
            · intro L wx vals hi hu hcl hC
              simp [predL, predE, Region.binds, UpL] at hu
              have e9 : vals 9 = .bool true := hC.v 9 (by simp [hu])
              have e16 : vals 16 = .pointer (some ⟨S, 1, none⟩) := hC.v 16 (by simp [hu])
              have h0 := (HC.out wx hC.b).2.1
              have HCx := Lib.hid hC
              clear hC hcl hu hi
              simp only [fillA, if_true, Act.put]
              simp
              simp only [e9, e16]
              clear e9 e16
              go_wp2
              exact ⟨rfl, HCx.out.quiet 17 rfl⟩
            · intro L wx vals hi hu hcl hC
              simp [predL, predE, Region.binds, UpL] at hu
              have e9 : vals 9 = .bool true := hC.v 9 (by simp [hu])
              have HCx := Lib.hid hC
              clear hC hcl hu hi
              simp only [fillA, if_true, Act.put]
              simp
              simp only [e9]
              clear e9
              go_wp2
              exact ⟨rfl, HCx.out.quiet 18 rfl⟩
            · intro L wx vals hi hu hcl hC
              simp [predL, predE, Region.binds, UpL] at hu
              have e9 : vals 9 = .bool true := hC.v 9 (by simp [hu])
              have e17 : vals 17 = .slice (some ⟨gD, 0, none⟩) m cD := hC.v 17 (by simp [hu])
              have e18 : vals 18 = .int .i64 (k : Nat) := hC.v 18 (by simp [hu])
              have HCx := Lib.hid hC
              clear hC hcl hu hi
              simp only [fillA, if_true, Act.put]
              simp
              simp only [e9, e17, e18]
              clear e9 e17 e18
              go_wp2
              exact ⟨rfl, HCx.out.quiet 19 rfl⟩
            · intro L wx vals hi hu hcl hC
              simp [predL, predE, Region.binds, UpL] at hu
              have e9 : vals 9 = .bool true := hC.v 9 (by simp [hu])
              have e19 : vals 19 = .pointer (some ⟨gD, k, none⟩) := hC.v 19 (by simp [hu])
              have h0 := (HC.out wx hC.b).2.2.1
              have HCx := Lib.hid hC
              clear hC hcl hu hi
              simp only [fillA, if_true, Act.put]
              simp
              simp only [e9, e19]
              clear e9 e19
              go_wp2
              exact ⟨rfl, HCx.out.quiet 20 rfl⟩
            · intro L wx vals hi hu hcl hC
              simp [predL, predE, Region.binds, UpL] at hu
              have e9 : vals 9 = .bool true := hC.v 9 (by simp [hu])
              have e20 : vals 20 = .int .i64 dk := hC.v 20 (by simp [hu])
              have HCx := Lib.hid hC
              clear hC hcl hu hi
              simp only [fillA, if_true, Act.put]
              simp
              simp only [e9, e20]
              clear e9 e20
              go_wp2
              exact ⟨rfl, HCx.out.quiet 21 rfl⟩
            · intro L wx vals hi hu hcl hC
              simp [predL, predE, Region.binds, UpL] at hu
              have e9 : vals 9 = .bool true := hC.v 9 (by simp [hu])
              have e13 : vals 13 = .slice (some ⟨gL, 0, none⟩) n cL := hC.v 13 (by simp [hu])
              have e21 : vals 21 = .int .i64 (i : Nat) := hC.v 21 (by simp [hu])
              have HCx := Lib.hid hC
              clear hC hcl hu hi
              simp only [fillA, if_true, Act.put]
              simp
              simp only [e9, e13, e21]
              clear e9 e13 e21
              go_wp2
              exact ⟨rfl, HCx.out.quiet 22 rfl⟩
            · intro L wx vals hi hu hcl hC
              simp [predL, predE, Region.binds, UpL] at hu
              have e9 : vals 9 = .bool true := hC.v 9 (by simp [hu])
              have e22 : vals 22 = .pointer (some ⟨gL, i * 4, none⟩) := hC.v 22 (by simp [hu])
              have HCx := Lib.hid hC
              clear hC hcl hu hi
              simp only [fillA, if_true, Act.put]
              simp
              simp only [e9, e22]
              clear e9 e22
              go_wp2
              exact ⟨rfl, HCx.out.quiet 23 rfl⟩
            · intro L wx vals hi hu hcl hC
              simp [predL, predE, Region.binds, UpL] at hu
              have e9 : vals 9 = .bool true := hC.v 9 (by simp [hu])
              have e23 : vals 23 = .pointer (some ⟨gL, i * 4, none⟩) := hC.v 23 (by simp [hu])
              have h0 := (HC.out wx hC.b).2.2.2.1
              have HCx := Lib.hid hC
              clear hC hcl hu hi
              simp only [fillA, if_true, Act.put]
              simp
              simp only [e9, e23]
              clear e9 e23
              go_wp2
              exact ⟨rfl, HCx.out.quiet 24 rfl⟩
            · intro L wx vals hi hu hcl hC
              simp [predL, predE, Region.binds, UpL] at hu
              have e9 : vals 9 = .bool true := hC.v 9 (by simp [hu])
              have HCx := Lib.hid hC
              clear hC hcl hu hi
              simp only [fillA, if_true, Act.put]
              simp
              simp only [e9]
              clear e9
              go_wp2
              exact ⟨rfl, HCx.out.quiet 25 rfl⟩
            · intro L wx vals hi hu hcl hC
              simp [predL, predE, Region.binds, UpL] at hu
              have e9 : vals 9 = .bool true := hC.v 9 (by simp [hu])
              have e25 : vals 25 = .pointer (some ⟨S, 0, none⟩) := hC.v 25 (by simp [hu])
              have HCx := Lib.hid hC
              clear hC hcl hu hi
              simp only [fillA, if_true, Act.put]
              simp
              simp only [e9, e25]
              clear e9 e25
              go_wp2
              exact ⟨rfl, HCx.out.quiet 26 rfl⟩
            · intro L wx vals hi hu hcl hC
              simp [predL, predE, Region.binds, UpL] at hu
              have e9 : vals 9 = .bool true := hC.v 9 (by simp [hu])
              have e26 : vals 26 = .pointer (some ⟨S, 0, none⟩) := hC.v 26 (by simp [hu])
              have HCx := Lib.hid hC
              clear hC hcl hu hi
              simp only [fillA, if_true, Act.put]
              simp
              simp only [e9, e26]
              clear e9 e26
              go_wp2
              exact ⟨rfl, HCx.out.quiet 27 rfl⟩
            · intro L wx vals hi hu hcl hC
              simp [predL, predE, Region.binds, UpL] at hu
              have e9 : vals 9 = .bool true := hC.v 9 (by simp [hu])
              have e27 : vals 27 = .pointer (some ⟨S, 0, none⟩) := hC.v 27 (by simp [hu])
              have h0 := (HC.out wx hC.b).1
              have HCx := Lib.hid hC
              clear hC hcl hu hi
              simp only [fillA, if_true, Act.put]
              simp
              simp only [e9, e27]
              clear e9 e27
              go_wp2
              exact ⟨rfl, HCx.out.quiet 28 rfl⟩
            · intro L wx vals hi hu hcl hC
              simp [predL, predE, Region.binds, UpL] at hu
              have e9 : vals 9 = .bool true := hC.v 9 (by simp [hu])
              have HCx := Lib.hid hC
              clear hC hcl hu hi
              simp only [fillA, if_true, Act.put]
              simp
              simp only [e9]
              clear e9
              go_wp2
              exact ⟨rfl, HCx.out.quiet 29 rfl⟩
            · intro L wx vals hi hu hcl hC
              simp [predL, predE, Region.binds, UpL] at hu
              have e9 : vals 9 = .bool true := hC.v 9 (by simp [hu])
              have e29 : vals 29 = .int .i64 id := hC.v 29 (by simp [hu])
              have HCx := Lib.hid hC
              clear hC hcl hu hi
              simp only [fillA, if_true, Act.put]
              simp
              simp only [e9, e29]
              clear e9 e29
              go_wp2
              exact ⟨rfl, HCx.out.quiet 30 rfl⟩
            · intro L wx vals hi hu hcl hC
              simp [predL, predE, Region.binds, UpL] at hu
              have e9 : vals 9 = .bool true := hC.v 9 (by simp [hu])
              have e28 : vals 28 = .slice (some ⟨gL, 0, none⟩) n cL := hC.v 28 (by simp [hu])
              have e30 : vals 30 = .int .i64 (j : Nat) := hC.v 30 (by simp [hu])
              have HCx := Lib.hid hC
              clear hC hcl hu hi
              simp only [fillA, if_true, Act.put]
              simp
              simp only [e9, e28, e30]
              clear e9 e28 e30
              go_wp2
              exact ⟨rfl, HCx.out.quiet 31 rfl⟩
            · intro L wx vals hi hu hcl hC
              simp [predL, predE, Region.binds, UpL] at hu
              have e9 : vals 9 = .bool true := hC.v 9 (by simp [hu])
              have e31 : vals 31 = .pointer (some ⟨gL, j * 4, none⟩) := hC.v 31 (by simp [hu])
              have HCx := Lib.hid hC
              clear hC hcl hu hi
              simp only [fillA, if_true, Act.put]
              simp
              simp only [e9, e31]
              clear e9 e31
              go_wp2
              exact ⟨rfl, HCx.out.quiet 32 rfl⟩
            · intro L wx vals hi hu hcl hC
              simp [predL, predE, Region.binds, UpL] at hu
              have e9 : vals 9 = .bool true := hC.v 9 (by simp [hu])
              have e32 : vals 32 = .pointer (some ⟨gL, j * 4, none⟩) := hC.v 32 (by simp [hu])
              have h0 := (HC.out wx hC.b).2.2.2.2
              have HCx := Lib.hid hC
              clear hC hcl hu hi
              simp only [fillA, if_true, Act.put]
              simp
              simp only [e9, e32]
              clear e9 e32
              go_wp2
              exact ⟨rfl, HCx.out.quiet 33 rfl⟩
            · intro L wx vals hi hu hcl hC
              simp [predL, predE, Region.binds, UpL] at hu
              have e9 : vals 9 = .bool true := hC.v 9 (by simp [hu])
              have e24 : vals 24 = .int .i64 fl := hC.v 24 (by simp [hu])
              have e33 : vals 33 = .int .i64 fi := hC.v 33 (by simp [hu])
              have HCx := Lib.hid hC
              clear hC hcl hu hi
              simp only [fillA, if_true, Act.put]
              simp
              simp only [e9, e24, e33]
              clear e9 e24 e33
              go_wp2
              exact ⟨rfl, HCx.out.quiet 34 rfl⟩
            · intro L wx vals hi hu hcl hC
              simp [predL, predE, Region.binds, UpL] at hu
              have e9 : vals 9 = .bool true := hC.v 9 (by simp [hu])
              have e34 : vals 34 = .bool false := hC.v 34 (by simp [hu])
              have HCx := Lib.hid hC
              clear hC hcl hu hi
              simp only [fillA, if_true, Act.put]
              simp
              simp only [e9, e34]
              clear e9 e34
              go_wp2
              exact ⟨rfl, HCx.out.quiet 35 rfl⟩
          · intro wz vals U hC hall
            have e35 : vals 35 = .bool false := hC.v 35 (hall 35 (by simp))
            have HB := Lib.hid (HW.out.trans (((Below.refl _ wr).drew.trans hC.b).mono HW.out.size))
            simp only [fillA, if_true, Act.put]
            simp
            simp only [e35]
            clear hC hall e35 HC HW
            generalize vals 0 = t_0 at *
            generalize vals 1 = t_1 at *
            generalize vals 2 = t_2 at *
            generalize vals 3 = t_3 at *
            generalize vals 4 = t_4 at *
            generalize vals 5 = t_5 at *
            generalize vals 6 = t_6 at *
            generalize vals 7 = t_7 at *
            generalize vals 8 = t_8 at *
            generalize vals 9 = t_9 at *
            generalize vals 10 = t_10 at *
            generalize vals 11 = t_11 at *
            generalize vals 12 = t_12 at *
            generalize vals 13 = t_13 at *
            generalize vals 14 = t_14 at *
            generalize vals 15 = t_15 at *
            generalize vals 16 = t_16 at *
            generalize vals 17 = t_17 at *
            generalize vals 18 = t_18 at *
            generalize vals 19 = t_19 at *
            generalize vals 20 = t_20 at *
            generalize vals 21 = t_21 at *
            generalize vals 22 = t_22 at *
            generalize vals 23 = t_23 at *
            generalize vals 24 = t_24 at *
            generalize vals 25 = t_25 at *
            generalize vals 26 = t_26 at *
            generalize vals 27 = t_27 at *
            generalize vals 28 = t_28 at *
            generalize vals 29 = t_29 at *
            generalize vals 30 = t_30 at *
            generalize vals 31 = t_31 at *
            generalize vals 32 = t_32 at *
            generalize vals 33 = t_33 at *
            generalize vals 34 = t_34 at *
            have HA2 := Lib.hid (HNO.out rfl)
            go_wp2
            go_roundw
            case rel => exact ⟨k + 1, by omega, by go_num, HA2, HB⟩
            case measure => simp [intOf]; omega
        · rw [hb1, hb2] at HYES HNO
          have hE9 := HE1.out (HYES.out rfl)
          have HEE := Lib.hid hE9.symm
          clear HYES
          have HYES := Lib.hid (fun (W : World) (hw : Below w.heap.size w W) => HF0.out W hw (by rw [hE9]; decide))
          clear hE9 HF0 HE1 HOY HE0
          go_wp2_with fail
          refine wp_region_looseS 77 (by kernel_rfl) (by kernel_rfl) (StB wr.drew (fun vI => [.pointer (some ⟨S, 0, none⟩), .pointer (some ⟨S, 0, none⟩), .pointer (some ⟨S, 1, none⟩), .slice (some ⟨gD, 0, none⟩) m cD, .int .i64 (k : Nat), .pointer (some ⟨gD, k, none⟩), .int .i64 dk, .int .i64 id, .bool true, .bool true, .pointer (some ⟨S, 0, none⟩), .pointer (some ⟨S, 0, none⟩), .pointer (some ⟨S, 0, none⟩), .slice (some ⟨gL, 0, none⟩) n cL, .pointer (some ⟨S, 0, none⟩), .pointer (some ⟨S, 0, none⟩), .pointer (some ⟨S, 1, none⟩), .slice (some ⟨gD, 0, none⟩) m cD, .int .i64 (k : Nat), .pointer (some ⟨gD, k, none⟩), .int .i64 dk, .int .i64 (i : Nat), .pointer (some ⟨gL, i * 4, none⟩), .pointer (some ⟨gL, i * 4, none⟩), .int .i64 fl, .pointer (some ⟨S, 0, none⟩), .pointer (some ⟨S, 0, none⟩), .pointer (some ⟨S, 0, none⟩), .slice (some ⟨gL, 0, none⟩) n cL, .int .i64 id, .int .i64 (j : Nat), .pointer (some ⟨gL, j * 4, none⟩), .pointer (some ⟨gL, j * 4, none⟩), .int .i64 fi, .bool true, .bool true].getD vI undef)) rfl StB.start ?_ ?_
          · simp only [OblAllS]
            refine ⟨?_, ?_, ?_, ?_, ?_, ?_, ?_, ?_, ?_, ?_, ?_, ?_, ?_, ?_, ?_, ?_, ?_, ?_, ?_, ?_, ?_, ?_, ?_, ?_, ?_, ?_, ?_, ?_, ?_, ?_, ?_, ?_, ?_, ?_, ?_, ?_, trivial⟩
            · intro L wx vals hi hu hcl hC
              have HCx := Lib.hid hC
              clear hC hcl hu hi
              simp only [fillA, if_true, Act.put]
              simp
              go_wp2
              exact ⟨rfl, HCx.out.quiet 0 rfl⟩
            · intro L wx vals hi hu hcl hC
              simp [predL, predE, Region.binds, UpL] at hu
              have e0 : vals 0 = .pointer (some ⟨S, 0, none⟩) := hC.v 0 (by simp [hu])
              have HCx := Lib.hid hC
              clear hC hcl hu hi
              simp only [fillA, if_true, Act.put]
              simp
              simp only [e0]
              clear e0
              go_wp2
              exact ⟨rfl, HCx.out.quiet 1 rfl⟩
            · intro L wx vals hi hu hcl hC
              simp [predL, predE, Region.binds, UpL] at hu
              have e1 : vals 1 = .pointer (some ⟨S, 0, none⟩) := hC.v 1 (by simp [hu])
              have HCx := Lib.hid hC
              clear hC hcl hu hi
              simp only [fillA, if_true, Act.put]
              simp
              simp only [e1]
              clear e1
              go_wp2
              exact ⟨rfl, HCx.out.quiet 2 rfl⟩
            · intro L wx vals hi hu hcl hC
              simp [predL, predE, Region.binds, UpL] at hu
              have e2 : vals 2 = .pointer (some ⟨S, 1, none⟩) := hC.v 2 (by simp [hu])
              have h0 := (HC.out wx hC.b).2.1
              have HCx := Lib.hid hC
              clear hC hcl hu hi
              simp only [fillA, if_true, Act.put]
              simp
              simp only [e2]
              clear e2
              go_wp2
              exact ⟨rfl, HCx.out.quiet 3 rfl⟩
            · intro L wx vals hi hu hcl hC
              have HCx := Lib.hid hC
              clear hC hcl hu hi
              simp only [fillA, if_true, Act.put]
              simp
              go_wp2
              exact ⟨rfl, HCx.out.quiet 4 rfl⟩
            · intro L wx vals hi hu hcl hC
              simp [predL, predE, Region.binds, UpL] at hu
              have e3 : vals 3 = .slice (some ⟨gD, 0, none⟩) m cD := hC.v 3 (by simp [hu])
              have e4 : vals 4 = .int .i64 (k : Nat) := hC.v 4 (by simp [hu])
              have HCx := Lib.hid hC
              clear hC hcl hu hi
              simp only [fillA, if_true, Act.put]
              simp
              simp only [e3, e4]
              clear e3 e4
              go_wp2
              exact ⟨rfl, HCx.out.quiet 5 rfl⟩
            · intro L wx vals hi hu hcl hC
              simp [predL, predE, Region.binds, UpL] at hu
              have e5 : vals 5 = .pointer (some ⟨gD, k, none⟩) := hC.v 5 (by simp [hu])
              have h0 := (HC.out wx hC.b).2.2.1
              have HCx := Lib.hid hC
              clear hC hcl hu hi
              simp only [fillA, if_true, Act.put]
              simp
              simp only [e5]
              clear e5
              go_wp2
              exact ⟨rfl, HCx.out.quiet 6 rfl⟩
            · intro L wx vals hi hu hcl hC
              have HCx := Lib.hid hC
              clear hC hcl hu hi
              simp only [fillA, if_true, Act.put]
              simp
              go_wp2
              exact ⟨rfl, HCx.out.quiet 7 rfl⟩
            · intro L wx vals hi hu hcl hC
              simp [predL, predE, Region.binds, UpL] at hu
              have e6 : vals 6 = .int .i64 dk := hC.v 6 (by simp [hu])
              have e7 : vals 7 = .int .i64 id := hC.v 7 (by simp [hu])
              have HCx := Lib.hid hC
              clear hC hcl hu hi
              simp only [fillA, if_true, Act.put]
              simp
              simp only [e6, e7]
              clear e6 e7
              go_wp2
              exact ⟨rfl, HCx.out.quiet 8 rfl⟩
            · intro L wx vals hi hu hcl hC
              simp [predL, predE, Region.binds, UpL] at hu
              have e8 : vals 8 = .bool true := hC.v 8 (by simp [hu])
              have HCx := Lib.hid hC
              clear hC hcl hu hi
              simp only [fillA, if_true, Act.put]
              simp
              simp only [e8]
              clear e8
              go_wp2
              exact ⟨rfl, HCx.out.quiet 9 rfl⟩
            · intro L wx vals hi hu hcl hC
              simp [predL, predE, Region.binds, UpL] at hu
              have e9 : vals 9 = .bool true := hC.v 9 (by simp [hu])
              have HCx := Lib.hid hC
              clear hC hcl hu hi
              simp only [fillA, if_true, Act.put]
              simp
              simp only [e9]
              clear e9
              go_wp2
              exact ⟨rfl, HCx.out.quiet 10 rfl⟩
            · intro L wx vals hi hu hcl hC
              simp [predL, predE, Region.binds, UpL] at hu
              have e9 : vals 9 = .bool true := hC.v 9 (by simp [hu])
              have e10 : vals 10 = .pointer (some ⟨S, 0, none⟩) := hC.v 10 (by simp [hu])
              have HCx := Lib.hid hC
              clear hC hcl hu hi
              simp only [fillA, if_true, Act.put]
              simp
              simp only [e9, e10]
              clear e9 e10
              go_wp2
              exact ⟨rfl, HCx.out.quiet 11 rfl⟩
            · intro L wx vals hi hu hcl hC
              simp [predL, predE, Region.binds, UpL] at hu
              have e9 : vals 9 = .bool true := hC.v 9 (by simp [hu])
              have e11 : vals 11 = .pointer (some ⟨S, 0, none⟩) := hC.v 11 (by simp [hu])
              have HCx := Lib.hid hC
              clear hC hcl hu hi
              simp only [fillA, if_true, Act.put]
              simp
              simp only [e9, e11]
              clear e9 e11
              go_wp2
              exact ⟨rfl, HCx.out.quiet 12 rfl⟩
            · intro L wx vals hi hu hcl hC
              simp [predL, predE, Region.binds, UpL] at hu
              have e9 : vals 9 = .bool true := hC.v 9 (by simp [hu])
              have e12 : vals 12 = .pointer (some ⟨S, 0, none⟩) := hC.v 12 (by simp [hu])
              have h0 := (HC.out wx hC.b).1
              have HCx := Lib.hid hC
              clear hC hcl hu hi
              simp only [fillA, if_true, Act.put]
              simp
              simp only [e9, e12]
              clear e9 e12
              go_wp2
              exact ⟨rfl, HCx.out.quiet 13 rfl⟩
            · intro L wx vals hi hu hcl hC
              simp [predL, predE, Region.binds, UpL] at hu
              have e9 : vals 9 = .bool true := hC.v 9 (by simp [hu])
              have HCx := Lib.hid hC
              clear hC hcl hu hi
              simp only [fillA, if_true, Act.put]
              simp
              simp only [e9]
              clear e9
              go_wp2
              exact ⟨rfl, HCx.out.quiet 14 rfl⟩
            · intro L wx vals hi hu hcl hC
              simp [predL, predE, Region.binds, UpL] at hu
              have e9 : vals 9 = .bool true := hC.v 9 (by simp [hu])
              have e14 : vals 14 = .pointer (some ⟨S, 0, none⟩) := hC.v 14 (by simp [hu])
              have HCx := Lib.hid hC
              clear hC hcl hu hi
              simp only [fillA, if_true, Act.put]
              simp
              simp only [e9, e14]
              clear e9 e14
              go_wp2
              exact ⟨rfl, HCx.out.quiet 15 rfl⟩
            · intro L wx vals hi hu hcl hC
              simp [predL, predE, Region.binds, UpL] at hu
              have e9 : vals 9 = .bool true := hC.v 9 (by simp [hu])
              have e15 : vals 15 = .pointer (some ⟨S, 0, none⟩) := hC.v 15 (by simp [hu])
              have HCx := Lib.hid hC
              clear hC hcl hu hi
              simp only [fillA, if_true, Act.put]
              simp
              simp only [e9, e15]
              clear e9 e15
              go_wp2
              exact ⟨rfl, HCx.out.quiet 16 rfl⟩
            · intro L wx vals hi hu hcl hC
              simp [predL, predE, Region.binds, UpL] at hu
              have e9 : vals 9 = .bool true := hC.v 9 (by simp [hu])
              have e16 : vals 16 = .pointer (some ⟨S, 1, none⟩) := hC.v 16 (by simp [hu])
              have h0 := (HC.out wx hC.b).2.1
              have HCx := Lib.hid hC
              clear hC hcl hu hi
              simp only [fillA, if_true, Act.put]
              simp
              simp only [e9, e16]
              clear e9 e16
              go_wp2
              exact ⟨rfl, HCx.out.quiet 17 rfl⟩
            · intro L wx vals hi hu hcl hC
              simp [predL, predE, Region.binds, UpL] at hu
              have e9 : vals 9 = .bool true := hC.v 9 (by simp [hu])
              have HCx := Lib.hid hC
              clear hC hcl hu hi
              simp only [fillA, if_true, Act.put]
              simp
              simp only [e9]
              clear e9
              go_wp2
              exact ⟨rfl, HCx.out.quiet 18 rfl⟩
            · intro L wx vals hi hu hcl hC
              simp [predL, predE, Region.binds, UpL] at hu
              have e9 : vals 9 = .bool true := hC.v 9 (by simp [hu])
              have e17 : vals 17 = .slice (some ⟨gD, 0, none⟩) m cD := hC.v 17 (by simp [hu])
              have e18 : vals 18 = .int .i64 (k : Nat) := hC.v 18 (by simp [hu])
              have HCx := Lib.hid hC
              clear hC hcl hu hi
              simp only [fillA, if_true, Act.put]
              simp
              simp only [e9, e17, e18]
              clear e9 e17 e18
              go_wp2
              exact ⟨rfl, HCx.out.quiet 19 rfl⟩
            · intro L wx vals hi hu hcl hC
              simp [predL, predE, Region.binds, UpL] at hu
              have e9 : vals 9 = .bool true := hC.v 9 (by simp [hu])
              have e19 : vals 19 = .pointer (some ⟨gD, k, none⟩) := hC.v 19 (by simp [hu])
              have h0 := (HC.out wx hC.b).2.2.1
              have HCx := Lib.hid hC
              clear hC hcl hu hi
              simp only [fillA, if_true, Act.put]
              simp
              simp only [e9, e19]
              clear e9 e19
              go_wp2
              exact ⟨rfl, HCx.out.quiet 20 rfl⟩
            · intro L wx vals hi hu hcl hC
              simp [predL, predE, Region.binds, UpL] at hu
              have e9 : vals 9 = .bool true := hC.v 9 (by simp [hu])
              have e20 : vals 20 = .int .i64 dk := hC.v 20 (by simp [hu])
              have HCx := Lib.hid hC
              clear hC hcl hu hi
              simp only [fillA, if_true, Act.put]
              simp
              simp only [e9, e20]
              clear e9 e20
              go_wp2
              exact ⟨rfl, HCx.out.quiet 21 rfl⟩
            · intro L wx vals hi hu hcl hC
              simp [predL, predE, Region.binds, UpL] at hu
              have e9 : vals 9 = .bool true := hC.v 9 (by simp [hu])
              have e13 : vals 13 = .slice (some ⟨gL, 0, none⟩) n cL := hC.v 13 (by simp [hu])
              have e21 : vals 21 = .int .i64 (i : Nat) := hC.v 21 (by simp [hu])
              have HCx := Lib.hid hC
              clear hC hcl hu hi
              simp only [fillA, if_true, Act.put]
              simp
              simp only [e9, e13, e21]
              clear e9 e13 e21
              go_wp2
              exact ⟨rfl, HCx.out.quiet 22 rfl⟩
            · intro L wx vals hi hu hcl hC
              simp [predL, predE, Region.binds, UpL] at hu
              have e9 : vals 9 = .bool true := hC.v 9 (by simp [hu])
              have e22 : vals 22 = .pointer (some ⟨gL, i * 4, none⟩) := hC.v 22 (by simp [hu])
              have HCx := Lib.hid hC
              clear hC hcl hu hi
              simp only [fillA, if_true, Act.put]
              simp
              simp only [e9, e22]
              clear e9 e22
              go_wp2
              exact ⟨rfl, HCx.out.quiet 23 rfl⟩
            · intro L wx vals hi hu hcl hC
              simp [predL, predE, Region.binds, UpL] at hu
              have e9 : vals 9 = .bool true := hC.v 9 (by simp [hu])
              have e23 : vals 23 = .pointer (some ⟨gL, i * 4, none⟩) := hC.v 23 (by simp [hu])
              have h0 := (HC.out wx hC.b).2.2.2.1
              have HCx := Lib.hid hC
              clear hC hcl hu hi
              simp only [fillA, if_true, Act.put]
              simp
              simp only [e9, e23]
              clear e9 e23
              go_wp2
              exact ⟨rfl, HCx.out.quiet 24 rfl⟩
            · intro L wx vals hi hu hcl hC
              simp [predL, predE, Region.binds, UpL] at hu
              have e9 : vals 9 = .bool true := hC.v 9 (by simp [hu])
              have HCx := Lib.hid hC
              clear hC hcl hu hi
              simp only [fillA, if_true, Act.put]
              simp
              simp only [e9]
              clear e9
              go_wp2
              exact ⟨rfl, HCx.out.quiet 25 rfl⟩
            · intro L wx vals hi hu hcl hC
              simp [predL, predE, Region.binds, UpL] at hu
              have e9 : vals 9 = .bool true := hC.v 9 (by simp [hu])
              have e25 : vals 25 = .pointer (some ⟨S, 0, none⟩) := hC.v 25 (by simp [hu])
              have HCx := Lib.hid hC
              clear hC hcl hu hi
              simp only [fillA, if_true, Act.put]
              simp
              simp only [e9, e25]
              clear e9 e25
              go_wp2
              exact ⟨rfl, HCx.out.quiet 26 rfl⟩
            · intro L wx vals hi hu hcl hC
              simp [predL, predE, Region.binds, UpL] at hu
              have e9 : vals 9 = .bool true := hC.v 9 (by simp [hu])
              have e26 : vals 26 = .pointer (some ⟨S, 0, none⟩) := hC.v 26 (by simp [hu])
              have HCx := Lib.hid hC
              clear hC hcl hu hi
              simp only [fillA, if_true, Act.put]
              simp
              simp only [e9, e26]
              clear e9 e26
              go_wp2
              exact ⟨rfl, HCx.out.quiet 27 rfl⟩
            · intro L wx vals hi hu hcl hC
              simp [predL, predE, Region.binds, UpL] at hu
              have e9 : vals 9 = .bool true := hC.v 9 (by simp [hu])
              have e27 : vals 27 = .pointer (some ⟨S, 0, none⟩) := hC.v 27 (by simp [hu])
              have h0 := (HC.out wx hC.b).1
              have HCx := Lib.hid hC
              clear hC hcl hu hi
              simp only [fillA, if_true, Act.put]
              simp
              simp only [e9, e27]
              clear e9 e27
              go_wp2
              exact ⟨rfl, HCx.out.quiet 28 rfl⟩
            · intro L wx vals hi hu hcl hC
              simp [predL, predE, Region.binds, UpL] at hu
              have e9 : vals 9 = .bool true := hC.v 9 (by simp [hu])
              have HCx := Lib.hid hC
              clear hC hcl hu hi
              simp only [fillA, if_true, Act.put]
              simp
              simp only [e9]
              clear e9
              go_wp2
              exact ⟨rfl, HCx.out.quiet 29 rfl⟩
            · intro L wx vals hi hu hcl hC
              simp [predL, predE, Region.binds, UpL] at hu
              have e9 : vals 9 = .bool true := hC.v 9 (by simp [hu])
              have e29 : vals 29 = .int .i64 id := hC.v 29 (by simp [hu])
              have HCx := Lib.hid hC
              clear hC hcl hu hi
              simp only [fillA, if_true, Act.put]
              simp
              simp only [e9, e29]
              clear e9 e29
              go_wp2
              exact ⟨rfl, HCx.out.quiet 30 rfl⟩
            · intro L wx vals hi hu hcl hC
              simp [predL, predE, Region.binds, UpL] at hu
              have e9 : vals 9 = .bool true := hC.v 9 (by simp [hu])
              have e28 : vals 28 = .slice (some ⟨gL, 0, none⟩) n cL := hC.v 28 (by simp [hu])
              have e30 : vals 30 = .int .i64 (j : Nat) := hC.v 30 (by simp [hu])
              have HCx := Lib.hid hC
              clear hC hcl hu hi
              simp only [fillA, if_true, Act.put]
              simp
              simp only [e9, e28, e30]
              clear e9 e28 e30
              go_wp2
              exact ⟨rfl, HCx.out.quiet 31 rfl⟩
            · intro L wx vals hi hu hcl hC
              simp [predL, predE, Region.binds, UpL] at hu
              have e9 : vals 9 = .bool true := hC.v 9 (by simp [hu])
              have e31 : vals 31 = .pointer (some ⟨gL, j * 4, none⟩) := hC.v 31 (by simp [hu])
              have HCx := Lib.hid hC
              clear hC hcl hu hi
              simp only [fillA, if_true, Act.put]
              simp
              simp only [e9, e31]
              clear e9 e31
              go_wp2
              exact ⟨rfl, HCx.out.quiet 32 rfl⟩
            · intro L wx vals hi hu hcl hC
              simp [predL, predE, Region.binds, UpL] at hu
              have e9 : vals 9 = .bool true := hC.v 9 (by simp [hu])
              have e32 : vals 32 = .pointer (some ⟨gL, j * 4, none⟩) := hC.v 32 (by simp [hu])
              have h0 := (HC.out wx hC.b).2.2.2.2
              have HCx := Lib.hid hC
              clear hC hcl hu hi
              simp only [fillA, if_true, Act.put]
              simp
              simp only [e9, e32]
              clear e9 e32
              go_wp2
              exact ⟨rfl, HCx.out.quiet 33 rfl⟩
            · intro L wx vals hi hu hcl hC
              simp [predL, predE, Region.binds, UpL] at hu
              have e9 : vals 9 = .bool true := hC.v 9 (by simp [hu])
              have e24 : vals 24 = .int .i64 fl := hC.v 24 (by simp [hu])
              have e33 : vals 33 = .int .i64 fi := hC.v 33 (by simp [hu])
              have HCx := Lib.hid hC
              clear hC hcl hu hi
              simp only [fillA, if_true, Act.put]
              simp
              simp only [e9, e24, e33]
              clear e9 e24 e33
              go_wp2
              exact ⟨rfl, HCx.out.quiet 34 rfl⟩
            · intro L wx vals hi hu hcl hC
              simp [predL, predE, Region.binds, UpL] at hu
              have e9 : vals 9 = .bool true := hC.v 9 (by simp [hu])
              have e34 : vals 34 = .bool true := hC.v 34 (by simp [hu])
              have HCx := Lib.hid hC
              clear hC hcl hu hi
              simp only [fillA, if_true, Act.put]
              simp
              simp only [e9, e34]
              clear e9 e34
              go_wp2
              exact ⟨rfl, HCx.out.quiet 35 rfl⟩
          · intro wz vals U hC hall
            have e35 : vals 35 = .bool true := hC.v 35 (hall 35 (by simp))
            have HB := Lib.hid (HW.out.trans (((Below.refl _ wr).drew.trans hC.b).mono HW.out.size))
            simp only [fillA, if_true, Act.put]
            simp
            simp only [e35]
            clear hC hall e35 HC HW
            generalize vals 0 = t_0 at *
            generalize vals 1 = t_1 at *
            generalize vals 2 = t_2 at *
            generalize vals 3 = t_3 at *
            generalize vals 4 = t_4 at *
            generalize vals 5 = t_5 at *
            generalize vals 6 = t_6 at *
            generalize vals 7 = t_7 at *
            generalize vals 8 = t_8 at *
            generalize vals 9 = t_9 at *
            generalize vals 10 = t_10 at *
            generalize vals 11 = t_11 at *
            generalize vals 12 = t_12 at *
            generalize vals 13 = t_13 at *
            generalize vals 14 = t_14 at *
            generalize vals 15 = t_15 at *
            generalize vals 16 = t_16 at *
            generalize vals 17 = t_17 at *
            generalize vals 18 = t_18 at *
            generalize vals 19 = t_19 at *
            generalize vals 20 = t_20 at *
            generalize vals 21 = t_21 at *
            generalize vals 22 = t_22 at *
            generalize vals 23 = t_23 at *
            generalize vals 24 = t_24 at *
            generalize vals 25 = t_25 at *
            generalize vals 26 = t_26 at *
            generalize vals 27 = t_27 at *
            generalize vals 28 = t_28 at *
            generalize vals 29 = t_29 at *
            generalize vals 30 = t_30 at *
            generalize vals 31 = t_31 at *
            generalize vals 32 = t_32 at *
            generalize vals 33 = t_33 at *
            generalize vals 34 = t_34 at *
            have HF := Lib.hid (HYES.out _ HB.out)
            clear HB HNO
            go_wp2
            go_ret
            first | exact ⟨ret_int HEE.out, HF.out⟩ | exact ⟨(), ret_int HEE.out, HF.out⟩
    · obtain rfl : k = m := by omega
      have hE9 := HE0.out (HON.out fun i hi => HA.out i hi (by have := HMM.out; omega))
      have HEE := Lib.hid hE9.symm
      obtain ⟨g, c, hne, m0, ⟨u, m1⟩, mz, A0, c0, A, c9, w3, m2, hrun, m3, m4, hR, hCh⟩ := HMEM.out wr HW.out hE9
      have HF := Lib.hid (And.intro hR hCh)
      clear hR hCh HMEM hE9 HE0 HE1 HON HOY HA HRL HRD HIN HSW HW HF0 d0 d1 xj
      go_wp2_with (at_builtin; refine wpList_append_run rfl (.tmp 71) (.tmp 73) 22 rfl rfl rfl hrun ?_)
      go_ret
      first | exact ⟨ret_int HEE.out, HF.out⟩ | exact ⟨(), ret_int HEE.out, HF.out⟩
/-! ### Drop -/
set_option maxRecDepth 100000 in
set_option maxHeartbeats 8000000 in
theorem rdrp_any {S : Nat} {s : LfS} {base : Nat} (hb9 : LfB s 9999) (id y : Int) : Acts 33 #[.pointer (some ⟨S, 0, none⟩), .int .i64 id, .int .i64 y] base (LtP S s) (fun _ : Unit => .int .i64 (lfDpE s id y)) fun _ => LtP S (s.drp id y) := by
  intro T w hP hb hs
  have HST := Lib.hid (rstate_any hb9.l hP id)
  have hst := (hP.1.st id).2
  by_cases hE : lfDpE s id y = 0
  · have hc : (lfSt s id = 1 ∨ lfSt s id = 2) ∧ 1 ≤ y ∧ y ≤ 4 := by
      unfold lfDpE at hE
      by_cases h1 : lfSt s id = 0
      · rw [if_pos h1] at hE; cases hE
      · rw [if_neg h1] at hE
        by_cases h2 : y < 1 ∨ 4 < y
        · rw [if_pos h2] at hE; cases hE
        · rw [if_neg h2] at hE
          by_cases h3 : lfSt s id ≠ 1 ∧ lfSt s id ≠ 2
          · rw [if_pos h3] at hE; cases hE
          · exact ⟨by omega, by omega, by omega⟩
    obtain ⟨h12, y1, y2⟩ := hc
    have hi : lfIn s id := lfSt_in (by omega)
    have hA : s.drp id y = { s with l := lfUp s id 4 y } := by unfold LfS.drp; rw [if_pos hE]
    rw [hE, hA]
    have hk := lfI_lt hi
    obtain ⟨h0, hS, ⟨A, cL, d0, HR⟩, _, _⟩ := (hP.later (Below.refl _ w).drew).rd
    obtain ⟨gL, rfl, hSg, _, hg, _, c0, c1, c2, c3⟩ := HR _ hk
    generalize s.l[lfI id].y = yo at *
    generalize s.l[lfI id].s = so at *
    clear HR
    obtain ⟨z2, z3, _, hU⟩ := (hP.later (Below.refl _ w).drew).upd hi d0
    have hU2 := hU 4 y (by omega)
    have hln := hb9.l
    have hsub := lfI_is hi
    unfold lfIn at hi
    obtain ⟨j, hjj⟩ : ∃ j, lfI id = j := ⟨_, rfl⟩
    rw [hjj] at hsub hk hU2 z2 z3 c2 c3
    obtain ⟨n, hnn⟩ : ∃ n, s.l.length = n := ⟨_, rfl⟩
    rw [hnn] at hi hk d0 hln
    obtain ⟨W1, hW1⟩ : ∃ W1, w.drew.setCell ⟨gL, j * 4 + 2, none⟩ (.int .i64 4) = W1 := ⟨_, rfl⟩
    obtain ⟨W2, hW2⟩ : ∃ W2, W1.setCell ⟨gL, j * 4 + 3, none⟩ (.int .i64 y) = W2 := ⟨_, rfl⟩
    rw [hW1, hW2] at hU2
    have HW1 := Lib.hid hW1
    have HW2 := Lib.hid hW2
    have HFF := Lib.hid (show (∃ T', LtP S { s with l := lfUp s id 4 y } T' W2 ∧ ∀ j, T' j → T j ∨ w.heap.size ≤ j) ∧ Chg T w W2 from ⟨⟨T, hU2.1, fun j hj => .inl hj⟩, ((Chg.refl T w).drew).trans hU2.2⟩)
    have d01 : W1.cell? ⟨S, 0, none⟩ = some (.slice (some ⟨gL, 0, none⟩) n cL) := by
      rw [← hW1, World.cell?_setCell_other _ _ _ _ (by intro e; simp only [Addr.mk.injEq] at e; exact hSg e.1.symm)]; exact d0
    have c31 : W1.cell? ⟨gL, j * 4 + 3, none⟩ = some (.int .i64 yo) := by
      rw [← hW1, World.cell?_setCell_other _ _ _ _ (by intro e; simp at e)]; exact c3
    have z31 : W1.frozen? ⟨gL, j * 4 + 3, none⟩ = false := by rw [← hW1]; simpa [go_sem] using z3
    have HE := Lib.hid (fun (W : World) (h : W = w.drew ∨ W = W1) => (by
      rcases h with rfl | rfl
      · exact d0
      · exact d01 : W.cell? ⟨S, 0, none⟩ = some (.slice (some ⟨gL, 0, none⟩) n cL)))
    have HE1 := Lib.hid (fun (W : World) (h : W = W1) => (by rw [h]; exact ⟨c31, z31⟩ : W.cell? ⟨gL, j * 4 + 3, none⟩ = some (.int .i64 yo) ∧ W.frozen? ⟨gL, j * 4 + 3, none⟩ = false))
    have w1 : IntKind.i64.wrap (id - 1) = (j : Int) := by rw [IntWalk.i64_in _ (by omega)]; omega
    have hlt2 : (j : Int) < (n : Int) := by omega
    have hk0 : (0 : Int) ≤ (j : Int) := by omega
    have hya : ¬ y < 1 := by omega
    have hyb : ¬ 4 < y := by omega
    obtain ⟨x, hx⟩ : ∃ x, lfSt s id = x := ⟨_, rfl⟩
    rw [hx] at h12 HST
    clear h0 hU hU2 hP hb hs hE hA hb9 c0 c1 hsub hjj hst hi hk hnn hx c31 z31 d01 c3 z3 hW1 hW2 d0 y1 y2
    rcases h12 with rfl | rfl
    all_goals
      go_enter Try.func33, Try.ntmps33
      go_wp2_with fail
      (with_reducible refine HST.out.mono ?_); rintro e w1 ⟨rfl, rfl⟩
      go_wp2_with fail
      refine wp_region_looseS 45 (by kernel_rfl) (by kernel_rfl) (StA w.drew W1 W2 (fun i_ => [.pointer (some ⟨S, 0, none⟩), .pointer (some ⟨S, 0, none⟩), .pointer (some ⟨S, 0, none⟩), .slice (some ⟨gL, 0, none⟩) n cL, .int .i64 id, .int .i64 (j : Nat), .pointer (some ⟨S, 0, none⟩), .pointer (some ⟨S, 0, none⟩), .pointer (some ⟨S, 0, none⟩), .slice (some ⟨gL, 0, none⟩) n cL, .int .i64 id, .int .i64 (j : Nat), .int .i64 y, .pointer (some ⟨gL, j * 4, none⟩), .pointer (some ⟨gL, j * 4 + 2, none⟩), undef, .pointer (some ⟨gL, j * 4, none⟩), .pointer (some ⟨gL, j * 4 + 3, none⟩)].getD i_ undef) 15 18) rfl StA.start ?_ ?_
      · simp only [OblAllS]
        refine ⟨?_, ?_, ?_, ?_, ?_, ?_, ?_, ?_, ?_, ?_, ?_, ?_, ?_, ?_, ?_, ?_, ?_, ?_, ?_, trivial⟩
        · intro L wx vals hi hu hcl hC
          simp [ClosedL, UpL, predL, predE, Region.binds] at hcl
          have hst : L 18 = false := by clear hC HFF HST; cases h : L 18 with | false => rfl | true => exfalso; first | (simp_all; done) | grind
          have HCx := Lib.hid hC
          clear hC hcl hu hi hst
          simp only [fillA, if_true, Act.put]
          simp
          go_wp2
          exact ⟨rfl, HCx.out.quiet (by decide) (by decide) rfl⟩
        · intro L wx vals hi hu hcl hC
          simp [ClosedL, UpL, predL, predE, Region.binds] at hcl
          simp [predL, predE, Region.binds, UpL] at hu
          have hst : L 18 = false := by clear hC HFF HST; cases h : L 18 with | false => rfl | true => exfalso; first | (simp_all; done) | grind
          have e0 : vals 0 = .pointer (some ⟨S, 0, none⟩) := hC.v 0 (by decide) (by simp [hu])
          have HCx := Lib.hid hC
          clear hC hcl hu hi hst
          simp only [fillA, if_true, Act.put]
          simp
          simp only [e0]
          clear e0
          go_wp2
          exact ⟨rfl, HCx.out.quiet (by decide) (by decide) rfl⟩
        · intro L wx vals hi hu hcl hC
          simp [ClosedL, UpL, predL, predE, Region.binds] at hcl
          simp [predL, predE, Region.binds, UpL] at hu
          have hst : L 18 = false := by clear hC HFF HST; cases h : L 18 with | false => rfl | true => exfalso; first | (simp_all; done) | grind
          have e1 : vals 1 = .pointer (some ⟨S, 0, none⟩) := hC.v 1 (by decide) (by simp [hu])
          have HCx := Lib.hid hC
          clear hC hcl hu hi hst
          simp only [fillA, if_true, Act.put]
          simp
          simp only [e1]
          clear e1
          go_wp2
          exact ⟨rfl, HCx.out.quiet (by decide) (by decide) rfl⟩
        · intro L wx vals hi hu hcl hC
          simp [ClosedL, UpL, predL, predE, Region.binds] at hcl
          simp [predL, predE, Region.binds, UpL] at hu
          have hst : L 18 = false := by clear hC HFF HST; cases h : L 18 with | false => rfl | true => exfalso; first | (simp_all; done) | grind
          have e2 : vals 2 = .pointer (some ⟨S, 0, none⟩) := hC.v 2 (by decide) (by simp [hu])
          have k3 := HE.out wx (hC.ab hst)
          have HCx := Lib.hid hC
          clear hC hcl hu hi hst
          simp only [fillA, if_true, Act.put]
          simp
          simp only [e2]
          clear e2
          go_wp2
          exact ⟨rfl, HCx.out.quiet (by decide) (by decide) rfl⟩
        · intro L wx vals hi hu hcl hC
          simp [ClosedL, UpL, predL, predE, Region.binds] at hcl
          have hst : L 18 = false := by clear hC HFF HST; cases h : L 18 with | false => rfl | true => exfalso; first | (simp_all; done) | grind
          have HCx := Lib.hid hC
          clear hC hcl hu hi hst
          simp only [fillA, if_true, Act.put]
          simp
          go_wp2
          exact ⟨rfl, HCx.out.quiet (by decide) (by decide) rfl⟩
        · intro L wx vals hi hu hcl hC
          simp [ClosedL, UpL, predL, predE, Region.binds] at hcl
          simp [predL, predE, Region.binds, UpL] at hu
          have hst : L 18 = false := by clear hC HFF HST; cases h : L 18 with | false => rfl | true => exfalso; first | (simp_all; done) | grind
          have e4 : vals 4 = .int .i64 id := hC.v 4 (by decide) (by simp [hu])
          have HCx := Lib.hid hC
          clear hC hcl hu hi hst
          simp only [fillA, if_true, Act.put]
          simp
          simp only [e4]
          clear e4
          go_wp2
          exact ⟨rfl, HCx.out.quiet (by decide) (by decide) rfl⟩
        · intro L wx vals hi hu hcl hC
          simp [ClosedL, UpL, predL, predE, Region.binds] at hcl
          have hst : L 18 = false := by clear hC HFF HST; cases h : L 18 with | false => rfl | true => exfalso; first | (simp_all; done) | grind
          have HCx := Lib.hid hC
          clear hC hcl hu hi hst
          simp only [fillA, if_true, Act.put]
          simp
          go_wp2
          exact ⟨rfl, HCx.out.quiet (by decide) (by decide) rfl⟩
        · intro L wx vals hi hu hcl hC
          simp [ClosedL, UpL, predL, predE, Region.binds] at hcl
          simp [predL, predE, Region.binds, UpL] at hu
          have hst : L 18 = false := by clear hC HFF HST; cases h : L 18 with | false => rfl | true => exfalso; first | (simp_all; done) | grind
          have e6 : vals 6 = .pointer (some ⟨S, 0, none⟩) := hC.v 6 (by decide) (by simp [hu])
          have HCx := Lib.hid hC
          clear hC hcl hu hi hst
          simp only [fillA, if_true, Act.put]
          simp
          simp only [e6]
          clear e6
          go_wp2
          exact ⟨rfl, HCx.out.quiet (by decide) (by decide) rfl⟩
        · intro L wx vals hi hu hcl hC
          simp [ClosedL, UpL, predL, predE, Region.binds] at hcl
          simp [predL, predE, Region.binds, UpL] at hu
          have hst : L 18 = false := by clear hC HFF HST; cases h : L 18 with | false => rfl | true => exfalso; first | (simp_all; done) | grind
          have e7 : vals 7 = .pointer (some ⟨S, 0, none⟩) := hC.v 7 (by decide) (by simp [hu])
          have HCx := Lib.hid hC
          clear hC hcl hu hi hst
          simp only [fillA, if_true, Act.put]
          simp
          simp only [e7]
          clear e7
          go_wp2
          exact ⟨rfl, HCx.out.quiet (by decide) (by decide) rfl⟩
        · intro L wx vals hi hu hcl hC
          simp [ClosedL, UpL, predL, predE, Region.binds] at hcl
          simp [predL, predE, Region.binds, UpL] at hu
          have hst : L 18 = false := by clear hC HFF HST; cases h : L 18 with | false => rfl | true => exfalso; first | (simp_all; done) | grind
          have e8 : vals 8 = .pointer (some ⟨S, 0, none⟩) := hC.v 8 (by decide) (by simp [hu])
          have k3 := HE.out wx (hC.ab hst)
          have HCx := Lib.hid hC
          clear hC hcl hu hi hst
          simp only [fillA, if_true, Act.put]
          simp
          simp only [e8]
          clear e8
          go_wp2
          exact ⟨rfl, HCx.out.quiet (by decide) (by decide) rfl⟩
        · intro L wx vals hi hu hcl hC
          simp [ClosedL, UpL, predL, predE, Region.binds] at hcl
          have hst : L 18 = false := by clear hC HFF HST; cases h : L 18 with | false => rfl | true => exfalso; first | (simp_all; done) | grind
          have HCx := Lib.hid hC
          clear hC hcl hu hi hst
          simp only [fillA, if_true, Act.put]
          simp
          go_wp2
          exact ⟨rfl, HCx.out.quiet (by decide) (by decide) rfl⟩
        · intro L wx vals hi hu hcl hC
          simp [ClosedL, UpL, predL, predE, Region.binds] at hcl
          simp [predL, predE, Region.binds, UpL] at hu
          have hst : L 18 = false := by clear hC HFF HST; cases h : L 18 with | false => rfl | true => exfalso; first | (simp_all; done) | grind
          have e10 : vals 10 = .int .i64 id := hC.v 10 (by decide) (by simp [hu])
          have HCx := Lib.hid hC
          clear hC hcl hu hi hst
          simp only [fillA, if_true, Act.put]
          simp
          simp only [e10]
          clear e10
          go_wp2
          exact ⟨rfl, HCx.out.quiet (by decide) (by decide) rfl⟩
        · intro L wx vals hi hu hcl hC
          simp [ClosedL, UpL, predL, predE, Region.binds] at hcl
          have hst : L 18 = false := by clear hC HFF HST; cases h : L 18 with | false => rfl | true => exfalso; first | (simp_all; done) | grind
          have HCx := Lib.hid hC
          clear hC hcl hu hi hst
          simp only [fillA, if_true, Act.put]
          simp
          go_wp2
          exact ⟨rfl, HCx.out.quiet (by decide) (by decide) rfl⟩
        · intro L wx vals hi hu hcl hC
          simp [ClosedL, UpL, predL, predE, Region.binds] at hcl
          simp [predL, predE, Region.binds, UpL] at hu
          have hst : L 18 = false := by clear hC HFF HST; cases h : L 18 with | false => rfl | true => exfalso; first | (simp_all; done) | grind
          have e3 : vals 3 = .slice (some ⟨gL, 0, none⟩) n cL := hC.v 3 (by decide) (by simp [hu])
          have e5 : vals 5 = .int .i64 (j : Nat) := hC.v 5 (by decide) (by simp [hu])
          have HCx := Lib.hid hC
          clear hC hcl hu hi hst
          simp only [fillA, if_true, Act.put]
          simp
          simp only [e3, e5]
          clear e3 e5
          go_wp2
          exact ⟨rfl, HCx.out.quiet (by decide) (by decide) rfl⟩
        · intro L wx vals hi hu hcl hC
          simp [ClosedL, UpL, predL, predE, Region.binds] at hcl
          simp [predL, predE, Region.binds, UpL] at hu
          have hst : L 18 = false := by clear hC HFF HST; cases h : L 18 with | false => rfl | true => exfalso; first | (simp_all; done) | grind
          have e13 : vals 13 = .pointer (some ⟨gL, j * 4, none⟩) := hC.v 13 (by decide) (by simp [hu])
          have HCx := Lib.hid hC
          clear hC hcl hu hi hst
          simp only [fillA, if_true, Act.put]
          simp
          simp only [e13]
          clear e13
          go_wp2
          exact ⟨rfl, HCx.out.quiet (by decide) (by decide) rfl⟩
        · intro L wx vals hi hu hcl hC
          simp [ClosedL, UpL, predL, predE, Region.binds] at hcl
          simp [predL, predE, Region.binds, UpL] at hu
          have hst : L 18 = false := by clear hC HFF HST; cases h : L 18 with | false => rfl | true => exfalso; first | (simp_all; done) | grind
          have e14 : vals 14 = .pointer (some ⟨gL, j * 4 + 2, none⟩) := hC.v 14 (by decide) (by simp [hu])
          obtain rfl := hC.a hi hst
          have HM := Lib.hid (hC.make hst (by decide) (x := undef) rfl)
          have HCx := Lib.hid hC
          clear hC hcl hu hi hst
          simp only [fillA, if_true, Act.put]
          simp
          simp only [e14]
          clear e14
          go_wp2
          have hq1 := HW1.out
          subst hq1
          exact ⟨rfl, HM.out⟩
        · intro L wx vals hi hu hcl hC
          simp [ClosedL, UpL, predL, predE, Region.binds] at hcl
          simp [predL, predE, Region.binds, UpL] at hu
          have hst : L 18 = false := by clear hC HFF HST; cases h : L 18 with | false => rfl | true => exfalso; first | (simp_all; done) | grind
          have e9 : vals 9 = .slice (some ⟨gL, 0, none⟩) n cL := hC.v 9 (by decide) (by simp [hu])
          have e11 : vals 11 = .int .i64 (j : Nat) := hC.v 11 (by decide) (by simp [hu])
          have HCx := Lib.hid hC
          clear hC hcl hu hi hst
          simp only [fillA, if_true, Act.put]
          simp
          simp only [e9, e11]
          clear e9 e11
          go_wp2
          exact ⟨rfl, HCx.out.quiet (by decide) (by decide) rfl⟩
        · intro L wx vals hi hu hcl hC
          simp [ClosedL, UpL, predL, predE, Region.binds] at hcl
          simp [predL, predE, Region.binds, UpL] at hu
          have hst : L 18 = false := by clear hC HFF HST; cases h : L 18 with | false => rfl | true => exfalso; first | (simp_all; done) | grind
          have e16 : vals 16 = .pointer (some ⟨gL, j * 4, none⟩) := hC.v 16 (by decide) (by simp [hu])
          have HCx := Lib.hid hC
          clear hC hcl hu hi hst
          simp only [fillA, if_true, Act.put]
          simp
          simp only [e16]
          clear e16
          go_wp2
          exact ⟨rfl, HCx.out.quiet (by decide) (by decide) rfl⟩
        · intro L wx vals hi hu hcl hC
          simp [ClosedL, UpL, predL, predE, Region.binds] at hcl
          simp [predL, predE, Region.binds, UpL] at hu
          have hst : L 18 = false := hi
          have e12 : vals 12 = .int .i64 y := hC.v 12 (by decide) (by simp [hu])
          have e17 : vals 17 = .pointer (some ⟨gL, j * 4 + 3, none⟩) := hC.v 17 (by decide) (by simp [hu])
          have HQ := Lib.hid (hC.b (by simp [hu]) hst)
          obtain ⟨m0, mf⟩ := HE1.out wx HQ.out
          have HCx := Lib.hid hC
          clear hC hcl hu hi hst
          simp only [fillA, if_true, Act.put]
          simp
          simp only [e12, e17]
          clear e12 e17
          go_wp2
          have hq := HQ.out
          subst hq
          have hq2 := HW2.out
          subst hq2
          exact ⟨rfl, HCx.out.write⟩
      · intro wz vals U hC hall
        have hz := hC.c (hall 18 (by simp))
        subst hz
        simp only [fillA, if_true, Act.put]
        simp
        clear hC hall HE HE1 c2 z2
        generalize vals 0 = t_0 at *
        generalize vals 1 = t_1 at *
        generalize vals 2 = t_2 at *
        generalize vals 3 = t_3 at *
        generalize vals 4 = t_4 at *
        generalize vals 5 = t_5 at *
        generalize vals 6 = t_6 at *
        generalize vals 7 = t_7 at *
        generalize vals 8 = t_8 at *
        generalize vals 9 = t_9 at *
        generalize vals 10 = t_10 at *
        generalize vals 11 = t_11 at *
        generalize vals 12 = t_12 at *
        generalize vals 13 = t_13 at *
        generalize vals 14 = t_14 at *
        generalize vals 15 = t_15 at *
        generalize vals 16 = t_16 at *
        generalize vals 17 = t_17 at *
        go_wp2
        go_ret
        first | exact ⟨rfl, HFF.out⟩ | exact ⟨(), rfl, HFF.out⟩
  · have hA : s.drp id y = s := by unfold LfS.drp; rw [if_neg hE]
    have hc : (lfSt s id = 0 ∧ lfDpE s id y = 6) ∨ ((lfSt s id = 1 ∨ lfSt s id = 2 ∨ lfSt s id = 3 ∨ lfSt s id = 4) ∧ (y < 1 ∨ (1 ≤ y ∧ 4 < y)) ∧ lfDpE s id y = 1) ∨ ((lfSt s id = 3 ∨ lfSt s id = 4) ∧ (1 ≤ y ∧ y ≤ 4) ∧ lfDpE s id y = 14) := by
      unfold lfDpE at hE ⊢
      by_cases h1 : lfSt s id = 0
      · exact .inl ⟨h1, if_pos h1⟩
      · rw [if_neg h1] at hE ⊢
        by_cases h2 : y < 1 ∨ 4 < y
        · exact .inr (.inl ⟨by omega, by omega, if_pos h2⟩)
        · rw [if_neg h2] at hE ⊢
          by_cases h3 : lfSt s id ≠ 1 ∧ lfSt s id ≠ 2
          · exact .inr (.inr ⟨by omega, by omega, if_pos h3⟩)
          · rw [if_neg h3] at hE; exact absurd rfl hE
    rw [hA]
    have HF := Lib.hid (show (∃ T', LtP S s T' w ∧ ∀ j, T' j → T j ∨ w.heap.size ≤ j) ∧ Chg T w w from ⟨⟨T, hP, fun k hk => .inl hk⟩, Chg.refl _ _⟩)
    clear hP hb hs hA hb9 hE hst
    generalize lfSt s id = x at *
    rcases hc with ⟨rfl, e⟩ | ⟨rfl | rfl | rfl | rfl, h1 | ⟨h1, h2⟩, e⟩ | ⟨rfl | rfl, ⟨h1, h2⟩, e⟩
    all_goals
      rw [e]
      clear e
      go_enter Try.func33, Try.ntmps33
      go_wp2_with fail
      (with_reducible refine HST.out.mono ?_); rintro e w1 ⟨rfl, rfl⟩
      go_wp2
      go_ret
      first | exact ⟨rfl, HF.out⟩ | exact ⟨(), rfl, HF.out⟩
end Go.Proofs.Ytkhngfadhfomoaa

