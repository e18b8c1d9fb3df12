/-
  Layer 15: the walk of the statement on the oracle (ChannelOracle). Every input; no condition.
-/
import Derived.Test.YtaohfcchejedkaaChAwake
namespace Go.Proofs.Ytaohfcchejedkaa
open Go.ChangeShapes Go.WideShapes Go.ChangeAt Go.RowKit
set_option linter.unusedVariables false

set_option maxRecDepth 100000 in
set_option maxHeartbeats 8000000 in
theorem walkOracle (A1 : Option Addr) (cap1 : Nat) (l : List Bool) (w : World) (hn1 : l.length ≤ 9223372036854775807) (ha : SrAt csB 1 w 0 w.heap.size A1 l) :
    Calls Try.prog 5 #[.slice A1 l.length cap1] w (Calm (.bool true) w) := by
  have h0 : Inv w.heap.size w Emp w := Inv.start (T := fun _ => False) (fun k h => h) (fun k h => h.elim) (Below.refl _ _)
  have HX := h0.pnew Frm.emp (p := ⟨2, 0, 0⟩) rfl
  unfold aggPd at HX
  simp only at HX
  have HX := Lib.hid HX
  have HAW := Lib.hid (fun w => awake15_any w)
  have HR := Lib.hid (fun (W : World) (hb : Below w.heap.size w W) i (hi : i < l.length) => (by
    obtain ⟨b, off, e, _, h2, h3⟩ := ha.bl hi
    exact ⟨b, off, e, (hb.cell (p := ⟨b, _, none⟩) h2).trans h3⟩ : ∃ b off, A1 = some ⟨b, off, none⟩ ∧ W.cell? ⟨b, off + i, none⟩ = some (.bool l[i])))
  obtain ⟨n, hN⟩ : ∃ n, l.length = n := ⟨_, rfl⟩
  have HN := Lib.hid hN
  rw [hN] at hn1 ⊢
  unfold Calm
  clear h0 ha hN
  by_cases h200 : 200 < n
  · have h200' : (200 : Int) < n := by omega
    go_enter Try.func5, Try.ntmps5
    go_wp2_with fail
    (with_reducible refine HX.out.mono ?_); rintro e w1 ⟨R, rfl, h1⟩
    have HF := Lib.hid h1.out
    clear h1
    go_wp2
    go_ret
    exact ⟨ret_bool (by simp <;> omega), HF.out⟩
  have h200' : ¬ (200 : Int) < n := by omega
  have hn200 : n ≤ 200 := by omega
  go_enter Try.func5, Try.ntmps5
  go_wp2_with fail
  (with_reducible refine HX.out.mono ?_); rintro e w1 ⟨R, rfl, h1⟩
  have HI := Lib.hid h1
  clear h1 HX
  go_wp2_with fail
  go_loopw [5] (fun s5 wr => ∃ (k : Nat) (s : Ch), k ≤ n ∧ s5 = .int .i64 k ∧ Hid (s.p.k = 2 ∧ s.l.length = k ∧ s.ri = k) ∧ Hid (Inv w.heap.size w (Star (ChP R s) Emp) wr)) (fun s5 _ => n - (intOf s5).toNat)
  case atStart => exact ⟨0, Ch.new ⟨2, 0, 0⟩, by omega, rfl, Lib.hid ⟨rfl, rfl, rfl⟩, HI⟩
  case round =>
    obtain ⟨k, s, hk, rfl, HS, HI2⟩ := hrel
    clear HI
    obtain ⟨e1, e2, e3⟩ := HS.out
    by_cases hlt : k < n
    · have hlt' : (k : Int) < n := by omega
      have hkl : k < l.length := by have := HN.out; omega
      obtain ⟨b, off, rfl, d0⟩ := HR.out wr HI2.out.out k hkl
      have HRk := Lib.hid (fun W hb => by
        obtain ⟨b', off', q1, q2⟩ := HR.out W hb k hkl
        obtain ⟨rfl, rfl⟩ : b = b' ∧ off = off' := by simpa using q1
        exact q2)
      cases hg : l[k]
      · rw [hg] at d0
        rw [hg] at HRk
        have hA1 := fun g => HI2.out.pann Frm.emp g
        have HX := Lib.hid hA1
        clear hA1 HI2 HS hg
        go_wp2_with fail
        (with_reducible refine (HX.out _).mono ?_); rintro e w2 ⟨rfl, h1⟩
        clear d0
        have d0 := HRk.out w2 h1.out
        have HX2 := Lib.hid (fun g => h1.pann Frm.emp g)
        clear h1 HX
        go_wp2_with fail
        (with_reducible refine (HX2.out _).mono ?_); rintro e w3 ⟨rfl, h1⟩
        clear d0
        have HX3 := Lib.hid (fun (W : World) (hw : Below w3.drew.heap.size w3.drew W) => (by
          have h2 := (h1.step (ChP.frm.star Frm.emp) ((Below.refl _ w3).drew.trans hw)).pcalm (by show s.l.length ≤ 100000; omega)
          rw [pr_oracle (by exact e1)] at h2
          exact h2 : Calls Try.prog 20 #[.pointer (some ⟨R, 0, none⟩)] W (Calm (.bool false) W)))
        have HC4 := Lib.hid (fun (W : World) (hw : Below w3.drew.heap.size w3.drew W) => HRk.out W (h1.out.trans (((Below.refl _ w3).drew.trans hw).mono h1.out.size)))
        have HI3 := Lib.hid h1
        clear h1 HX2
        go_wp2_with fail
        refine wp_region_looseS 76 (by kernel_rfl) (by kernel_rfl) (StB w3.drew (fun vI => [.pointer (some ⟨R, 0, none⟩), .bool false, .slice (some ⟨b, off, none⟩) n cap1, .int .i64 (k : Nat), .pointer (some ⟨b, off + k, none⟩), .bool false, .bool false].getD vI undef)) rfl StB.start ?_ ?_
        · simp only [OblAllS]
          refine ⟨?_, ?_, ?_, ?_, ?_, ?_, ?_, trivial⟩
          · intro L wx vals hi hu hcl hC
            have HCx := Lib.hid hC
            clear hC hcl hu hi
            simp only [fillA, if_true, Act.put]
            simp
            go_wp2
            exact ⟨rfl, HCx.out.quiet 0 rfl⟩
          · intro L wx vals hi hu hcl hC
            simp [predL, predE, Region.binds, UpL] at hu
            have e0 : vals 0 = .pointer (some ⟨R, 0, none⟩) := hC.v 0 (by simp [hu])
            have HL := Lib.hid (HX3.out wx hC.b)
            have HCx := Lib.hid hC
            clear hC hcl hu hi
            simp only [fillA, if_true, Act.put]
            simp
            simp only [e0]
            clear e0
            go_wp2_with fail
            (with_reducible refine HL.out.mono ?_); rintro e w9 ⟨rfl, hb⟩
            have HX := Lib.hid (HCx.out.step 1 (x := .bool false) rfl (HCx.out.b.trans (hb.mono HCx.out.b.size)))
            clear hb
            go_wp2
            exact ⟨rfl, HX.out⟩
          · intro L wx vals hi hu hcl hC
            have HCx := Lib.hid hC
            clear hC hcl hu hi
            simp only [fillA, if_true, Act.put]
            simp
            go_wp2
            exact ⟨rfl, HCx.out.quiet 2 rfl⟩
          · intro L wx vals hi hu hcl hC
            have HCx := Lib.hid hC
            clear hC hcl hu hi
            simp only [fillA, if_true, Act.put]
            simp
            go_wp2
            exact ⟨rfl, HCx.out.quiet 3 rfl⟩
          · intro L wx vals hi hu hcl hC
            simp [predL, predE, Region.binds, UpL] at hu
            have e2 : vals 2 = .slice (some ⟨b, off, none⟩) n cap1 := hC.v 2 (by simp [hu])
            have e3 : vals 3 = .int .i64 (k : Nat) := hC.v 3 (by simp [hu])
            have HCx := Lib.hid hC
            clear hC hcl hu hi
            simp only [fillA, if_true, Act.put]
            simp
            simp only [e2, e3]
            clear e2 e3
            go_wp2
            exact ⟨rfl, HCx.out.quiet 4 rfl⟩
          · intro L wx vals hi hu hcl hC
            simp [predL, predE, Region.binds, UpL] at hu
            have e4 : vals 4 = .pointer (some ⟨b, off + k, none⟩) := hC.v 4 (by simp [hu])
            have h0 := (HC4.out wx hC.b)
            have HCx := Lib.hid hC
            clear hC hcl hu hi
            simp only [fillA, if_true, Act.put]
            simp
            simp only [e4]
            clear e4
            go_wp2
            exact ⟨rfl, HCx.out.quiet 5 rfl⟩
          · intro L wx vals hi hu hcl hC
            simp [predL, predE, Region.binds, UpL] at hu
            have e1 : vals 1 = .bool false := hC.v 1 (by simp [hu])
            have e5 : vals 5 = .bool false := hC.v 5 (by simp [hu])
            have HCx := Lib.hid hC
            clear hC hcl hu hi
            simp only [fillA, if_true, Act.put]
            simp
            simp only [e1, e5]
            clear e1 e5
            go_wp2
            exact ⟨rfl, HCx.out.quiet 6 rfl⟩
        · intro wz vals U hC hall
          have e6 : vals 6 = .bool false := hC.v 6 (hall 6 (by simp))
          have h1 := HI3.out.step (ChP.frm.star Frm.emp) ((Below.refl _ w3).drew.trans hC.b)
          simp only [fillA, if_true, Act.put]
          simp
          simp only [e6]
          clear hC hall e6 HC4 HI3 HX3
          generalize vals 0 = o0 at *
          generalize vals 1 = o1 at *
          generalize vals 2 = o2 at *
          generalize vals 3 = o3 at *
          generalize vals 4 = o4 at *
          generalize vals 5 = o5 at *
          have d0 := HRk.out wz h1.out
          have HX4 := Lib.hid (fun g => h1.pobs Frm.emp (by show s.l.length ≤ 99999; omega) g)
          clear h1
          go_wp2_with fail
          (with_reducible refine (HX4.out _).mono ?_); rintro e w5 ⟨rfl, h1⟩
          have HI5 := Lib.hid h1
          clear h1 HX4 d0 HRk
          go_wp2
          go_roundw
          case rel =>
            refine ⟨k + 1, ((s.ann true).ann false).obs false, by omega, by go_num, Lib.hid ⟨e1, ?_, ?_⟩, HI5⟩
            · simp only [Ch.obs, Ch.ann, List.length_append, List.length_singleton]; omega
            · simp only [Ch.obs, Ch.ann, prB, e1]; simp; omega
          case measure => simp [intOf]; omega
      · rw [hg] at d0
        rw [hg] at HRk
        have hA1 := fun g => HI2.out.pann Frm.emp g
        have HX := Lib.hid hA1
        clear hA1 HI2 HS hg
        go_wp2_with fail
        (with_reducible refine (HX.out _).mono ?_); rintro e w2 ⟨rfl, h1⟩
        clear d0
        have d0 := HRk.out w2 h1.out
        have HX2 := Lib.hid (fun g => h1.pann Frm.emp g)
        clear h1 HX
        go_wp2_with fail
        (with_reducible refine (HX2.out _).mono ?_); rintro e w3 ⟨rfl, h1⟩
        clear d0
        have HX3 := Lib.hid (fun (W : World) (hw : Below w3.drew.heap.size w3.drew W) => (by
          have h2 := (h1.step (ChP.frm.star Frm.emp) ((Below.refl _ w3).drew.trans hw)).pcalm (by show s.l.length ≤ 100000; omega)
          rw [pr_oracle (by exact e1)] at h2
          exact h2 : Calls Try.prog 20 #[.pointer (some ⟨R, 0, none⟩)] W (Calm (.bool true) W)))
        have HC4 := Lib.hid (fun (W : World) (hw : Below w3.drew.heap.size w3.drew W) => HRk.out W (h1.out.trans (((Below.refl _ w3).drew.trans hw).mono h1.out.size)))
        have HI3 := Lib.hid h1
        clear h1 HX2
        go_wp2_with fail
        refine wp_region_looseS 76 (by kernel_rfl) (by kernel_rfl) (StB w3.drew (fun vI => [.pointer (some ⟨R, 0, none⟩), .bool true, .slice (some ⟨b, off, none⟩) n cap1, .int .i64 (k : Nat), .pointer (some ⟨b, off + k, none⟩), .bool true, .bool false].getD vI undef)) rfl StB.start ?_ ?_
        · simp only [OblAllS]
          refine ⟨?_, ?_, ?_, ?_, ?_, ?_, ?_, trivial⟩
          · intro L wx vals hi hu hcl hC
            have HCx := Lib.hid hC
            clear hC hcl hu hi
            simp only [fillA, if_true, Act.put]
            simp
            go_wp2
            exact ⟨rfl, HCx.out.quiet 0 rfl⟩
          · intro L wx vals hi hu hcl hC
            simp [predL, predE, Region.binds, UpL] at hu
            have e0 : vals 0 = .pointer (some ⟨R, 0, none⟩) := hC.v 0 (by simp [hu])
            have HL := Lib.hid (HX3.out wx hC.b)
            have HCx := Lib.hid hC
            clear hC hcl hu hi
            simp only [fillA, if_true, Act.put]
            simp
            simp only [e0]
            clear e0
            go_wp2_with fail
            (with_reducible refine HL.out.mono ?_); rintro e w9 ⟨rfl, hb⟩
            have HX := Lib.hid (HCx.out.step 1 (x := .bool true) rfl (HCx.out.b.trans (hb.mono HCx.out.b.size)))
            clear hb
            go_wp2
            exact ⟨rfl, HX.out⟩
          · intro L wx vals hi hu hcl hC
            have HCx := Lib.hid hC
            clear hC hcl hu hi
            simp only [fillA, if_true, Act.put]
            simp
            go_wp2
            exact ⟨rfl, HCx.out.quiet 2 rfl⟩
          · intro L wx vals hi hu hcl hC
            have HCx := Lib.hid hC
            clear hC hcl hu hi
            simp only [fillA, if_true, Act.put]
            simp
            go_wp2
            exact ⟨rfl, HCx.out.quiet 3 rfl⟩
          · intro L wx vals hi hu hcl hC
            simp [predL, predE, Region.binds, UpL] at hu
            have e2 : vals 2 = .slice (some ⟨b, off, none⟩) n cap1 := hC.v 2 (by simp [hu])
            have e3 : vals 3 = .int .i64 (k : Nat) := hC.v 3 (by simp [hu])
            have HCx := Lib.hid hC
            clear hC hcl hu hi
            simp only [fillA, if_true, Act.put]
            simp
            simp only [e2, e3]
            clear e2 e3
            go_wp2
            exact ⟨rfl, HCx.out.quiet 4 rfl⟩
          · intro L wx vals hi hu hcl hC
            simp [predL, predE, Region.binds, UpL] at hu
            have e4 : vals 4 = .pointer (some ⟨b, off + k, none⟩) := hC.v 4 (by simp [hu])
            have h0 := (HC4.out wx hC.b)
            have HCx := Lib.hid hC
            clear hC hcl hu hi
            simp only [fillA, if_true, Act.put]
            simp
            simp only [e4]
            clear e4
            go_wp2
            exact ⟨rfl, HCx.out.quiet 5 rfl⟩
          · intro L wx vals hi hu hcl hC
            simp [predL, predE, Region.binds, UpL] at hu
            have e1 : vals 1 = .bool true := hC.v 1 (by simp [hu])
            have e5 : vals 5 = .bool true := hC.v 5 (by simp [hu])
            have HCx := Lib.hid hC
            clear hC hcl hu hi
            simp only [fillA, if_true, Act.put]
            simp
            simp only [e1, e5]
            clear e1 e5
            go_wp2
            exact ⟨rfl, HCx.out.quiet 6 rfl⟩
        · intro wz vals U hC hall
          have e6 : vals 6 = .bool false := hC.v 6 (hall 6 (by simp))
          have h1 := HI3.out.step (ChP.frm.star Frm.emp) ((Below.refl _ w3).drew.trans hC.b)
          simp only [fillA, if_true, Act.put]
          simp
          simp only [e6]
          clear hC hall e6 HC4 HI3 HX3
          generalize vals 0 = o0 at *
          generalize vals 1 = o1 at *
          generalize vals 2 = o2 at *
          generalize vals 3 = o3 at *
          generalize vals 4 = o4 at *
          generalize vals 5 = o5 at *
          have d0 := HRk.out wz h1.out
          have HX4 := Lib.hid (fun g => h1.pobs Frm.emp (by show s.l.length ≤ 99999; omega) g)
          clear h1
          go_wp2_with fail
          (with_reducible refine (HX4.out _).mono ?_); rintro e w5 ⟨rfl, h1⟩
          have HI5 := Lib.hid h1
          clear h1 HX4 d0 HRk
          go_wp2
          go_roundw
          case rel =>
            refine ⟨k + 1, ((s.ann false).ann true).obs true, by omega, by go_num, Lib.hid ⟨e1, ?_, ?_⟩, HI5⟩
            · simp only [Ch.obs, Ch.ann, List.length_append, List.length_singleton]; omega
            · simp only [Ch.obs, Ch.ann, prB, e1]; simp; omega
          case measure => simp [intOf]; omega
    · obtain rfl : k = n := by omega
      have h2 := HI2.out.pscore Frm.emp (by omega)
      rw [e2, e3] at h2
      have HX := Lib.hid h2
      clear h2 HI2 HS HR e1 e2 e3
      go_wp2_with fail
      (with_reducible refine HX.out.mono ?_); rintro e w2 ⟨rfl, h1⟩
      have HF := Lib.hid h1.out
      clear h1 HX
      go_wp2_with fail
      (with_reducible refine (HAW.out _).mono ?_); rintro e w3 ⟨rfl, hb⟩
      have HF2 := Lib.hid (HF.out.trans (hb.mono HF.out.size))
      clear hb HF
      go_wp2
      go_ret
      exact ⟨rfl, HF2.out⟩
end Go.Proofs.Ytaohfcchejedkaa

