/-
  Layer 18: Equal at numbers. Written by gen_lfwalk1.py.
-/
import Derived.Test.YtkhngfadhfomoaaLfEnv
import Derived.Deep.LoopGhost
import Derived.LoopTactic
namespace Go.Proofs.Ytkhngfadhfomoaa
open Go.ChangeShapes Go.WideShapes Go.ChangeAt Go.RowKit
set_option linter.unusedVariables false

set_option maxRecDepth 100000 in
set_option maxHeartbeats 4000000 in
theorem eqI_any {v1 v2 : Value} {l : List Int} {w : World} (hn : l.length ≤ 100000) (h1 : LsA csI 1 3 v1 l w) (h2 : LsA csI 1 3 v2 l w) :
    Calls Try.prog 15 #[v1, v2] w (Calm (.bool true) w) := by
  obtain ⟨A1, c1, rfl, g1, k1⟩ := h1.shape
  obtain ⟨A2, c2, rfl, g2, k2⟩ := h2.shape
  have H1 := Lib.hid (fun k (hk : k < l.length) => h1.el hk)
  have H2 := Lib.hid (fun k (hk : k < l.length) => h2.el hk)
  clear h1 h2 g1 g2 k1 k2
  obtain ⟨n, hN⟩ : ∃ n, l.length = n := ⟨_, rfl⟩
  have HN := Lib.hid hN
  rw [hN]
  have hn' : n ≤ 100000 := by omega
  clear hN hn
  unfold Calm
  go_enter Try.func15, Try.ntmps15
  go_wp2
  go_loopw [5] (fun s5 wr => ∃ k : Nat, k ≤ n ∧ s5 = .int .i64 k ∧ Hid (Below w.heap.size w wr)) (fun s5 _ => n - (intOf s5).toNat)
  case atStart => exact ⟨0, Nat.zero_le _, rfl, Lib.hid (Below.refl _ _)⟩
  case round =>
    obtain ⟨k, hk, rfl, HD⟩ := hrel
    by_cases hlt : k < n
    · have hlt' : (k : Int) < n := by omega
      have hk0 : (0 : Int) ≤ k := by omega
      have hkl : k < l.length := by have := HN.out; omega
      obtain ⟨b1, o1, c1', e1, _, hb1, _, _, f1⟩ := H1.out k hkl
      obtain ⟨b2, o2, c2', e2, _, hb2, _, _, f2⟩ := H2.out k hkl
      obtain ⟨rfl, rfl⟩ : A1 = some ⟨b1, o1, none⟩ ∧ c1 = c1' := by simpa using e1
      obtain ⟨rfl, rfl⟩ : A2 = some ⟨b2, o2, none⟩ ∧ c2 = c2' := by simpa using e2
      have d10 : w.cell? ⟨b1, o1 + k * 1 + 0, none⟩ = some (.int .i64 l[k]) := f1 k hkl 0 (by omega)
      have d20 : w.cell? ⟨b2, o2 + k * 1 + 0, none⟩ = some (.int .i64 l[k]) := f2 k hkl 0 (by omega)
      rw [Nat.mul_one, Nat.add_zero] at d10 d20
      clear f1 f2 e1 e2
      generalize l[k] = x at *
      have HC4 := Lib.hid (fun (W : World) (hw : Below wr.drew.heap.size wr.drew W) => (And.intro (((HD.out.trans (((Below.refl _ wr).drew.trans hw).mono HD.out.size)).cell (p := ⟨b1, o1 + k, none⟩) hb1).trans d10) (((HD.out.trans (((Below.refl _ wr).drew.trans hw).mono HD.out.size)).cell (p := ⟨b2, o2 + k, none⟩) hb2).trans d20)))
      clear H1 H2 HN d10 d20
      go_wp2_with fail
      refine wp_region_looseS 26 (by kernel_rfl) (by kernel_rfl) (StB wr.drew (fun vI => [.slice (some ⟨b1, o1, none⟩) n c1, .int .i64 (k : Nat), .pointer (some ⟨b1, o1 + k, none⟩), .int .i64 x, .slice (some ⟨b2, o2, none⟩) n c2, .int .i64 (k : Nat), .pointer (some ⟨b2, o2 + k, none⟩), .int .i64 x, .bool false].getD vI undef)) rfl StB.start ?_ ?_
      · simp only [OblAllS]
        refine ⟨?_, ?_, ?_, ?_, ?_, ?_, ?_, ?_, ?_, trivial⟩
        · intro L wx vals hi hu hcl hC
          have HCx := Lib.hid hC
          clear hC hcl hu hi
          simp only [fillA, if_true, Act.put]
          simp
          go_wp2
          exact ⟨rfl, HCx.out.quiet 0 rfl⟩
        · intro L wx vals hi hu hcl hC
          have HCx := Lib.hid hC
          clear hC hcl hu hi
          simp only [fillA, if_true, Act.put]
          simp
          go_wp2
          exact ⟨rfl, HCx.out.quiet 1 rfl⟩
        · intro L wx vals hi hu hcl hC
          simp [predL, predE, Region.binds, UpL] at hu
          have e0 : vals 0 = .slice (some ⟨b1, o1, none⟩) n c1 := hC.v 0 (by simp [hu])
          have e1 : vals 1 = .int .i64 (k : Nat) := hC.v 1 (by simp [hu])
          have HCx := Lib.hid hC
          clear hC hcl hu hi
          simp only [fillA, if_true, Act.put]
          simp
          simp only [e0, e1]
          clear e0 e1
          go_wp2
          exact ⟨rfl, HCx.out.quiet 2 rfl⟩
        · intro L wx vals hi hu hcl hC
          simp [predL, predE, Region.binds, UpL] at hu
          have e2 : vals 2 = .pointer (some ⟨b1, o1 + k, none⟩) := hC.v 2 (by simp [hu])
          have h0 := (HC4.out wx hC.b).1
          have HCx := Lib.hid hC
          clear hC hcl hu hi
          simp only [fillA, if_true, Act.put]
          simp
          simp only [e2]
          clear e2
          go_wp2
          exact ⟨rfl, HCx.out.quiet 3 rfl⟩
        · intro L wx vals hi hu hcl hC
          have HCx := Lib.hid hC
          clear hC hcl hu hi
          simp only [fillA, if_true, Act.put]
          simp
          go_wp2
          exact ⟨rfl, HCx.out.quiet 4 rfl⟩
        · intro L wx vals hi hu hcl hC
          have HCx := Lib.hid hC
          clear hC hcl hu hi
          simp only [fillA, if_true, Act.put]
          simp
          go_wp2
          exact ⟨rfl, HCx.out.quiet 5 rfl⟩
        · intro L wx vals hi hu hcl hC
          simp [predL, predE, Region.binds, UpL] at hu
          have e4 : vals 4 = .slice (some ⟨b2, o2, none⟩) n c2 := hC.v 4 (by simp [hu])
          have e5 : vals 5 = .int .i64 (k : Nat) := hC.v 5 (by simp [hu])
          have HCx := Lib.hid hC
          clear hC hcl hu hi
          simp only [fillA, if_true, Act.put]
          simp
          simp only [e4, e5]
          clear e4 e5
          go_wp2
          exact ⟨rfl, HCx.out.quiet 6 rfl⟩
        · intro L wx vals hi hu hcl hC
          simp [predL, predE, Region.binds, UpL] at hu
          have e6 : vals 6 = .pointer (some ⟨b2, o2 + k, none⟩) := hC.v 6 (by simp [hu])
          have h1 := (HC4.out wx hC.b).2
          have HCx := Lib.hid hC
          clear hC hcl hu hi
          simp only [fillA, if_true, Act.put]
          simp
          simp only [e6]
          clear e6
          go_wp2
          exact ⟨rfl, HCx.out.quiet 7 rfl⟩
        · intro L wx vals hi hu hcl hC
          simp [predL, predE, Region.binds, UpL] at hu
          have e3 : vals 3 = .int .i64 x := hC.v 3 (by simp [hu])
          have e7 : vals 7 = .int .i64 x := hC.v 7 (by simp [hu])
          have HCx := Lib.hid hC
          clear hC hcl hu hi
          simp only [fillA, if_true, Act.put]
          simp
          simp only [e3, e7]
          clear e3 e7
          go_wp2
          exact ⟨rfl, HCx.out.quiet 8 rfl⟩
      · intro wz vals U hC hall
        have e8 : vals 8 = .bool false := hC.v 8 (hall 8 (by simp))
        have HD2 := Lib.hid (HD.out.trans (((Below.refl _ wr).drew.trans hC.b).mono HD.out.size))
        simp only [fillA, if_true, Act.put]
        simp
        simp only [e8]
        clear hC hall e8 HC4 HD
        generalize vals 0 = t0 at *
        generalize vals 1 = t1 at *
        generalize vals 2 = t2 at *
        generalize vals 3 = t3 at *
        generalize vals 4 = t4 at *
        generalize vals 5 = t5 at *
        generalize vals 6 = t6 at *
        generalize vals 7 = t7 at *
        go_wp2
        go_roundw
        case rel => exact ⟨k + 1, by omega, by go_num, HD2⟩
        case measure => simp [intOf]; omega
    · obtain rfl : k = n := by omega
      clear H1 H2 HN
      go_wp2
      go_ret
      exact ⟨rfl, HD.out⟩
end Go.Proofs.Ytkhngfadhfomoaa

