/-
  Layer 15: Equal at bools; the generator's Predictor. Written by gen_chhelp.py.
-/
import Derived.Test.YtaohfcchejedkaaChRef
import Derived.Test.YtaohfcchejedkaaStA
namespace Go.Proofs.Ytaohfcchejedkaa
open Go.ChangeShapes Go.WideShapes Go.ChangeAt Go.RowKit
set_option linter.unusedVariables false

theorem SrAt.bl {w : World} {L B : Nat} {A : Option Addr} {l : List Bool} (h : SrAt csB 1 w L B A l) {k : Nat} (hk : k < l.length) : ∃ b off, A = some ⟨b, off, none⟩ ∧ L ≤ b ∧ b < B ∧ w.cell? ⟨b, off + k, none⟩ = some (.bool l[k]) := by
  obtain ⟨b, off, e, h1, h2, h3⟩ := h k hk
  have := h3 0 (by omega)
  rw [Nat.mul_one, Nat.add_zero] at this
  exact ⟨b, off, e, h1, h2, this⟩
set_option maxRecDepth 100000 in
set_option maxHeartbeats 4000000 in
theorem eqB_any (A1 A2 : Option Addr) (c1 c2 : Nat) (l : List Bool) (L1 B1 L2 B2 : Nat) (w : World) (hB1 : B1 ≤ w.heap.size) (hB2 : B2 ≤ w.heap.size) (hn : l.length ≤ 100000) (h1 : SrAt csB 1 w L1 B1 A1 l) (h2 : SrAt csB 1 w L2 B2 A2 l) :
    Calls Try.prog 22 #[.slice A1 l.length c1, .slice A2 l.length c2] w (Calm (.bool true) w) := by
  have H1 := Lib.hid (fun k (hk : k < l.length) => h1.bl hk)
  have H2 := Lib.hid (fun k (hk : k < l.length) => h2.bl hk)
  clear h1 h2
  obtain ⟨n, hN⟩ : ∃ n, l.length = n := ⟨_, rfl⟩
  have HN := Lib.hid hN
  rw [hN]
  have hn' : n ≤ 100000 := by omega
  clear hN hn
  unfold Calm
  go_enter Try.func22, Try.ntmps22
  go_wp2
  go_loopw [5] (fun s5 wr => ∃ k : Nat, k ≤ n ∧ s5 = .int .i64 k ∧ Hid (Below w.heap.size w wr)) (fun s5 _ => n - (intOf s5).toNat)
  case atStart => exact ⟨0, Nat.zero_le _, rfl, Lib.hid (Below.refl _ _)⟩
  case round =>
    obtain ⟨k, hk, rfl, HD⟩ := hrel
    by_cases hlt : k < n
    · have hlt' : (k : Int) < n := by omega
      have hkl : k < l.length := by have := HN.out; omega
      obtain ⟨b1, o1, rfl, _, hb1, d1⟩ := H1.out k hkl
      obtain ⟨b2, o2, rfl, _, hb2, d2⟩ := H2.out k hkl
      generalize l[k] = g at *
      have hbw1 : b1 < w.heap.size := by omega
      have hbw2 : b2 < w.heap.size := by omega
      have HC4 := Lib.hid (fun (W : World) (hw : Below wr.drew.heap.size wr.drew W) => And.intro
        (((HD.out.trans (((Below.refl _ wr).drew.trans hw).mono HD.out.size)).cell (p := ⟨b1, o1 + k, none⟩) hbw1).trans d1)
        (((HD.out.trans (((Below.refl _ wr).drew.trans hw).mono HD.out.size)).cell (p := ⟨b2, o2 + k, none⟩) hbw2).trans d2))
      clear H1 H2 d1 d2 HN
      go_wp2_with fail
      refine wp_region_looseS 26 (by kernel_rfl) (by kernel_rfl) (StB wr.drew (fun vI => [.slice (some ⟨b1, o1, none⟩) n c1, .int .i64 (k : Nat), .pointer (some ⟨b1, o1 + k, none⟩), .bool g, .slice (some ⟨b2, o2, none⟩) n c2, .int .i64 (k : Nat), .pointer (some ⟨b2, o2 + k, none⟩), .bool g, .bool false].getD vI undef)) rfl StB.start ?_ ?_
      · simp only [OblAllS]
        refine ⟨?_, ?_, ?_, ?_, ?_, ?_, ?_, ?_, ?_, trivial⟩
        · intro L wx vals hi hu hcl hC
          have HCx := Lib.hid hC
          clear hC hcl hu hi
          simp only [fillA, if_true, Act.put]
          simp
          go_wp2
          exact ⟨rfl, HCx.out.quiet 0 rfl⟩
        · intro L wx vals hi hu hcl hC
          have HCx := Lib.hid hC
          clear hC hcl hu hi
          simp only [fillA, if_true, Act.put]
          simp
          go_wp2
          exact ⟨rfl, HCx.out.quiet 1 rfl⟩
        · intro L wx vals hi hu hcl hC
          simp [predL, predE, Region.binds, UpL] at hu
          have e0 : vals 0 = .slice (some ⟨b1, o1, none⟩) n c1 := hC.v 0 (by simp [hu])
          have e1 : vals 1 = .int .i64 (k : Nat) := hC.v 1 (by simp [hu])
          have HCx := Lib.hid hC
          clear hC hcl hu hi
          simp only [fillA, if_true, Act.put]
          simp
          simp only [e0, e1]
          clear e0 e1
          go_wp2
          exact ⟨rfl, HCx.out.quiet 2 rfl⟩
        · intro L wx vals hi hu hcl hC
          simp [predL, predE, Region.binds, UpL] at hu
          have e2 : vals 2 = .pointer (some ⟨b1, o1 + k, none⟩) := hC.v 2 (by simp [hu])
          have h0 := (HC4.out wx hC.b).1
          have HCx := Lib.hid hC
          clear hC hcl hu hi
          simp only [fillA, if_true, Act.put]
          simp
          simp only [e2]
          clear e2
          go_wp2
          exact ⟨rfl, HCx.out.quiet 3 rfl⟩
        · intro L wx vals hi hu hcl hC
          have HCx := Lib.hid hC
          clear hC hcl hu hi
          simp only [fillA, if_true, Act.put]
          simp
          go_wp2
          exact ⟨rfl, HCx.out.quiet 4 rfl⟩
        · intro L wx vals hi hu hcl hC
          have HCx := Lib.hid hC
          clear hC hcl hu hi
          simp only [fillA, if_true, Act.put]
          simp
          go_wp2
          exact ⟨rfl, HCx.out.quiet 5 rfl⟩
        · intro L wx vals hi hu hcl hC
          simp [predL, predE, Region.binds, UpL] at hu
          have e4 : vals 4 = .slice (some ⟨b2, o2, none⟩) n c2 := hC.v 4 (by simp [hu])
          have e5 : vals 5 = .int .i64 (k : Nat) := hC.v 5 (by simp [hu])
          have HCx := Lib.hid hC
          clear hC hcl hu hi
          simp only [fillA, if_true, Act.put]
          simp
          simp only [e4, e5]
          clear e4 e5
          go_wp2
          exact ⟨rfl, HCx.out.quiet 6 rfl⟩
        · intro L wx vals hi hu hcl hC
          simp [predL, predE, Region.binds, UpL] at hu
          have e6 : vals 6 = .pointer (some ⟨b2, o2 + k, none⟩) := hC.v 6 (by simp [hu])
          have h0 := (HC4.out wx hC.b).2
          have HCx := Lib.hid hC
          clear hC hcl hu hi
          simp only [fillA, if_true, Act.put]
          simp
          simp only [e6]
          clear e6
          go_wp2
          exact ⟨rfl, HCx.out.quiet 7 rfl⟩
        · intro L wx vals hi hu hcl hC
          simp [predL, predE, Region.binds, UpL] at hu
          have e3 : vals 3 = .bool g := hC.v 3 (by simp [hu])
          have e7 : vals 7 = .bool g := hC.v 7 (by simp [hu])
          have HCx := Lib.hid hC
          clear hC hcl hu hi
          simp only [fillA, if_true, Act.put]
          simp
          simp only [e3, e7]
          clear e3 e7
          go_wp2
          exact ⟨rfl, HCx.out.quiet 8 rfl⟩
      · intro wz vals U hC hall
        have e8 : vals 8 = .bool false := hC.v 8 (hall 8 (by simp))
        have HD2 := Lib.hid (HD.out.trans (((Below.refl _ wr).drew.trans hC.b).mono HD.out.size))
        simp only [fillA, if_true, Act.put]
        simp
        simp only [e8]
        clear hC hall e8 HC4 HD
        generalize vals 0 = t0 at *
        generalize vals 1 = t1 at *
        generalize vals 2 = t2 at *
        generalize vals 3 = t3 at *
        generalize vals 4 = t4 at *
        generalize vals 5 = t5 at *
        generalize vals 6 = t6 at *
        generalize vals 7 = t7 at *
        go_wp2
        go_roundw
        case rel => exact ⟨k + 1, by omega, by go_num, HD2⟩
        case measure => simp [intOf]; omega
    · obtain rfl : k = n := by omega
      clear H1 H2 HN
      go_wp2
      go_ret
      exact ⟨rfl, HD.out⟩
/-! ### the generator's Predictor -/
theorem only_setNew {B : Nat} {w wc : World} (ho : Only B w wc) {g : Nat} (hg : w.heap.size ≤ g) (o : Nat) (u : Value) : Only B w (wc.setCell ⟨g, o, none⟩ u) := by
  have hb := (Below.refl w.heap.size wc).setCell (p := ⟨g, o, none⟩) hg u
  exact ⟨hb.os.trans ho.os, hb.tape.trans ho.tape, hb.output.trans ho.output, by have := ho.size; simpa [World.setCell] using this, fun j hj hn => (hb.block j hj).trans (ho.block j hj hn)⟩
theorem gen_setFar {B : Nat} {a : Option Addr} {len cap k g : Nat} {w : World} (h : Gen B a len cap k w) (hg : B < g) (o : Nat) (u : Value) : Gen B a len cap k (w.setCell ⟨g, o, none⟩ u) := h.kept ((Below.refl _ w).setCell (p := ⟨g, o, none⟩) (by show B + 1 ≤ g; omega) u)
/-- Three cells of a result's block stored. -/
theorem pd_end {B : Nat} {a : Option Addr} {len cap k : Nat} {w wc : World} {c0 c1 c2 u0 u1 u2 : Value} {t : TypeId} (hg : Gen B a len cap k wc) (ho : Only B w wc) (hz : Whole wc w.heap.size t #[c0, c1, c2]) (hBw : B < w.heap.size) :
    Whole (((wc.setCell ⟨w.heap.size, 0, none⟩ u0).setCell ⟨w.heap.size, 1, none⟩ u1).setCell ⟨w.heap.size, 2, none⟩ u2) w.heap.size t #[u0, u1, u2] ∧
    Gen B a len cap k (((wc.setCell ⟨w.heap.size, 0, none⟩ u0).setCell ⟨w.heap.size, 1, none⟩ u1).setCell ⟨w.heap.size, 2, none⟩ u2) ∧
    Only B w (((wc.setCell ⟨w.heap.size, 0, none⟩ u0).setCell ⟨w.heap.size, 1, none⟩ u1).setCell ⟨w.heap.size, 2, none⟩ u2) :=
  ⟨((hz.put 0 u0).put 1 u1).put 2 u2, gen_setFar (gen_setFar (gen_setFar hg hBw 0 u0) hBw 1 u1) hBw 2 u2, only_setNew (only_setNew (only_setNew ho (Nat.le_refl _) 0 u0) (Nat.le_refl _) 1 u1) (Nat.le_refl _) 2 u2⟩
def GavePd (B : Nat) (a : Option Addr) (len cap k : Nat) (w : World) (e : Ending) (w' : World) : Prop := ∃ (p : Pd) (k' : Nat), pdB p = true ∧ k' ≤ k + 3 ∧ e = .returned (aggPd p) ∧ Gen B a len cap k' w' ∧ Only B w w'
set_option maxRecDepth 100000 in
set_option maxHeartbeats 4000000 in
theorem predG_any (B : Nat) (a : Option Addr) (len cap k : Nat) (w : World) (hg : Gen B a len cap k w) (hk : k ≤ 100000000) : Calls Try.prog 13 #[.pointer (some ⟨B, 0, none⟩)] w (GavePd B a len cap k w) := by
  have hBw := hg.lt
  have hz0 := Whole.fresh w 24 #[.int .i64 0, .int .i64 0, .int .i64 0]
  have ho0 := Only.alloc B w (.cells #[.int .i64 0, .int .i64 0, .int .i64 0] 24)
  have hg0 := hg.alloc (.cells #[.int .i64 0, .int .i64 0, .int .i64 0] 24)
  have HX := Lib.hid (next_any B a len cap k 3 _ (by decide) (by decide) (by omega) hg0)
  have HZ0 := Lib.hid hz0
  have HO0 := Lib.hid ho0
  clear hg hz0 ho0 hg0
  go_enter Try.func13, Try.ntmps13
  go_wp2_with fail
  (with_reducible refine HX.out.mono ?_)
  rintro e w1 ⟨r, r0, r1, rfl, hg1, ho1⟩
  have HO1 := Lib.hid (HO0.out.trans ho1)
  have HZ1 := Lib.hid (HZ0.out.carry (ho1.block w.heap.size HZ0.out.size_lt (by omega)))
  have HG1 := Lib.hid hg1
  clear HX HO0 HZ0 hg1 ho1
  rcases (by omega : r = 0 ∨ r = 1 ∨ (¬ r = 0 ∧ ¬ r = 1)) with rfl | rfl | ⟨n0, n1⟩
  · have HEND := Lib.hid (pd_end (u0 := .int .i64 2) (u1 := .int .i64 0) (u2 := .int .i64 0) HG1.out HO1.out HZ1.out hBw)
    have j0 := HZ1.out.read 0
    have j1 := HZ1.out.read 1
    have j2 := HZ1.out.read 2
    have z0 := HZ1.out.free 0
    have z1 := HZ1.out.free 1
    have z2 := HZ1.out.free 2
    simp at j0 j1 j2
    clear HG1 HO1 HZ1
    go_wp2
    obtain ⟨hW, hG, hO⟩ := HEND.out
    clear HEND
    generalize (((w1).setCell ⟨w.heap.size, 0, none⟩ (.int .i64 2)).setCell ⟨w.heap.size, 1, none⟩ (.int .i64 0)).setCell ⟨w.heap.size, 2, none⟩ (.int .i64 0) = wE at *
    have r0 := hW.read 0
    have r1 := hW.read 1
    have r2 := hW.read 2
    simp at r0 r1 r2
    exact bodyPost_ret (v := aggPd ⟨2, 0, 0⟩) (by simp [results, Try.results13, go_sem, r0, r1, r2, aggPd]) rfl ⟨⟨2, 0, 0⟩, _, rfl, by omega, rfl, hG, hO⟩
  · have HX := Lib.hid (next_any B a len cap (k + 1) 5 w1 (by decide) (by decide) (by omega) HG1.out)
    go_wp2_with fail
    (with_reducible refine HX.out.mono ?_)
    rintro e w2 ⟨r, r0', r1', rfl, hg2, ho2⟩
    have hw1 : IntKind.i64.wrap (1 + r) = 1 + r := IntWalk.i64_in _ (by omega)
    have HO2 := Lib.hid (HO1.out.trans ho2)
    have HZ2 := Lib.hid (HZ1.out.carry (ho2.block w.heap.size HZ1.out.size_lt (by omega)))
    have HX := Lib.hid (next_any B a len cap (k + 1 + 1) (1 + r) w2 (by omega) (by omega) (by omega) hg2)
    clear HO1 HZ1 HG1 hg2 ho2
    go_wp2_with fail
    (with_reducible refine HX.out.mono ?_)
    rintro e w3 ⟨x, x0, x1, rfl, hg3, ho3⟩
    have hw2 : IntKind.i64.wrap (1 + x) = 1 + x := IntWalk.i64_in _ (by omega)
    have HO3 := Lib.hid (HO2.out.trans ho3)
    have HZ3 := Lib.hid (HZ2.out.carry (ho3.block w.heap.size HZ2.out.size_lt (by omega)))
    have HG3 := Lib.hid hg3
    clear HO2 HZ2 hg3 ho3 HX
    have HEND := Lib.hid (pd_end (u0 := .int .i64 1) (u1 := .int .i64 (1 + x)) (u2 := .int .i64 (1 + r)) HG3.out HO3.out HZ3.out hBw)
    have j0 := HZ3.out.read 0
    have j1 := HZ3.out.read 1
    have j2 := HZ3.out.read 2
    have z0 := HZ3.out.free 0
    have z1 := HZ3.out.free 1
    have z2 := HZ3.out.free 2
    simp at j0 j1 j2
    clear HG3 HO3 HZ3
    go_wp2
    obtain ⟨hW, hG, hO⟩ := HEND.out
    clear HEND
    generalize (((w3).setCell ⟨w.heap.size, 0, none⟩ (.int .i64 1)).setCell ⟨w.heap.size, 1, none⟩ (.int .i64 (1 + x))).setCell ⟨w.heap.size, 2, none⟩ (.int .i64 (1 + r)) = wE at *
    have r0 := hW.read 0
    have r1 := hW.read 1
    have r2 := hW.read 2
    simp at r0 r1 r2
    exact bodyPost_ret (v := aggPd ⟨1, 1 + x, 1 + r⟩) (by simp [results, Try.results13, go_sem, r0, r1, r2, aggPd]) rfl ⟨⟨1, 1 + x, 1 + r⟩, _, pd_of (.inr ⟨rfl, by show 1 ≤ 1 + r ∧ 1 + r ≤ 32; omega, by show 1 ≤ 1 + x ∧ 1 + x ≤ 1 + r; omega⟩), by omega, rfl, hG, hO⟩
  · have HEND := Lib.hid (pd_end (u0 := .int .i64 0) (u1 := .int .i64 0) (u2 := .int .i64 0) HG1.out HO1.out HZ1.out hBw)
    have j0 := HZ1.out.read 0
    have j1 := HZ1.out.read 1
    have j2 := HZ1.out.read 2
    have z0 := HZ1.out.free 0
    have z1 := HZ1.out.free 1
    have z2 := HZ1.out.free 2
    simp at j0 j1 j2
    clear HG1 HO1 HZ1
    go_wp2
    obtain ⟨hW, hG, hO⟩ := HEND.out
    clear HEND
    generalize (((w1).setCell ⟨w.heap.size, 0, none⟩ (.int .i64 0)).setCell ⟨w.heap.size, 1, none⟩ (.int .i64 0)).setCell ⟨w.heap.size, 2, none⟩ (.int .i64 0) = wE at *
    have r0 := hW.read 0
    have r1 := hW.read 1
    have r2 := hW.read 2
    simp at r0 r1 r2
    exact bodyPost_ret (v := aggPd ⟨0, 0, 0⟩) (by simp [results, Try.results13, go_sem, r0, r1, r2, aggPd]) rfl ⟨⟨0, 0, 0⟩, _, rfl, by omega, rfl, hG, hO⟩
/-- The same as an action. -/
theorem GenP.pred {base B : Nat} {a : Option Addr} {len cap q : Nat} (hq : q ≤ 100000000) :
    Acts 13 #[.pointer (some ⟨B, 0, none⟩)] base (GenP base B a len cap q) (fun x : { x : Pd × Nat // pdB x.1 = true ∧ x.2 ≤ q + 3 } => aggPd x.1.1) fun x => GenP base B a len cap x.1.2 := by
  intro T w ⟨h1, h2, h3, h4⟩ hb hs
  refine (predG_any B a len cap q w h2 hq).mono ?_
  rintro e w' ⟨p, k', hp, hk', e1, hg, ho⟩
  have hbl : Below base w w' := ho.below (by have := h2.lt; omega) |>.mono h4
  exact ⟨⟨(p, k'), hp, hk'⟩, e1, ⟨T, ⟨h1, hg, h3.kept hbl, h4⟩, fun k hk => .inl hk⟩, Chg.of_only ho ((h1 B).2 rfl)⟩
end Go.Proofs.Ytaohfcchejedkaa

