/-
  Layer 20: the walk of AggregateSize. Written by gen_agwalk1.py.
-/
import Derived.Test.YtcnpmbgeafkmlaaAgHelp
import Derived.Test.YtcnpmbgeafkmlaaMp
namespace Go.Proofs.Ytcnpmbgeafkmlaa
open Go.ChangeShapes Go.WideShapes Go.ChangeAt Go.RowKit
set_option linter.unusedVariables false

/-- The drawn caps' block, the list last drawn, the choices. -/
def SzE (base B : Nat) (a : Option Addr) (len cap : Nat) (w0 : World) (g Q : Nat) (x : Cp) : Nat → (Nat → Value) → World → Prop
  | 0, _, w => ∃ q, q ≤ Q ∧ Inv base w0 (Star (BoxP g 24 #[.int .i64 x.1, .int .i64 x.2.1, .int .i64 x.2.2]) (GenP base B a len cap q)) w
  | k + 1, pv, w => ∃ (l : List Int) (q : Nat), l.length ≤ 200 ∧ q ≤ Q + 200 * (k + 1) ∧ Inv base w0 (Star (LsP csI 1 3 (pv k) l) (Star (BoxP g 24 #[.int .i64 x.1, .int .i64 x.2.1, .int .i64 x.2.2]) (GenP base B a len cap q))) w
section
variable {base B : Nat} {a : Option Addr} {len cap : Nat} {w0 : World} {g Q : Nat} {x : Cp} {k : Nat} {pv : Nat → Value} {w w' : World}
theorem SzE.core (h : SzE base B a len cap w0 g Q x k pv w) : ∃ q, q ≤ Q + 200 * k ∧ Inv base w0 (Star (BoxP g 24 #[.int .i64 x.1, .int .i64 x.2.1, .int .i64 x.2.2]) (GenP base B a len cap q)) w := by
  cases k with
  | zero => obtain ⟨q, h1, h2⟩ := h; exact ⟨q, by omega, h2⟩
  | succ k => obtain ⟨l, q, _, h1, h2⟩ := h; exact ⟨q, h1, h2.drop⟩
theorem SzE.ld (h : SzE base B a len cap w0 g Q x k pv w) : w.cell? ⟨g, 0, none⟩ = some (.int .i64 x.1) ∧ w.cell? ⟨g, 1, none⟩ = some (.int .i64 x.2.1) ∧ w.cell? ⟨g, 2, none⟩ = some (.int .i64 x.2.2) := by
  obtain ⟨q, _, h2⟩ := h.core
  have hb := h2.boxed
  exact ⟨(hb.read 0).trans rfl, (hb.read 1).trans rfl, (hb.read 2).trans rfl⟩
theorem SzE.later (h : SzE base B a len cap w0 g Q x k pv w) (hb : Below w.heap.size w w') : SzE base B a len cap w0 g Q x k pv w' := by
  cases k with
  | zero => obtain ⟨q, h1, h2⟩ := h; exact ⟨q, h1, h2.step (BoxP.frm.star GenP.frm) hb⟩
  | succ k => obtain ⟨l, q, h0, h1, h2⟩ := h; exact ⟨l, q, h0, h1, h2.step (LsP.frm.star (BoxP.frm.star GenP.frm)) hb⟩
theorem SzE.calm {f : FuncId} {args : Array Value} {v : Value} (h : SzE base B a len cap w0 g Q x k pv w) (hc : Calls Try.prog f args w (AiB v w)) : Calls Try.prog f args w fun e w' => e = .returned v ∧ SzE base B a len cap w0 g Q x k pv w' :=
  hc.mono fun e w' ⟨h1, h2⟩ => ⟨h1, h.later h2⟩
/-- Lengths are drawn. -/
theorem SzE.lens (h : SzE base B a len cap w0 g Q x k pv w) {n : Nat} (hn : n ≤ 150) (hQ : Q + 200 * k ≤ 1000000) : Calls Try.prog 10 #[.pointer (some ⟨B, 0, none⟩), .int .i64 n] w fun e w' => ∃ y, e = .returned y ∧ ∀ pv', pv' k = y → (∀ j, j ≠ k → pv' j = pv j) → SzE base B a len cap w0 g Q x (k + 1) pv' w' := by
  obtain ⟨q, hq, h2⟩ := h.core
  refine (h2.call (Acts.right BoxP.frm (llen_any (n := n) (by omega) (by omega)))).mono ?_
  rintro e w' ⟨⟨⟨v, l, q'⟩, g1, g2⟩, e1, h3⟩
  simp only at g1 g2 h3
  refine ⟨v, e1, fun pv' hp _ => ⟨l, q', by omega, by omega, ?_⟩⟩
  rw [hp]
  exact h3.imp fun T => Star.pick2
theorem SzE.size (h : SzE base B a len cap w0 g Q x (k + 1) pv w) : Calls Try.prog 9 #[pv k] w fun e w' => e = .returned (.bool true) ∧ SzE base B a len cap w0 g Q x (k + 1) pv w' := by
  obtain ⟨l, q, h0, h1, h2⟩ := id h
  obtain ⟨A, c, e1, hs⟩ := SlI.of (LsP.any h2)
  refine h.calm ?_
  rw [e1]
  exact size20_any hs (by omega)
end
set_option maxRecDepth 100000 in
set_option maxHeartbeats 16000000 in
theorem walkSize20 (A : Option Addr) (len cap : Nat) (A1 : Option Addr) (cap1 : Nat) (L1 : List Int) (p1 b1 t1 : Int) (w : World) (he : Elems w.heap.size A len w) (hn1 : L1.length ≤ 9223372036854775807) (hs1 : SlI A1 cap1 L1 w) :
    Calls Try.prog 3 #[.slice A len cap, .slice A1 L1.length cap1, .agg #[.int .i64 p1, .int .i64 b1, .int .i64 t1]] w (Calm (.bool true) w) := by
  have hbq := (Below.refl w.heap.size w).alloc (Nat.le_refl _) (.cells #[.int .i64 p1, .int .i64 b1, .int .i64 t1] 24)
  have hfr := Whole.fresh w 24 #[.int .i64 p1, .int .i64 b1, .int .i64 t1]
  obtain ⟨wq, hwq⟩ : ∃ wq, w.alloc (.cells #[.int .i64 p1, .int .i64 b1, .int .i64 t1] 24) = wq := ⟨_, rfl⟩
  rw [hwq] at hbq hfr
  have he2 : Elems wq.heap.size A len wq := by
    have h := he.kept hbq
    refine ⟨h.1, fun i hi => ?_⟩
    obtain ⟨b, off, z, e1, e2, e3⟩ := h.2 i hi
    exact ⟨b, off, z, e1, by have := hbq.size; omega, e3⟩
  have h0 := Lib.hid (GenP.new (w0 := wq) (cap := cap) he2 (Below.refl _ _) he2)
  have HFR := Lib.hid (fun (W : World) (hw : Below wq.heap.size wq W) => (by
    have h9 := hfr.later hw
    exact ⟨(h9.read 0).trans rfl, (h9.read 1).trans rfl, (h9.read 2).trans rfl⟩ : W.cell? ⟨w.heap.size, 0, none⟩ = some (.int .i64 p1) ∧ W.cell? ⟨w.heap.size, 1, none⟩ = some (.int .i64 b1) ∧ W.cell? ⟨w.heap.size, 2, none⟩ = some (.int .i64 t1)))
  have HS1_ := Lib.hid (fun (W : World) (hw : Below w.heap.size w W) (h200 : L1.length ≤ 200) => size20_any (hs1.later hw) (by omega))
  have HBQ := Lib.hid hbq
  obtain ⟨n, hn⟩ : ∃ n, L1.length = n := ⟨_, rfl⟩
  rw [hn] at HS1_ hn1 ⊢
  clear he he2 hbq hfr hs1 hn
  unfold Calm
  unfold AiB at HS1_
  go_enter Try.func3, Try.ntmps3
  go_wp2_with fail
  (with_reducible refine (new_any A len cap _).mono ?_); rintro e w' ⟨rfl, rfl⟩
  go_wp2_with fail
  go_loopw [8] (fun i wr => ∃ j q : Nat, j ≤ 5 ∧ i = .int .i64 j ∧ q ≤ 1000 * j ∧ Hid (Inv wq.heap.size wq (GenP wq.heap.size wq.heap.size A len cap q) wr)) (fun i _ => 5 - (intOf i).toNat)
  case atStart => exact ⟨0, 0, by omega, rfl, by omega, h0⟩
  case round =>
    obtain ⟨j, q, hj, rfl, hq, HJ⟩ := hrel
    clear h0
    by_cases hlt : j < 5
    · have hlt' : (j : Int) < 5 := by omega
      have HX := Lib.hid (HJ.out.call (GenP.lcaps (by omega)))
      clear HJ
      go_wp2_with fail
      (with_reducible refine HX.out.mono ?_); rintro e w2 ⟨⟨⟨⟨p, b, t⟩, q1⟩, hok, hq1⟩, rfl, h1⟩
      simp only at hq1 h1
      unfold aggC
      have h2 := h1.box GenP.frm 24 #[.int .i64 p, .int .i64 b, .int .i64 t]
      obtain ⟨g, hg⟩ : ∃ g, w2.heap.size = g := ⟨_, rfl⟩
      obtain ⟨Q, hQ⟩ : ∃ Q, Q = q1 := ⟨_, rfl⟩
      have HE0 := Lib.hid (show SzE wq.heap.size wq.heap.size A len cap wq g Q (p, b, t) 0 (fun _ => undef) (w2.alloc (.cells #[.int .i64 p, .int .i64 b, .int .i64 t] 24)).drew from by
        rw [← hg]
        exact SzE.later (pv := fun _ => undef) (k := 0) ⟨q1, by omega, h2⟩ (Below.refl _ _).drew)
      have hQ2 : Q ≤ 1000 * j + 19 := by omega
      clear h1 h2 HX hQ
      obtain ⟨wo, hwo⟩ : ∃ wo, w2.alloc (.cells #[.int .i64 p, .int .i64 b, .int .i64 t] 24) = wo := ⟨_, rfl⟩
      rw [hwo] at HE0
      have HL1 := Lib.hid (fun pv W (h : SzE wq.heap.size wq.heap.size A len cap wq g Q (p, b, t) 0 pv W) => (show Calls Try.prog 10 #[.pointer (some ⟨wq.heap.size, 0, none⟩), .int .i64 40] W _ from h.lens (n := 40) (by omega) (by omega)))
      have HL2 := Lib.hid (fun pv W (h : SzE wq.heap.size wq.heap.size A len cap wq g Q (p, b, t) 1 pv W) => (show Calls Try.prog 10 #[.pointer (some ⟨wq.heap.size, 0, none⟩), .int .i64 4] W _ from h.lens (n := 4) (by omega) (by omega)))
      have HS1 := Lib.hid (fun pv W (h : SzE wq.heap.size wq.heap.size A len cap wq g Q (p, b, t) 1 pv W) => h.size)
      have HS2 := Lib.hid (fun pv W (h : SzE wq.heap.size wq.heap.size A len cap wq g Q (p, b, t) 2 pv W) => h.size)
      have HV1 := Lib.hid (fun pv W (h : SzE wq.heap.size wq.heap.size A len cap wq g Q (p, b, t) 2 pv W) => h.calm (pvalid20_any p b t W))
      have HV2 := Lib.hid (fun pv W (h : SzE wq.heap.size wq.heap.size A len cap wq g Q (p, b, t) 2 pv W) => h.calm (rvalidcaps_any p b t W))
      have HLD := Lib.hid (fun k pv W (h : SzE wq.heap.size wq.heap.size A len cap wq g Q (p, b, t) k pv W) => h.ld)
      obtain ⟨cv, hcv⟩ : ∃ cv, agV p b t = cv := ⟨_, rfl⟩
      rw [hcv] at HV1 HV2
      have hcc : (cv != cv) = false := by simp
      clear hcv HFR HS1_ HBQ
      go_wp2_with fail
      refine wp_region_looseS 52 (by kernel_rfl) (by kernel_rfl) (MpC [1, 6] (SzE wq.heap.size wq.heap.size A len cap wq g Q (p, b, t)) (fun vI v => match vI with | 0 => v = .pointer (some ⟨wq.heap.size, 0, none⟩) | 2 => v = .bool true | 3 => v = .bool false | 4 => v = .bool false | 5 => v = .pointer (some ⟨wq.heap.size, 0, none⟩) | 7 => v = .bool true | 8 => v = .bool false | 9 => v = .bool false | 10 => v = .bool false | 11 => v = .agg #[.int .i64 p, .int .i64 b, .int .i64 t] | 12 => v = .bool cv | 13 => v = .agg #[.int .i64 p, .int .i64 b, .int .i64 t] | 14 => v = .bool cv | 15 => v = .bool false | 16 => v = .bool false | _ => True)) rfl (MpC.start HE0.out) ?_ ?_
      · simp only [OblAllS]
        refine ⟨?_, ?_, ?_, ?_, ?_, ?_, ?_, ?_, ?_, ?_, ?_, ?_, ?_, ?_, ?_, ?_, ?_, trivial⟩
        · intro L wx vals hi hu hcl hC
          have HCx := Lib.hid hC
          clear hC hcl hu hi
          simp only [fillA, if_true, Act.put]
          simp
          go_wp2
          exact ⟨rfl, HCx.out.quiet (i := 0) (by decide) (by decide) rfl⟩
        · intro L wx vals hi hu hcl hC
          simp [ClosedL, UpL, predL, predE, Region.binds] at hcl
          simp [predL, predE, Region.binds, UpL] at hu
          have e0 : vals 0 = .pointer (some ⟨wq.heap.size, 0, none⟩) := hC.v 0 (by simp [hu]) (by decide)
          have kp0 : L 1 = false := hi
          have kp1 : L 6 = false := by clear hC; cases h : L 6 with | false => rfl | true => exfalso; first | (simp_all; done) | grind
          have hcnt : cntP [1, 6] L = 0 := by show (if L 1 = true then 1 else 0) + ((if L 6 = true then 1 else 0) + 0) = 0; rw [kp0, kp1]; rfl
          have hE := hC.e
          rw [hcnt] at hE
          have hl9 := HL1.out _ _ hE
          have HL := Lib.hid hl9
          have HCN := Lib.hid hcnt
          have HLF := Lib.hid hi
          clear hE hl9 hcnt kp0 kp1
          have HCx := Lib.hid hC
          clear hC hcl hu hi
          simp only [fillA, if_true, Act.put]
          simp
          simp only [e0]
          clear e0
          go_wp2_with fail
          (with_reducible refine HL.out.mono ?_); rintro e w9 ⟨x9, rfl, hE9⟩
          have HX := Lib.hid (HCx.out.turn (k := 0) (i := 1) (x := x9) rfl (by decide) (by decide) HLF.out HCN.out hE9)
          clear hE9
          go_wp2
          exact ⟨rfl, HX.out⟩
        · intro L wx vals hi hu hcl hC
          simp [ClosedL, UpL, predL, predE, Region.binds] at hcl
          simp [predL, predE, Region.binds, UpL] at hu
          have kp0 : L 1 = true := by clear hC; first | exact hu | (simp_all; done) | grind
          have kp1 : L 6 = false := by clear hC; cases h : L 6 with | false => rfl | true => exfalso; first | (simp_all; done) | grind
          have hcnt : cntP [1, 6] L = 1 := by show (if L 1 = true then 1 else 0) + ((if L 6 = true then 1 else 0) + 0) = 1; rw [kp0, kp1]; rfl
          have hE := hC.e
          rw [hcnt] at hE
          have hl9 := HS1.out _ _ hE
          try rw [pvP0] at hl9
          have HL := Lib.hid hl9
          have HCN := Lib.hid hcnt
          have HLF := Lib.hid hi
          clear hE hl9 hcnt kp0 kp1
          have HCx := Lib.hid hC
          clear hC hcl hu hi
          simp only [fillA, if_true, Act.put]
          simp
          go_wp2_with fail
          (with_reducible refine HL.out.mono ?_); rintro e w9 ⟨rfl, hE9⟩
          have HX := Lib.hid (HCx.out.step (i := 2) (x := .bool true) (by decide) (by decide) rfl (by rw [HCN.out]; exact hE9))
          clear hE9
          go_wp2
          exact ⟨rfl, HX.out⟩
        · intro L wx vals hi hu hcl hC
          simp [predL, predE, Region.binds, UpL] at hu
          have e2 : vals 2 = .bool true := hC.v 2 (by simp [hu]) (by decide)
          have HCx := Lib.hid hC
          clear hC hcl hu hi
          simp only [fillA, if_true, Act.put]
          simp
          simp only [e2]
          clear e2
          go_wp2
          exact ⟨rfl, HCx.out.quiet (i := 3) (by decide) (by decide) rfl⟩
        · intro L wx vals hi hu hcl hC
          simp [predL, predE, Region.binds, UpL] at hu
          have e3 : vals 3 = .bool false := hC.v 3 (by simp [hu]) (by decide)
          have HCx := Lib.hid hC
          clear hC hcl hu hi
          simp only [fillA, if_true, Act.put]
          simp
          simp only [e3]
          clear e3
          go_wp2
          exact ⟨rfl, HCx.out.quiet (i := 4) (by decide) (by decide) rfl⟩
        · intro L wx vals hi hu hcl hC
          simp [predL, predE, Region.binds, UpL] at hu
          have e4 : vals 4 = .bool false := hC.v 4 (by simp [hu]) (by decide)
          have HCx := Lib.hid hC
          clear hC hcl hu hi
          simp only [fillA, if_true, Act.put]
          simp
          simp only [e4]
          clear e4
          go_wp2
          exact ⟨rfl, HCx.out.quiet (i := 5) (by decide) (by decide) rfl⟩
        · intro L wx vals hi hu hcl hC
          simp [ClosedL, UpL, predL, predE, Region.binds] at hcl
          simp [predL, predE, Region.binds, UpL] at hu
          have e4 : vals 4 = .bool false := hC.v 4 (by simp [hu]) (by decide)
          have e5 : vals 5 = .pointer (some ⟨wq.heap.size, 0, none⟩) := hC.v 5 (by simp [hu]) (by decide)
          have kp0 : L 1 = true := by clear hC; first | exact hu | (simp_all; done) | grind
          have kp1 : L 6 = false := hi
          have hcnt : cntP [1, 6] L = 1 := by show (if L 1 = true then 1 else 0) + ((if L 6 = true then 1 else 0) + 0) = 1; rw [kp0, kp1]; rfl
          have hE := hC.e
          rw [hcnt] at hE
          have hl9 := HL2.out _ _ hE
          try rw [pvP0] at hl9
          have HL := Lib.hid hl9
          have HCN := Lib.hid hcnt
          have HLF := Lib.hid hi
          clear hE hl9 hcnt kp0 kp1
          have HCx := Lib.hid hC
          clear hC hcl hu hi
          simp only [fillA, if_true, Act.put]
          simp
          simp only [e4, e5]
          clear e4 e5
          go_wp2_with fail
          (with_reducible refine HL.out.mono ?_); rintro e w9 ⟨x9, rfl, hE9⟩
          have HX := Lib.hid (HCx.out.turn (k := 1) (i := 6) (x := x9) rfl (by decide) (by decide) HLF.out HCN.out hE9)
          clear hE9
          go_wp2
          exact ⟨rfl, HX.out⟩
        · intro L wx vals hi hu hcl hC
          simp [ClosedL, UpL, predL, predE, Region.binds] at hcl
          simp [predL, predE, Region.binds, UpL] at hu
          have e4 : vals 4 = .bool false := hC.v 4 (by simp [hu]) (by decide)
          have kp0 : L 1 = true := by clear hC; first | exact hu | (simp_all; done) | grind
          have kp1 : L 6 = true := by clear hC; first | exact hu | (simp_all; done) | grind
          have hcnt : cntP [1, 6] L = 2 := by show (if L 1 = true then 1 else 0) + ((if L 6 = true then 1 else 0) + 0) = 2; rw [kp0, kp1]; rfl
          have hE := hC.e
          rw [hcnt] at hE
          have hl9 := HS2.out _ _ hE
          try rw [pvP0] at hl9
          try rw [pvP1] at hl9
          have HL := Lib.hid hl9
          have HCN := Lib.hid hcnt
          have HLF := Lib.hid hi
          clear hE hl9 hcnt kp0 kp1
          have HCx := Lib.hid hC
          clear hC hcl hu hi
          simp only [fillA, if_true, Act.put]
          simp
          simp only [e4]
          clear e4
          go_wp2_with fail
          (with_reducible refine HL.out.mono ?_); rintro e w9 ⟨rfl, hE9⟩
          have HX := Lib.hid (HCx.out.step (i := 7) (x := .bool true) (by decide) (by decide) rfl (by rw [HCN.out]; exact hE9))
          clear hE9
          go_wp2
          exact ⟨rfl, HX.out⟩
        · intro L wx vals hi hu hcl hC
          simp [predL, predE, Region.binds, UpL] at hu
          have e4 : vals 4 = .bool false := hC.v 4 (by simp [hu]) (by decide)
          have e7 : vals 7 = .bool true := hC.v 7 (by simp [hu]) (by decide)
          have HCx := Lib.hid hC
          clear hC hcl hu hi
          simp only [fillA, if_true, Act.put]
          simp
          simp only [e4, e7]
          clear e4 e7
          go_wp2
          exact ⟨rfl, HCx.out.quiet (i := 8) (by decide) (by decide) rfl⟩
        · intro L wx vals hi hu hcl hC
          simp [predL, predE, Region.binds, UpL] at hu
          have e4 : vals 4 = .bool false := hC.v 4 (by simp [hu]) (by decide)
          have e8 : vals 8 = .bool false := hC.v 8 (by simp [hu]) (by decide)
          have HCx := Lib.hid hC
          clear hC hcl hu hi
          simp only [fillA, if_true, Act.put]
          simp
          simp only [e4, e8]
          clear e4 e8
          go_wp2
          exact ⟨rfl, HCx.out.quiet (i := 9) (by decide) (by decide) rfl⟩
        · intro L wx vals hi hu hcl hC
          simp [predL, predE, Region.binds, UpL] at hu
          have e9 : vals 9 = .bool false := hC.v 9 (by simp [hu]) (by decide)
          have HCx := Lib.hid hC
          clear hC hcl hu hi
          simp only [fillA, if_true, Act.put]
          simp
          simp only [e9]
          clear e9
          go_wp2
          exact ⟨rfl, HCx.out.quiet (i := 10) (by decide) (by decide) rfl⟩
        · intro L wx vals hi hu hcl hC
          simp [predL, predE, Region.binds, UpL] at hu
          have e10 : vals 10 = .bool false := hC.v 10 (by simp [hu]) (by decide)
          have ⟨h0, h1, h2⟩ := HLD.out _ _ _ hC.e
          have HCx := Lib.hid hC
          clear hC hcl hu hi
          simp only [fillA, if_true, Act.put]
          simp
          simp only [e10]
          clear e10
          go_wp2
          exact ⟨rfl, HCx.out.quiet (i := 11) (by decide) (by decide) rfl⟩
        · intro L wx vals hi hu hcl hC
          simp [ClosedL, UpL, predL, predE, Region.binds] at hcl
          simp [predL, predE, Region.binds, UpL] at hu
          have e10 : vals 10 = .bool false := hC.v 10 (by simp [hu]) (by decide)
          have e11 : vals 11 = .agg #[.int .i64 p, .int .i64 b, .int .i64 t] := hC.v 11 (by simp [hu]) (by decide)
          have kp0 : L 1 = true := by clear hC; first | exact hu | (simp_all; done) | grind
          have kp1 : L 6 = true := by clear hC; first | exact hu | (simp_all; done) | grind
          have hcnt : cntP [1, 6] L = 2 := by show (if L 1 = true then 1 else 0) + ((if L 6 = true then 1 else 0) + 0) = 2; rw [kp0, kp1]; rfl
          have hE := hC.e
          rw [hcnt] at hE
          have hl9 := HV1.out _ _ hE
          try rw [pvP0] at hl9
          try rw [pvP1] at hl9
          have HL := Lib.hid hl9
          have HCN := Lib.hid hcnt
          have HLF := Lib.hid hi
          clear hE hl9 hcnt kp0 kp1
          have HCx := Lib.hid hC
          clear hC hcl hu hi
          simp only [fillA, if_true, Act.put]
          simp
          simp only [e10, e11]
          clear e10 e11
          go_wp2_with fail
          (with_reducible refine HL.out.mono ?_); rintro e w9 ⟨rfl, hE9⟩
          have HX := Lib.hid (HCx.out.step (i := 12) (x := .bool cv) (by decide) (by decide) rfl (by rw [HCN.out]; exact hE9))
          clear hE9
          go_wp2
          exact ⟨rfl, HX.out⟩
        · intro L wx vals hi hu hcl hC
          simp [predL, predE, Region.binds, UpL] at hu
          have e10 : vals 10 = .bool false := hC.v 10 (by simp [hu]) (by decide)
          have ⟨h0, h1, h2⟩ := HLD.out _ _ _ hC.e
          have HCx := Lib.hid hC
          clear hC hcl hu hi
          simp only [fillA, if_true, Act.put]
          simp
          simp only [e10]
          clear e10
          go_wp2
          exact ⟨rfl, HCx.out.quiet (i := 13) (by decide) (by decide) rfl⟩
        · intro L wx vals hi hu hcl hC
          simp [ClosedL, UpL, predL, predE, Region.binds] at hcl
          simp [predL, predE, Region.binds, UpL] at hu
          have e10 : vals 10 = .bool false := hC.v 10 (by simp [hu]) (by decide)
          have e13 : vals 13 = .agg #[.int .i64 p, .int .i64 b, .int .i64 t] := hC.v 13 (by simp [hu]) (by decide)
          have kp0 : L 1 = true := by clear hC; first | exact hu | (simp_all; done) | grind
          have kp1 : L 6 = true := by clear hC; first | exact hu | (simp_all; done) | grind
          have hcnt : cntP [1, 6] L = 2 := by show (if L 1 = true then 1 else 0) + ((if L 6 = true then 1 else 0) + 0) = 2; rw [kp0, kp1]; rfl
          have hE := hC.e
          rw [hcnt] at hE
          have hl9 := HV2.out _ _ hE
          try rw [pvP0] at hl9
          try rw [pvP1] at hl9
          have HL := Lib.hid hl9
          have HCN := Lib.hid hcnt
          have HLF := Lib.hid hi
          clear hE hl9 hcnt kp0 kp1
          have HCx := Lib.hid hC
          clear hC hcl hu hi
          simp only [fillA, if_true, Act.put]
          simp
          simp only [e10, e13]
          clear e10 e13
          go_wp2_with fail
          (with_reducible refine HL.out.mono ?_); rintro e w9 ⟨rfl, hE9⟩
          have HX := Lib.hid (HCx.out.step (i := 14) (x := .bool cv) (by decide) (by decide) rfl (by rw [HCN.out]; exact hE9))
          clear hE9
          go_wp2
          exact ⟨rfl, HX.out⟩
        · intro L wx vals hi hu hcl hC
          simp [predL, predE, Region.binds, UpL] at hu
          have e10 : vals 10 = .bool false := hC.v 10 (by simp [hu]) (by decide)
          have e12 : vals 12 = .bool cv := hC.v 12 (by simp [hu]) (by decide)
          have e14 : vals 14 = .bool cv := hC.v 14 (by simp [hu]) (by decide)
          have HCx := Lib.hid hC
          clear hC hcl hu hi
          simp only [fillA, if_true, Act.put]
          simp
          simp only [e10, e12, e14]
          clear e10 e12 e14
          go_wp2
          exact ⟨rfl, HCx.out.quiet (i := 15) (by decide) (by decide) rfl⟩
        · intro L wx vals hi hu hcl hC
          simp [predL, predE, Region.binds, UpL] at hu
          have e10 : vals 10 = .bool false := hC.v 10 (by simp [hu]) (by decide)
          have e15 : vals 15 = .bool false := hC.v 15 (by simp [hu]) (by decide)
          have HCx := Lib.hid hC
          clear hC hcl hu hi
          simp only [fillA, if_true, Act.put]
          simp
          simp only [e10, e15]
          clear e10 e15
          go_wp2
          exact ⟨rfl, HCx.out.quiet (i := 16) (by decide) (by decide) rfl⟩
      · intro wz vals U hC hall
        have e16 : vals 16 = .bool false := hC.v 16 (hall 16 (by simp)) (by decide)
        have hE := hC.e
        rw [show cntP [1, 6] U = 2 by show (if U 1 = true then 1 else 0) + ((if U 6 = true then 1 else 0) + 0) = 2; rw [hall 1 (by simp), hall 6 (by simp)]; rfl] at hE
        obtain ⟨q2, hq2, h3⟩ := SzE.core hE
        have HZ := Lib.hid h3.drop
        simp only [fillA, if_true, Act.put]
        simp
        simp only [e16]
        clear hC hall e16 h3 HL1 HL2 HS1 HS2 HV1 HV2 HLD
        generalize vals 0 = t_0 at *
        generalize vals 1 = t_1 at *
        generalize vals 2 = t_2 at *
        generalize vals 3 = t_3 at *
        generalize vals 4 = t_4 at *
        generalize vals 5 = t_5 at *
        generalize vals 6 = t_6 at *
        generalize vals 7 = t_7 at *
        generalize vals 8 = t_8 at *
        generalize vals 9 = t_9 at *
        generalize vals 10 = t_10 at *
        generalize vals 11 = t_11 at *
        generalize vals 12 = t_12 at *
        generalize vals 13 = t_13 at *
        generalize vals 14 = t_14 at *
        generalize vals 15 = t_15 at *
        generalize vals 16 = t_16 at *
        go_wp2
        go_roundw
        case rel => exact ⟨j + 1, q2, by omega, by go_num, by omega, HZ⟩
        case measure => simp [intOf]; omega
    · obtain rfl : j = 5 := by omega
      have HBB := Lib.hid (show Below wq.heap.size wq wr from HJ.out.out)
      have HBW := Lib.hid (HBQ.out.trans (HBB.out.mono HBQ.out.size))
      have HC4 := Lib.hid (fun (W : World) (hw : Below wr.drew.heap.size wr.drew W) => HFR.out W (HBB.out.trans (((Below.refl _ wr).drew.trans hw).mono HBB.out.size)))
      have HAW := Lib.hid (fun (W : World) (hw : Below wr.drew.heap.size wr.drew W) => awake20_any W)
      have HV1 := Lib.hid (fun (W : World) (hw : Below wr.drew.heap.size wr.drew W) => pvalid20_any p1 b1 t1 W)
      have HV2 := Lib.hid (fun (W : World) (hw : Below wr.drew.heap.size wr.drew W) => rvalidcaps_any p1 b1 t1 W)
      have HS := Lib.hid (fun (W : World) (hw : Below wr.drew.heap.size wr.drew W) (h200 : n ≤ 200) => HS1_.out W (HBW.out.trans (((Below.refl _ wr).drew.trans hw).mono HBW.out.size)) h200)
      obtain ⟨cv, hcv⟩ : ∃ cv, agV p1 b1 t1 = cv := ⟨_, rfl⟩
      rw [hcv] at HV1 HV2
      unfold AiB at *
      have hcc : (cv == cv) = true := by simp
      clear HJ HFR HS1_ HBB HBQ hcv
      by_cases h200 : n ≤ 200
      · have hd1 : decide ((200 : Int) < (n : Int)) = false := by simp; omega
        have hd2 : decide (200 < n) = false := by simp; omega
        have HS := Lib.hid (fun (W : World) (hw : Below wr.drew.heap.size wr.drew W) => HS.out W hw h200)
        go_wp2_with fail
        refine wp_region_looseS 52 (by kernel_rfl) (by kernel_rfl) (StB wr.drew (fun vI => [.slice A1 n cap1, .int .i64 n, .bool false, .bool false, .slice A1 n cap1, .bool true, .bool true, .agg #[.int .i64 p1, .int .i64 b1, .int .i64 t1], .bool cv, .agg #[.int .i64 p1, .int .i64 b1, .int .i64 t1], .bool cv, .bool true, .bool true, .bool true, .bool true, .bool true, .bool true, .bool true].getD vI undef)) rfl StB.start ?_ ?_
        · simp only [OblAllS]
          refine ⟨?_, ?_, ?_, ?_, ?_, ?_, ?_, ?_, ?_, ?_, ?_, ?_, ?_, ?_, ?_, ?_, ?_, ?_, trivial⟩
          · intro L wx vals hi hu hcl hC
            have HCx := Lib.hid hC
            clear hC hcl hu hi
            simp only [fillA, if_true, Act.put]
            simp
            go_wp2
            exact ⟨rfl, HCx.out.quiet 0 rfl⟩
          · intro L wx vals hi hu hcl hC
            simp [predL, predE, Region.binds, UpL] at hu
            have e0 : vals 0 = .slice A1 n cap1 := hC.v 0 (by simp [hu])
            have HCx := Lib.hid hC
            clear hC hcl hu hi
            simp only [fillA, if_true, Act.put]
            simp
            simp only [e0]
            clear e0
            go_wp2
            exact ⟨rfl, HCx.out.quiet 1 rfl⟩
          · intro L wx vals hi hu hcl hC
            simp [predL, predE, Region.binds, UpL] at hu
            have e1 : vals 1 = .int .i64 n := hC.v 1 (by simp [hu])
            have HCx := Lib.hid hC
            clear hC hcl hu hi
            simp only [fillA, if_true, Act.put]
            simp
            simp only [e1]
            clear e1
            go_wp2
            exact ⟨rfl, HCx.out.quiet 2 rfl⟩
          · intro L wx vals hi hu hcl hC
            simp [predL, predE, Region.binds, UpL] at hu
            have e2 : vals 2 = .bool false := hC.v 2 (by simp [hu])
            have HCx := Lib.hid hC
            clear hC hcl hu hi
            simp only [fillA, if_true, Act.put]
            simp
            simp only [e2]
            clear e2
            go_wp2
            exact ⟨rfl, HCx.out.quiet 3 rfl⟩
          · intro L wx vals hi hu hcl hC
            simp [predL, predE, Region.binds, UpL] at hu
            have e3 : vals 3 = .bool false := hC.v 3 (by simp [hu])
            have HCx := Lib.hid hC
            clear hC hcl hu hi
            simp only [fillA, if_true, Act.put]
            simp
            simp only [e3]
            clear e3
            go_wp2
            exact ⟨rfl, HCx.out.quiet 4 rfl⟩
          · intro L wx vals hi hu hcl hC
            simp [predL, predE, Region.binds, UpL] at hu
            have e3 : vals 3 = .bool false := hC.v 3 (by simp [hu])
            have e4 : vals 4 = .slice A1 n cap1 := hC.v 4 (by simp [hu])
            have HL := Lib.hid (HS.out wx hC.b)
            have HCx := Lib.hid hC
            clear hC hcl hu hi
            simp only [fillA, if_true, Act.put]
            simp
            simp only [e3, e4]
            clear e3 e4
            go_wp2_with fail
            (with_reducible refine HL.out.mono ?_); rintro e w9 ⟨rfl, hb⟩
            have HX := Lib.hid (HCx.out.step 5 (x := .bool true) rfl (HCx.out.b.trans (hb.mono HCx.out.b.size)))
            clear hb
            go_wp2
            exact ⟨rfl, HX.out⟩
          · intro L wx vals hi hu hcl hC
            simp [predL, predE, Region.binds, UpL] at hu
            have e3 : vals 3 = .bool false := hC.v 3 (by simp [hu])
            have e5 : vals 5 = .bool true := hC.v 5 (by simp [hu])
            have HCx := Lib.hid hC
            clear hC hcl hu hi
            simp only [fillA, if_true, Act.put]
            simp
            simp only [e3, e5]
            clear e3 e5
            go_wp2
            exact ⟨rfl, HCx.out.quiet 6 rfl⟩
          · intro L wx vals hi hu hcl hC
            simp [predL, predE, Region.binds, UpL] at hu
            have e6 : vals 6 = .bool true := hC.v 6 (by simp [hu])
            have h0 := (HC4.out wx hC.b).1
            have h1 := (HC4.out wx hC.b).2.1
            have h2 := (HC4.out wx hC.b).2.2
            have HCx := Lib.hid hC
            clear hC hcl hu hi
            simp only [fillA, if_true, Act.put]
            simp
            simp only [e6]
            clear e6
            go_wp2
            exact ⟨rfl, HCx.out.quiet 7 rfl⟩
          · intro L wx vals hi hu hcl hC
            simp [predL, predE, Region.binds, UpL] at hu
            have e6 : vals 6 = .bool true := hC.v 6 (by simp [hu])
            have e7 : vals 7 = .agg #[.int .i64 p1, .int .i64 b1, .int .i64 t1] := hC.v 7 (by simp [hu])
            have HL := Lib.hid (HV1.out wx hC.b)
            have HCx := Lib.hid hC
            clear hC hcl hu hi
            simp only [fillA, if_true, Act.put]
            simp
            simp only [e6, e7]
            clear e6 e7
            go_wp2_with fail
            (with_reducible refine HL.out.mono ?_); rintro e w9 ⟨rfl, hb⟩
            have HX := Lib.hid (HCx.out.step 8 (x := .bool cv) rfl (HCx.out.b.trans (hb.mono HCx.out.b.size)))
            clear hb
            go_wp2
            exact ⟨rfl, HX.out⟩
          · intro L wx vals hi hu hcl hC
            simp [predL, predE, Region.binds, UpL] at hu
            have e6 : vals 6 = .bool true := hC.v 6 (by simp [hu])
            have h0 := (HC4.out wx hC.b).1
            have h1 := (HC4.out wx hC.b).2.1
            have h2 := (HC4.out wx hC.b).2.2
            have HCx := Lib.hid hC
            clear hC hcl hu hi
            simp only [fillA, if_true, Act.put]
            simp
            simp only [e6]
            clear e6
            go_wp2
            exact ⟨rfl, HCx.out.quiet 9 rfl⟩
          · intro L wx vals hi hu hcl hC
            simp [predL, predE, Region.binds, UpL] at hu
            have e6 : vals 6 = .bool true := hC.v 6 (by simp [hu])
            have e9 : vals 9 = .agg #[.int .i64 p1, .int .i64 b1, .int .i64 t1] := hC.v 9 (by simp [hu])
            have HL := Lib.hid (HV2.out wx hC.b)
            have HCx := Lib.hid hC
            clear hC hcl hu hi
            simp only [fillA, if_true, Act.put]
            simp
            simp only [e6, e9]
            clear e6 e9
            go_wp2_with fail
            (with_reducible refine HL.out.mono ?_); rintro e w9 ⟨rfl, hb⟩
            have HX := Lib.hid (HCx.out.step 10 (x := .bool cv) rfl (HCx.out.b.trans (hb.mono HCx.out.b.size)))
            clear hb
            go_wp2
            exact ⟨rfl, HX.out⟩
          · intro L wx vals hi hu hcl hC
            simp [predL, predE, Region.binds, UpL] at hu
            have e6 : vals 6 = .bool true := hC.v 6 (by simp [hu])
            have e8 : vals 8 = .bool cv := hC.v 8 (by simp [hu])
            have e10 : vals 10 = .bool cv := hC.v 10 (by simp [hu])
            have HCx := Lib.hid hC
            clear hC hcl hu hi
            simp only [fillA, if_true, Act.put]
            simp
            simp only [e6, e8, e10]
            clear e6 e8 e10
            go_wp2
            exact ⟨rfl, HCx.out.quiet 11 rfl⟩
          · intro L wx vals hi hu hcl hC
            simp [predL, predE, Region.binds, UpL] at hu
            have e3 : vals 3 = .bool false := hC.v 3 (by simp [hu])
            have e6 : vals 6 = .bool true := hC.v 6 (by simp [hu])
            have e11 : vals 11 = .bool true := hC.v 11 (by simp [hu])
            have HCx := Lib.hid hC
            clear hC hcl hu hi
            simp only [fillA, if_true, Act.put]
            simp
            simp only [e3, e6, e11]
            clear e3 e6 e11
            go_wp2
            exact ⟨rfl, HCx.out.quiet 12 rfl⟩
          · intro L wx vals hi hu hcl hC
            simp [predL, predE, Region.binds, UpL] at hu
            have e3 : vals 3 = .bool false := hC.v 3 (by simp [hu])
            have e12 : vals 12 = .bool true := hC.v 12 (by simp [hu])
            have HCx := Lib.hid hC
            clear hC hcl hu hi
            simp only [fillA, if_true, Act.put]
            simp
            simp only [e3, e12]
            clear e3 e12
            go_wp2
            exact ⟨rfl, HCx.out.quiet 13 rfl⟩
          · intro L wx vals hi hu hcl hC
            simp [predL, predE, Region.binds, UpL] at hu
            have e13 : vals 13 = .bool true := hC.v 13 (by simp [hu])
            have HCx := Lib.hid hC
            clear hC hcl hu hi
            simp only [fillA, if_true, Act.put]
            simp
            simp only [e13]
            clear e13
            go_wp2
            exact ⟨rfl, HCx.out.quiet 14 rfl⟩
          · intro L wx vals hi hu hcl hC
            simp [predL, predE, Region.binds, UpL] at hu
            have e14 : vals 14 = .bool true := hC.v 14 (by simp [hu])
            have HL := Lib.hid (HAW.out wx hC.b)
            have HCx := Lib.hid hC
            clear hC hcl hu hi
            simp only [fillA, if_true, Act.put]
            simp
            simp only [e14]
            clear e14
            go_wp2_with fail
            (with_reducible refine HL.out.mono ?_); rintro e w9 ⟨rfl, hb⟩
            have HX := Lib.hid (HCx.out.step 15 (x := .bool true) rfl (HCx.out.b.trans (hb.mono HCx.out.b.size)))
            clear hb
            go_wp2
            exact ⟨rfl, HX.out⟩
          · intro L wx vals hi hu hcl hC
            simp [predL, predE, Region.binds, UpL] at hu
            have e14 : vals 14 = .bool true := hC.v 14 (by simp [hu])
            have e15 : vals 15 = .bool true := hC.v 15 (by simp [hu])
            have HCx := Lib.hid hC
            clear hC hcl hu hi
            simp only [fillA, if_true, Act.put]
            simp
            simp only [e14, e15]
            clear e14 e15
            go_wp2
            exact ⟨rfl, HCx.out.quiet 16 rfl⟩
          · intro L wx vals hi hu hcl hC
            simp [predL, predE, Region.binds, UpL] at hu
            have e16 : vals 16 = .bool true := hC.v 16 (by simp [hu])
            have HCx := Lib.hid hC
            clear hC hcl hu hi
            simp only [fillA, if_true, Act.put]
            simp
            simp only [e16]
            clear e16
            go_wp2
            exact ⟨rfl, HCx.out.quiet 17 rfl⟩
        · intro wz vals U hC hall
          have e17 : vals 17 = .bool true := hC.v 17 (hall 17 (by simp))
          have HF := Lib.hid (HBW.out.trans (((Below.refl _ wr).drew.trans hC.b).mono HBW.out.size))
          simp only [fillA, if_true, Act.put]
          simp
          simp only [e17]
          clear hC hall e17 HC4 HV1 HV2 HS HAW
          generalize vals 0 = t_0 at *
          generalize vals 1 = t_1 at *
          generalize vals 2 = t_2 at *
          generalize vals 3 = t_3 at *
          generalize vals 4 = t_4 at *
          generalize vals 5 = t_5 at *
          generalize vals 6 = t_6 at *
          generalize vals 7 = t_7 at *
          generalize vals 8 = t_8 at *
          generalize vals 9 = t_9 at *
          generalize vals 10 = t_10 at *
          generalize vals 11 = t_11 at *
          generalize vals 12 = t_12 at *
          generalize vals 13 = t_13 at *
          generalize vals 14 = t_14 at *
          generalize vals 15 = t_15 at *
          generalize vals 16 = t_16 at *
          generalize vals 17 = t_17 at *
          go_wp2
          go_ret
          exact ⟨rfl, HF.out⟩
      · have hd1 : decide ((200 : Int) < (n : Int)) = true := by simp; omega
        have hd2 : decide (200 < n) = true := by simp; omega
        clear HS HV1 HV2 HC4
        go_wp2_with fail
        refine wp_region_looseS 52 (by kernel_rfl) (by kernel_rfl) (StB wr.drew (fun vI => [.slice A1 n cap1, .int .i64 n, .bool true, .bool true, undef, undef, undef, undef, undef, undef, undef, undef, undef, .bool true, .bool true, .bool true, .bool true, .bool true].getD vI undef)) rfl StB.start ?_ ?_
        · simp only [OblAllS]
          refine ⟨?_, ?_, ?_, ?_, ?_, ?_, ?_, ?_, ?_, ?_, ?_, ?_, ?_, ?_, ?_, ?_, ?_, ?_, trivial⟩
          · intro L wx vals hi hu hcl hC
            have HCx := Lib.hid hC
            clear hC hcl hu hi
            simp only [fillA, if_true, Act.put]
            simp
            go_wp2
            exact ⟨rfl, HCx.out.quiet 0 rfl⟩
          · intro L wx vals hi hu hcl hC
            simp [predL, predE, Region.binds, UpL] at hu
            have e0 : vals 0 = .slice A1 n cap1 := hC.v 0 (by simp [hu])
            have HCx := Lib.hid hC
            clear hC hcl hu hi
            simp only [fillA, if_true, Act.put]
            simp
            simp only [e0]
            clear e0
            go_wp2
            exact ⟨rfl, HCx.out.quiet 1 rfl⟩
          · intro L wx vals hi hu hcl hC
            simp [predL, predE, Region.binds, UpL] at hu
            have e1 : vals 1 = .int .i64 n := hC.v 1 (by simp [hu])
            have HCx := Lib.hid hC
            clear hC hcl hu hi
            simp only [fillA, if_true, Act.put]
            simp
            simp only [e1]
            clear e1
            go_wp2
            exact ⟨rfl, HCx.out.quiet 2 rfl⟩
          · intro L wx vals hi hu hcl hC
            simp [predL, predE, Region.binds, UpL] at hu
            have e2 : vals 2 = .bool true := hC.v 2 (by simp [hu])
            have HCx := Lib.hid hC
            clear hC hcl hu hi
            simp only [fillA, if_true, Act.put]
            simp
            simp only [e2]
            clear e2
            go_wp2
            exact ⟨rfl, HCx.out.quiet 3 rfl⟩
          · intro L wx vals hi hu hcl hC
            simp [predL, predE, Region.binds, UpL] at hu
            have e3 : vals 3 = .bool true := hC.v 3 (by simp [hu])
            have HCx := Lib.hid hC
            clear hC hcl hu hi
            simp only [fillA, if_true, Act.put]
            simp
            simp only [e3]
            clear e3
            go_wp2
            exact ⟨rfl, HCx.out.quiet 4 rfl⟩
          · intro L wx vals hi hu hcl hC
            simp [predL, predE, Region.binds, UpL] at hu
            have e3 : vals 3 = .bool true := hC.v 3 (by simp [hu])
            have HCx := Lib.hid hC
            clear hC hcl hu hi
            simp only [fillA, if_true, Act.put]
            simp
            simp only [e3]
            clear e3
            go_wp2
            exact ⟨rfl, HCx.out.quiet 5 rfl⟩
          · intro L wx vals hi hu hcl hC
            simp [predL, predE, Region.binds, UpL] at hu
            have e3 : vals 3 = .bool true := hC.v 3 (by simp [hu])
            have HCx := Lib.hid hC
            clear hC hcl hu hi
            simp only [fillA, if_true, Act.put]
            simp
            simp only [e3]
            clear e3
            go_wp2
            exact ⟨rfl, HCx.out.quiet 6 rfl⟩
          · intro L wx vals hi hu hcl hC
            simp [predL, predE, Region.binds, UpL] at hu
            have e6 : vals 6 = undef := hC.v 6 (by simp [hu])
            have HCx := Lib.hid hC
            clear hC hcl hu hi
            simp only [fillA, if_true, Act.put]
            simp
            simp only [e6]
            clear e6
            go_wp2
            exact ⟨rfl, HCx.out.quiet 7 rfl⟩
          · intro L wx vals hi hu hcl hC
            simp [predL, predE, Region.binds, UpL] at hu
            have e6 : vals 6 = undef := hC.v 6 (by simp [hu])
            have HCx := Lib.hid hC
            clear hC hcl hu hi
            simp only [fillA, if_true, Act.put]
            simp
            simp only [e6]
            clear e6
            go_wp2
            exact ⟨rfl, HCx.out.quiet 8 rfl⟩
          · intro L wx vals hi hu hcl hC
            simp [predL, predE, Region.binds, UpL] at hu
            have e6 : vals 6 = undef := hC.v 6 (by simp [hu])
            have HCx := Lib.hid hC
            clear hC hcl hu hi
            simp only [fillA, if_true, Act.put]
            simp
            simp only [e6]
            clear e6
            go_wp2
            exact ⟨rfl, HCx.out.quiet 9 rfl⟩
          · intro L wx vals hi hu hcl hC
            simp [predL, predE, Region.binds, UpL] at hu
            have e6 : vals 6 = undef := hC.v 6 (by simp [hu])
            have HCx := Lib.hid hC
            clear hC hcl hu hi
            simp only [fillA, if_true, Act.put]
            simp
            simp only [e6]
            clear e6
            go_wp2
            exact ⟨rfl, HCx.out.quiet 10 rfl⟩
          · intro L wx vals hi hu hcl hC
            simp [predL, predE, Region.binds, UpL] at hu
            have e6 : vals 6 = undef := hC.v 6 (by simp [hu])
            have HCx := Lib.hid hC
            clear hC hcl hu hi
            simp only [fillA, if_true, Act.put]
            simp
            simp only [e6]
            clear e6
            go_wp2
            exact ⟨rfl, HCx.out.quiet 11 rfl⟩
          · intro L wx vals hi hu hcl hC
            simp [predL, predE, Region.binds, UpL] at hu
            have e3 : vals 3 = .bool true := hC.v 3 (by simp [hu])
            have HCx := Lib.hid hC
            clear hC hcl hu hi
            simp only [fillA, if_true, Act.put]
            simp
            simp only [e3]
            clear e3
            go_wp2
            exact ⟨rfl, HCx.out.quiet 12 rfl⟩
          · intro L wx vals hi hu hcl hC
            simp [predL, predE, Region.binds, UpL] at hu
            have e3 : vals 3 = .bool true := hC.v 3 (by simp [hu])
            have HCx := Lib.hid hC
            clear hC hcl hu hi
            simp only [fillA, if_true, Act.put]
            simp
            simp only [e3]
            clear e3
            go_wp2
            exact ⟨rfl, HCx.out.quiet 13 rfl⟩
          · intro L wx vals hi hu hcl hC
            simp [predL, predE, Region.binds, UpL] at hu
            have e13 : vals 13 = .bool true := hC.v 13 (by simp [hu])
            have HCx := Lib.hid hC
            clear hC hcl hu hi
            simp only [fillA, if_true, Act.put]
            simp
            simp only [e13]
            clear e13
            go_wp2
            exact ⟨rfl, HCx.out.quiet 14 rfl⟩
          · intro L wx vals hi hu hcl hC
            simp [predL, predE, Region.binds, UpL] at hu
            have e14 : vals 14 = .bool true := hC.v 14 (by simp [hu])
            have HL := Lib.hid (HAW.out wx hC.b)
            have HCx := Lib.hid hC
            clear hC hcl hu hi
            simp only [fillA, if_true, Act.put]
            simp
            simp only [e14]
            clear e14
            go_wp2_with fail
            (with_reducible refine HL.out.mono ?_); rintro e w9 ⟨rfl, hb⟩
            have HX := Lib.hid (HCx.out.step 15 (x := .bool true) rfl (HCx.out.b.trans (hb.mono HCx.out.b.size)))
            clear hb
            go_wp2
            exact ⟨rfl, HX.out⟩
          · intro L wx vals hi hu hcl hC
            simp [predL, predE, Region.binds, UpL] at hu
            have e14 : vals 14 = .bool true := hC.v 14 (by simp [hu])
            have e15 : vals 15 = .bool true := hC.v 15 (by simp [hu])
            have HCx := Lib.hid hC
            clear hC hcl hu hi
            simp only [fillA, if_true, Act.put]
            simp
            simp only [e14, e15]
            clear e14 e15
            go_wp2
            exact ⟨rfl, HCx.out.quiet 16 rfl⟩
          · intro L wx vals hi hu hcl hC
            simp [predL, predE, Region.binds, UpL] at hu
            have e16 : vals 16 = .bool true := hC.v 16 (by simp [hu])
            have HCx := Lib.hid hC
            clear hC hcl hu hi
            simp only [fillA, if_true, Act.put]
            simp
            simp only [e16]
            clear e16
            go_wp2
            exact ⟨rfl, HCx.out.quiet 17 rfl⟩
        · intro wz vals U hC hall
          have e17 : vals 17 = .bool true := hC.v 17 (hall 17 (by simp))
          have HF := Lib.hid (HBW.out.trans (((Below.refl _ wr).drew.trans hC.b).mono HBW.out.size))
          simp only [fillA, if_true, Act.put]
          simp
          simp only [e17]
          clear hC hall e17 HAW
          generalize vals 0 = t_0 at *
          generalize vals 1 = t_1 at *
          generalize vals 2 = t_2 at *
          generalize vals 3 = t_3 at *
          generalize vals 4 = t_4 at *
          generalize vals 5 = t_5 at *
          generalize vals 6 = t_6 at *
          generalize vals 7 = t_7 at *
          generalize vals 8 = t_8 at *
          generalize vals 9 = t_9 at *
          generalize vals 10 = t_10 at *
          generalize vals 11 = t_11 at *
          generalize vals 12 = t_12 at *
          generalize vals 13 = t_13 at *
          generalize vals 14 = t_14 at *
          generalize vals 15 = t_15 at *
          generalize vals 16 = t_16 at *
          generalize vals 17 = t_17 at *
          go_wp2
          go_ret
          exact ⟨rfl, HF.out⟩
theorem walkSize20p (A : Option Addr) (len cap : Nat) (A1 : Option Addr) (len1 cap1 : Nat) {X : Nat → Int} (p1 b1 t1 : Int) (w : World) (he : Elems w.heap.size A len w) (hn1 : len1 ≤ 9223372036854775807) (hc1 : len1 ≤ cap1) (c1 : Nums w 0 w.heap.size A1 len1 X) :
    Calls Try.prog 3 #[.slice A len cap, .slice A1 len1 cap1, .agg #[.int .i64 p1, .int .i64 b1, .int .i64 t1]] w (Calm (.bool true) w) := by
  have h := walkSize20 A len cap A1 cap1 ((List.range len1).map X) p1 b1 t1 w he (by simpa using hn1) (SlI.nums hc1 c1)
  rw [List.length_map, List.length_range] at h
  exact h
end Go.Proofs.Ytcnpmbgeafkmlaa

