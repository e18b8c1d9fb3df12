/-
  Layer 20: the walk of AggregateBuild. Written by gen_agwalk2.py.
-/
import Derived.Test.YtcnpmbgeafkmlaaAgHelp
import Derived.Test.YtcnpmbgeafkmlaaMp
import Derived.Test.YtcnpmbgeafkmlaaBoxS
namespace Go.Proofs.Ytcnpmbgeafkmlaa
open Go.ChangeShapes Go.WideShapes Go.ChangeAt Go.RowKit
set_option linter.unusedVariables false

section
variable {base B : Nat} {a : Option Addr} {len cap : Nat} {w0 : World} {g Q : Nat} {x : Rt} {k : Nat} {pv : Nat → Value} {w w' : World} {v : Value}
/-- The rate's block, the list last drawn, the choices. -/
def BdL (base B : Nat) (a : Option Addr) (len cap : Nat) (w0 : World) (g Q : Nat) (x : Rt) (v : Value) (w : World) : Prop :=
  ∃ (l : List Int) (q : Nat), l.length ≤ 200 ∧ q ≤ Q ∧ Inv base w0 (Star (LsP csI 1 3 v l) (Star (BoxP g 34 #[.int .i64 x.1, .int .i64 x.2]) (GenP base B a len cap q))) w
def BdC (base B : Nat) (a : Option Addr) (len cap : Nat) (w0 : World) (g Q : Nat) (x : Rt) (w : World) : Prop :=
  ∃ q : Nat, q ≤ Q ∧ Inv base w0 (Star (BoxP g 34 #[.int .i64 x.1, .int .i64 x.2]) (GenP base B a len cap q)) w
def BdE (base B : Nat) (a : Option Addr) (len cap : Nat) (w0 : World) (g Q : Nat) (x : Rt) : Nat → (Nat → Value) → World → Prop
  | 0, _, w => BdC base B a len cap w0 g Q x w
  | 1, pv, w => BdL base B a len cap w0 g (Q + 200) x (pv 0) w
  | 2, pv, w => (∃ y, pv 1 = aggC y) ∧ BdL base B a len cap w0 g (Q + 400) x (pv 0) w
  | 3, pv, w => BdL base B a len cap w0 g (Q + 600) x (pv 2) w
  | 4, pv, w => (∃ y, pv 3 = aggC y) ∧ BdL base B a len cap w0 g (Q + 800) x (pv 2) w
  | _, _, _ => False
theorem BdL.core (h : BdL base B a len cap w0 g Q x v w) : BdC base B a len cap w0 g Q x w := by
  obtain ⟨l, q, _, h1, h2⟩ := h; exact ⟨q, h1, h2.drop⟩
theorem BdC.up (h : BdC base B a len cap w0 g Q x w) {Q' : Nat} (hq : Q ≤ Q') : BdC base B a len cap w0 g Q' x w := by
  obtain ⟨q, h1, h2⟩ := h; exact ⟨q, by omega, h2⟩
theorem BdE.core (h : BdE base B a len cap w0 g Q x k pv w) : BdC base B a len cap w0 g (Q + 800) x w := by
  match k, h with
  | 0, h => exact BdC.up h (by omega)
  | 1, h => exact BdC.up (BdL.core h) (by omega)
  | 2, h => exact BdC.up (BdL.core h.2) (by omega)
  | 3, h => exact BdC.up (BdL.core h) (by omega)
  | 4, h => exact BdL.core h.2
theorem BdL.later (h : BdL base B a len cap w0 g Q x v w) (hb : Below w.heap.size w w') : BdL base B a len cap w0 g Q x v w' := by
  obtain ⟨l, q, h0, h1, h2⟩ := h; exact ⟨l, q, h0, h1, h2.step (LsP.frm.star (BoxP.frm.star GenP.frm)) hb⟩
theorem BdE.later (h : BdE base B a len cap w0 g Q x k pv w) (hb : Below w.heap.size w w') : BdE base B a len cap w0 g Q x k pv w' := by
  match k, h with
  | 0, h => obtain ⟨q, h1, h2⟩ := h; exact ⟨q, h1, h2.step (BoxP.frm.star GenP.frm) hb⟩
  | 1, h => exact BdL.later h hb
  | 2, h => exact ⟨h.1, BdL.later h.2 hb⟩
  | 3, h => exact BdL.later h hb
  | 4, h => exact ⟨h.1, BdL.later h.2 hb⟩
theorem BdE.ld (h : BdE base B a len cap w0 g Q x k pv w) : w.cell? ⟨g, 0, none⟩ = some (.int .i64 x.1) ∧ w.cell? ⟨g, 1, none⟩ = some (.int .i64 x.2) := by
  obtain ⟨q, _, h2⟩ := h.core
  have hb := h2.boxed
  exact ⟨(hb.read 0).trans rfl, (hb.read 1).trans rfl⟩
theorem BdE.calm {f : FuncId} {args : Array Value} {v : Value} (h : BdE base B a len cap w0 g Q x k pv w) (hc : Calls Try.prog f args w (AiB v w)) : Calls Try.prog f args w fun e w' => e = .returned v ∧ BdE base B a len cap w0 g Q x k pv w' :=
  hc.mono fun e w' ⟨h1, h2⟩ => ⟨h1, h.later h2⟩
theorem BdC.lens (h : BdC base B a len cap w0 g Q x w) {n : Nat} (hn : n ≤ 150) (hQ : Q ≤ 1000000) : Calls Try.prog 10 #[.pointer (some ⟨B, 0, none⟩), .int .i64 n] w fun e w' => ∃ y, e = .returned y ∧ BdL base B a len cap w0 g (Q + 200) x y w' := by
  obtain ⟨q, hq, h2⟩ := h
  refine (h2.call (Acts.right BoxP.frm (llen_any (n := n) (by omega) (by omega)))).mono ?_
  rintro e w' ⟨⟨⟨v, l, q'⟩, g1, g2⟩, e1, h3⟩
  simp only at g1 g2 h3
  exact ⟨v, e1, l, q', by omega, by omega, h3.imp fun T => Star.pick2⟩
theorem BdL.caps (h : BdL base B a len cap w0 g Q x v w) (hQ : Q ≤ 1000000) : Calls Try.prog 8 #[.pointer (some ⟨B, 0, none⟩)] w fun e w' => ∃ y, e = .returned (aggC y) ∧ BdL base B a len cap w0 g (Q + 200) x v w' := by
  obtain ⟨l, q, h0, hq, h2⟩ := h
  refine (h2.call (Acts.right LsP.frm (Acts.right BoxP.frm (GenP.lcaps (by omega))))).mono ?_
  rintro e w' ⟨⟨⟨y, q'⟩, g1, g2⟩, e1, h3⟩
  exact ⟨y, e1, l, q', h0, by simp only at g2; omega, h3⟩
theorem BdL.builds (h : BdL base B a len cap w0 g Q x v w) {u : Value} (hu : ∃ y, u = aggC y) : Calls Try.prog 16 #[v, u, .agg #[.int .i64 x.1, .int .i64 x.2]] w (AiB (.bool true) w) := by
  obtain ⟨l, q, h0, hq, h2⟩ := h
  obtain ⟨y, rfl⟩ := hu
  obtain ⟨A, c, e1, hs⟩ := SlI.of (LsP.any h2)
  rw [e1]
  exact builds_any hs (by omega) _ _ _ _ _
end
set_option maxRecDepth 100000 in
set_option maxHeartbeats 16000000 in
theorem walkBuild20 (A : Option Addr) (len cap : Nat) (A1 : Option Addr) (cap1 : Nat) (L1 : List Int) (p1 b1 t1 k1 o1 : Int) (w : World) (he : Elems w.heap.size A len w) (hn1 : L1.length ≤ 9223372036854775807) (hs1 : SlI A1 cap1 L1 w) :
    Calls Try.prog 4 #[.slice A len cap, .slice A1 L1.length cap1, .agg #[.int .i64 p1, .int .i64 b1, .int .i64 t1], .agg #[.int .i64 k1, .int .i64 o1]] w (Calm (.bool true) w) := by
  obtain ⟨wq, hwq, hx⟩ := Bx2.all w p1 b1 t1 k1 o1
  have hbq := (hx wq (Below.refl _ _)).bel
  have he2 : Elems wq.heap.size A len wq := by
    have h := he.kept hbq
    refine ⟨h.1, fun i hi => ?_⟩
    obtain ⟨b, off, z, e1, e2, e3⟩ := h.2 i hi
    exact ⟨b, off, z, e1, by have := hbq.size; omega, e3⟩
  have h0 := Lib.hid (GenP.new (w0 := wq) (cap := cap) he2 (Below.refl _ _) he2)
  have HXX := Lib.hid hx
  have HS1_ := Lib.hid (fun (W : World) (hw : Below w.heap.size w W) (h200 : L1.length ≤ 200) (x y z u v : Int) => builds_any (hs1.later hw) (by omega) x y z u v)
  obtain ⟨n, hn⟩ : ∃ n, L1.length = n := ⟨_, rfl⟩
  rw [hn] at HS1_ hn1 ⊢
  clear he he2 hbq hs1 hn hx
  unfold Calm
  go_enter Try.func4, Try.ntmps4
  go_wp2_with fail
  (with_reducible refine (new_any A len cap _).mono ?_); rintro e w' ⟨rfl, rfl⟩
  go_wp2_with fail
  go_loopw [10] (fun i wr => ∃ j q : Nat, j ≤ 5 ∧ i = .int .i64 j ∧ q ≤ 1000 * j ∧ Hid (Inv wq.heap.size wq (GenP wq.heap.size wq.heap.size A len cap q) wr)) (fun i _ => 5 - (intOf i).toNat)
  case atStart => exact ⟨0, 0, by omega, rfl, by omega, h0⟩
  case round =>
    obtain ⟨j, q, hj, rfl, hq, HJ⟩ := hrel
    clear h0
    by_cases hlt : j < 5
    · have hlt' : (j : Int) < 5 := by omega
      have HX := Lib.hid (HJ.out.call (GenP.grate (by omega)))
      clear HJ HXX HS1_
      go_wp2_with fail
      (with_reducible refine HX.out.mono ?_); rintro e w2 ⟨⟨⟨k, o⟩, hko⟩, rfl, h1⟩
      have h2 := h1.box GenP.frm 34 #[.int .i64 k, .int .i64 o]
      obtain ⟨g, hg⟩ : ∃ g, w2.heap.size = g := ⟨_, rfl⟩
      rw [hg] at h2
      have HX2 := Lib.hid (h2.call (Acts.right BoxP.frm (GenP.next (n := 9) (by omega) (by omega) (by omega))))
      clear h1 h2 HX
      go_wp2_with fail
      (with_reducible refine HX2.out.mono ?_); rintro e w3 ⟨⟨r, r0, r1⟩, rfl, h3⟩
      clear HX2
      by_cases hr : r = 0
      · subst hr
        have hbx := Inv.boxed h3
        have d0 := (hbx.read 0).trans rfl
        have z0 := hbx.free 0
        have h4 := h3.boxPut GenP.frm 0 (.int .i64 0)
        have HI := Lib.hid (show Inv wq.heap.size wq (Star (BoxP g 34 #[.int .i64 0, .int .i64 o]) (GenP wq.heap.size wq.heap.size A len cap (q + 1 + 1))) (w3.setCell ⟨g, 0, none⟩ (.int .i64 0)) from h4)
        clear h3 h4 hbx
        go_wp2_with fail
        obtain ⟨wo, hwo⟩ : ∃ wo, w3.setCell ⟨g, 0, none⟩ (.int .i64 0) = wo := ⟨_, rfl⟩
        rw [hwo] at HI ⊢
        clear d0 z0
        have HE0 := Lib.hid (show BdE wq.heap.size wq.heap.size A len cap wq g (q + 2) (0, o) 0 (fun _ => undef) wo.drew from BdE.later (pv := fun _ => undef) (k := 0) ⟨q + 1 + 1, by omega, HI.out⟩ (Below.refl _ _).drew)
        obtain ⟨Q, hQ⟩ : ∃ Q, q + 2 = Q := ⟨_, rfl⟩
        rw [hQ] at HE0
        have hQ2 : Q ≤ 1000 * j + 2 := by omega
        clear HI hQ
        have HL1 := Lib.hid (fun pv W (h : BdE wq.heap.size wq.heap.size A len cap wq g Q (0, o) 0 pv W) => (show Calls Try.prog 10 #[.pointer (some ⟨wq.heap.size, 0, none⟩), .int .i64 8] W fun e w' => ∃ y, e = .returned y ∧ ∀ pv', pv' 0 = y → (∀ j, j ≠ 0 → pv' j = pv j) → BdE wq.heap.size wq.heap.size A len cap wq g Q (0, o) 1 pv' w' from (BdC.lens h (n := 8) (by omega) (by omega)).mono fun e w' ⟨y, e1, h2⟩ => ⟨y, e1, fun pv' hp _ => by show BdL _ _ _ _ _ _ _ _ _ (pv' 0) _; rw [hp]; exact h2⟩))
        have HC1 := Lib.hid (fun pv W (h : BdE wq.heap.size wq.heap.size A len cap wq g Q (0, o) 1 pv W) => (show Calls Try.prog 8 #[.pointer (some ⟨wq.heap.size, 0, none⟩)] W fun e w' => ∃ y, e = .returned y ∧ ∀ pv', pv' 1 = y → (∀ j, j ≠ 1 → pv' j = pv j) → BdE wq.heap.size wq.heap.size A len cap wq g Q (0, o) 2 pv' w' from (BdL.caps h (by omega)).mono fun e w' ⟨y, e1, h2⟩ => ⟨_, e1, fun pv' hp ho => ⟨⟨y, hp⟩, by rw [ho 0 (by decide)]; exact h2⟩⟩))
        have HS1 := Lib.hid (fun pv W (h : BdE wq.heap.size wq.heap.size A len cap wq g Q (0, o) 2 pv W) => h.calm (BdL.builds h.2 h.1))
        have HL2 := Lib.hid (fun pv W (h : BdE wq.heap.size wq.heap.size A len cap wq g Q (0, o) 2 pv W) => (show Calls Try.prog 10 #[.pointer (some ⟨wq.heap.size, 0, none⟩), .int .i64 140] W fun e w' => ∃ y, e = .returned y ∧ ∀ pv', pv' 2 = y → (∀ j, j ≠ 2 → pv' j = pv j) → BdE wq.heap.size wq.heap.size A len cap wq g Q (0, o) 3 pv' w' from (BdC.lens (BdL.core h.2) (n := 140) (by omega) (by omega)).mono fun e w' ⟨y, e1, h2⟩ => ⟨y, e1, fun pv' hp _ => by show BdL _ _ _ _ _ _ _ _ _ (pv' 2) _; rw [hp]; exact h2⟩))
        have HC2 := Lib.hid (fun pv W (h : BdE wq.heap.size wq.heap.size A len cap wq g Q (0, o) 3 pv W) => (show Calls Try.prog 8 #[.pointer (some ⟨wq.heap.size, 0, none⟩)] W fun e w' => ∃ y, e = .returned y ∧ ∀ pv', pv' 3 = y → (∀ j, j ≠ 3 → pv' j = pv j) → BdE wq.heap.size wq.heap.size A len cap wq g Q (0, o) 4 pv' w' from (BdL.caps h (by omega)).mono fun e w' ⟨y, e1, h2⟩ => ⟨_, e1, fun pv' hp ho => ⟨⟨y, hp⟩, by rw [ho 2 (by decide)]; exact h2⟩⟩))
        have HS2 := Lib.hid (fun pv W (h : BdE wq.heap.size wq.heap.size A len cap wq g Q (0, o) 4 pv W) => h.calm (BdL.builds h.2 h.1))
        have HLD := Lib.hid (fun k_ pv W (h : BdE wq.heap.size wq.heap.size A len cap wq g Q (0, o) k_ pv W) => h.ld)
        refine wp_region_looseS 60 (by kernel_rfl) (by kernel_rfl) (MpC [1, 3, 9, 11] (BdE wq.heap.size wq.heap.size A len cap wq g Q (0, o)) (fun vI v => match vI with | 0 => v = .pointer (some ⟨wq.heap.size, 0, none⟩) | 2 => v = .pointer (some ⟨wq.heap.size, 0, none⟩) | 4 => v = .agg #[.int .i64 0, .int .i64 o] | 5 => v = .bool true | 6 => v = .bool false | 7 => v = .bool false | 8 => v = .pointer (some ⟨wq.heap.size, 0, none⟩) | 10 => v = .pointer (some ⟨wq.heap.size, 0, none⟩) | 12 => v = .agg #[.int .i64 0, .int .i64 o] | 13 => v = .bool true | 14 => v = .bool false | 15 => v = .bool false | _ => True)) rfl (MpC.start HE0.out) ?_ ?_
        · simp only [OblAllS]
          refine ⟨?_, ?_, ?_, ?_, ?_, ?_, ?_, ?_, ?_, ?_, ?_, ?_, ?_, ?_, ?_, ?_, trivial⟩
          · intro L wx vals hi hu hcl hC
            have HCx := Lib.hid hC
            clear hC hcl hu hi
            simp only [fillA, if_true, Act.put]
            simp
            go_wp2
            exact ⟨rfl, HCx.out.quiet (i := 0) (by decide) (by decide) rfl⟩
          · intro L wx vals hi hu hcl hC
            simp [ClosedL, UpL, predL, predE, Region.binds] at hcl
            simp [predL, predE, Region.binds, UpL] at hu
            have e0 : vals 0 = .pointer (some ⟨wq.heap.size, 0, none⟩) := hC.v 0 (by simp [hu]) (by decide)
            have kp0 : L 1 = false := hi
            have kp1 : L 3 = false := by clear hC; cases h : L 3 with | false => rfl | true => exfalso; first | (simp_all; done) | grind
            have kp2 : L 9 = false := by clear hC; cases h : L 9 with | false => rfl | true => exfalso; first | (simp_all; done) | grind
            have kp3 : L 11 = false := by clear hC; cases h : L 11 with | false => rfl | true => exfalso; first | (simp_all; done) | grind
            have hcnt : cntP [1, 3, 9, 11] L = 0 := by show (if L 1 = true then 1 else 0) + ((if L 3 = true then 1 else 0) + ((if L 9 = true then 1 else 0) + ((if L 11 = true then 1 else 0) + 0))) = 0; rw [kp0, kp1, kp2, kp3]; rfl
            have hE := hC.e
            rw [hcnt] at hE
            have hl9 := HL1.out _ _ hE
            have HL := Lib.hid hl9
            have HCN := Lib.hid hcnt
            have HLF := Lib.hid hi
            clear hE hl9 hcnt kp0 kp1 kp2 kp3
            have HCx := Lib.hid hC
            clear hC hcl hu hi
            simp only [fillA, if_true, Act.put]
            simp
            simp only [e0]
            clear e0
            go_wp2_with fail
            (with_reducible refine HL.out.mono ?_); rintro e w9 ⟨x9, rfl, hE9⟩
            have HX := Lib.hid (HCx.out.turn (k := 0) (i := 1) (x := x9) rfl (by decide) (by decide) HLF.out HCN.out hE9)
            clear hE9
            go_wp2
            exact ⟨rfl, HX.out⟩
          · intro L wx vals hi hu hcl hC
            have HCx := Lib.hid hC
            clear hC hcl hu hi
            simp only [fillA, if_true, Act.put]
            simp
            go_wp2
            exact ⟨rfl, HCx.out.quiet (i := 2) (by decide) (by decide) rfl⟩
          · intro L wx vals hi hu hcl hC
            simp [ClosedL, UpL, predL, predE, Region.binds] at hcl
            simp [predL, predE, Region.binds, UpL] at hu
            have e2 : vals 2 = .pointer (some ⟨wq.heap.size, 0, none⟩) := hC.v 2 (by simp [hu]) (by decide)
            have kp0 : L 1 = true := by clear hC; first | exact hu | (simp_all; done) | grind
            have kp1 : L 3 = false := hi
            have kp2 : L 9 = false := by clear hC; cases h : L 9 with | false => rfl | true => exfalso; first | (simp_all; done) | grind
            have kp3 : L 11 = false := by clear hC; cases h : L 11 with | false => rfl | true => exfalso; first | (simp_all; done) | grind
            have hcnt : cntP [1, 3, 9, 11] L = 1 := by show (if L 1 = true then 1 else 0) + ((if L 3 = true then 1 else 0) + ((if L 9 = true then 1 else 0) + ((if L 11 = true then 1 else 0) + 0))) = 1; rw [kp0, kp1, kp2, kp3]; rfl
            have hE := hC.e
            rw [hcnt] at hE
            have hl9 := HC1.out _ _ hE
            try rw [pvP0] at hl9
            have HL := Lib.hid hl9
            have HCN := Lib.hid hcnt
            have HLF := Lib.hid hi
            clear hE hl9 hcnt kp0 kp1 kp2 kp3
            have HCx := Lib.hid hC
            clear hC hcl hu hi
            simp only [fillA, if_true, Act.put]
            simp
            simp only [e2]
            clear e2
            go_wp2_with fail
            (with_reducible refine HL.out.mono ?_); rintro e w9 ⟨x9, rfl, hE9⟩
            have HX := Lib.hid (HCx.out.turn (k := 1) (i := 3) (x := x9) rfl (by decide) (by decide) HLF.out HCN.out hE9)
            clear hE9
            go_wp2
            exact ⟨rfl, HX.out⟩
          · intro L wx vals hi hu hcl hC
            have ⟨h0, h1⟩ := HLD.out _ _ _ hC.e
            have HCx := Lib.hid hC
            clear hC hcl hu hi
            simp only [fillA, if_true, Act.put]
            simp
            go_wp2
            exact ⟨rfl, HCx.out.quiet (i := 4) (by decide) (by decide) rfl⟩
          · intro L wx vals hi hu hcl hC
            simp [ClosedL, UpL, predL, predE, Region.binds] at hcl
            simp [predL, predE, Region.binds, UpL] at hu
            have e4 : vals 4 = .agg #[.int .i64 0, .int .i64 o] := hC.v 4 (by simp [hu]) (by decide)
            have kp0 : L 1 = true := by clear hC; first | exact hu | (simp_all; done) | grind
            have kp1 : L 3 = true := by clear hC; first | exact hu | (simp_all; done) | grind
            have kp2 : L 9 = false := by clear hC; cases h : L 9 with | false => rfl | true => exfalso; first | (simp_all; done) | grind
            have kp3 : L 11 = false := by clear hC; cases h : L 11 with | false => rfl | true => exfalso; first | (simp_all; done) | grind
            have hcnt : cntP [1, 3, 9, 11] L = 2 := by show (if L 1 = true then 1 else 0) + ((if L 3 = true then 1 else 0) + ((if L 9 = true then 1 else 0) + ((if L 11 = true then 1 else 0) + 0))) = 2; rw [kp0, kp1, kp2, kp3]; rfl
            have hE := hC.e
            rw [hcnt] at hE
            have hl9 := HS1.out _ _ hE
            try rw [pvP0] at hl9
            try rw [pvP1] at hl9
            have HL := Lib.hid hl9
            have HCN := Lib.hid hcnt
            have HLF := Lib.hid hi
            clear hE hl9 hcnt kp0 kp1 kp2 kp3
            have HCx := Lib.hid hC
            clear hC hcl hu hi
            simp only [fillA, if_true, Act.put]
            simp
            simp only [e4]
            clear e4
            go_wp2_with fail
            (with_reducible refine HL.out.mono ?_); rintro e w9 ⟨rfl, hE9⟩
            have HX := Lib.hid (HCx.out.step (i := 5) (x := .bool true) (by decide) (by decide) rfl (by rw [HCN.out]; exact hE9))
            clear hE9
            go_wp2
            exact ⟨rfl, HX.out⟩
          · intro L wx vals hi hu hcl hC
            simp [predL, predE, Region.binds, UpL] at hu
            have e5 : vals 5 = .bool true := hC.v 5 (by simp [hu]) (by decide)
            have HCx := Lib.hid hC
            clear hC hcl hu hi
            simp only [fillA, if_true, Act.put]
            simp
            simp only [e5]
            clear e5
            go_wp2
            exact ⟨rfl, HCx.out.quiet (i := 6) (by decide) (by decide) rfl⟩
          · intro L wx vals hi hu hcl hC
            simp [predL, predE, Region.binds, UpL] at hu
            have e6 : vals 6 = .bool false := hC.v 6 (by simp [hu]) (by decide)
            have HCx := Lib.hid hC
            clear hC hcl hu hi
            simp only [fillA, if_true, Act.put]
            simp
            simp only [e6]
            clear e6
            go_wp2
            exact ⟨rfl, HCx.out.quiet (i := 7) (by decide) (by decide) rfl⟩
          · intro L wx vals hi hu hcl hC
            simp [predL, predE, Region.binds, UpL] at hu
            have e7 : vals 7 = .bool false := hC.v 7 (by simp [hu]) (by decide)
            have HCx := Lib.hid hC
            clear hC hcl hu hi
            simp only [fillA, if_true, Act.put]
            simp
            simp only [e7]
            clear e7
            go_wp2
            exact ⟨rfl, HCx.out.quiet (i := 8) (by decide) (by decide) rfl⟩
          · intro L wx vals hi hu hcl hC
            simp [ClosedL, UpL, predL, predE, Region.binds] at hcl
            simp [predL, predE, Region.binds, UpL] at hu
            have e7 : vals 7 = .bool false := hC.v 7 (by simp [hu]) (by decide)
            have e8 : vals 8 = .pointer (some ⟨wq.heap.size, 0, none⟩) := hC.v 8 (by simp [hu]) (by decide)
            have kp0 : L 1 = true := by clear hC; first | exact hu | (simp_all; done) | grind
            have kp1 : L 3 = true := by clear hC; first | exact hu | (simp_all; done) | grind
            have kp2 : L 9 = false := hi
            have kp3 : L 11 = false := by clear hC; cases h : L 11 with | false => rfl | true => exfalso; first | (simp_all; done) | grind
            have hcnt : cntP [1, 3, 9, 11] L = 2 := by show (if L 1 = true then 1 else 0) + ((if L 3 = true then 1 else 0) + ((if L 9 = true then 1 else 0) + ((if L 11 = true then 1 else 0) + 0))) = 2; rw [kp0, kp1, kp2, kp3]; rfl
            have hE := hC.e
            rw [hcnt] at hE
            have hl9 := HL2.out _ _ hE
            try rw [pvP0] at hl9
            try rw [pvP1] at hl9
            have HL := Lib.hid hl9
            have HCN := Lib.hid hcnt
            have HLF := Lib.hid hi
            clear hE hl9 hcnt kp0 kp1 kp2 kp3
            have HCx := Lib.hid hC
            clear hC hcl hu hi
            simp only [fillA, if_true, Act.put]
            simp
            simp only [e7, e8]
            clear e7 e8
            go_wp2_with fail
            (with_reducible refine HL.out.mono ?_); rintro e w9 ⟨x9, rfl, hE9⟩
            have HX := Lib.hid (HCx.out.turn (k := 2) (i := 9) (x := x9) rfl (by decide) (by decide) HLF.out HCN.out hE9)
            clear hE9
            go_wp2
            exact ⟨rfl, HX.out⟩
          · intro L wx vals hi hu hcl hC
            simp [predL, predE, Region.binds, UpL] at hu
            have e7 : vals 7 = .bool false := hC.v 7 (by simp [hu]) (by decide)
            have HCx := Lib.hid hC
            clear hC hcl hu hi
            simp only [fillA, if_true, Act.put]
            simp
            simp only [e7]
            clear e7
            go_wp2
            exact ⟨rfl, HCx.out.quiet (i := 10) (by decide) (by decide) rfl⟩
          · intro L wx vals hi hu hcl hC
            simp [ClosedL, UpL, predL, predE, Region.binds] at hcl
            simp [predL, predE, Region.binds, UpL] at hu
            have e7 : vals 7 = .bool false := hC.v 7 (by simp [hu]) (by decide)
            have e10 : vals 10 = .pointer (some ⟨wq.heap.size, 0, none⟩) := hC.v 10 (by simp [hu]) (by decide)
            have kp0 : L 1 = true := by clear hC; first | exact hu | (simp_all; done) | grind
            have kp1 : L 3 = true := by clear hC; first | exact hu | (simp_all; done) | grind
            have kp2 : L 9 = true := by clear hC; first | exact hu | (simp_all; done) | grind
            have kp3 : L 11 = false := hi
            have hcnt : cntP [1, 3, 9, 11] L = 3 := by show (if L 1 = true then 1 else 0) + ((if L 3 = true then 1 else 0) + ((if L 9 = true then 1 else 0) + ((if L 11 = true then 1 else 0) + 0))) = 3; rw [kp0, kp1, kp2, kp3]; rfl
            have hE := hC.e
            rw [hcnt] at hE
            have hl9 := HC2.out _ _ hE
            try rw [pvP0] at hl9
            try rw [pvP1] at hl9
            try rw [pvP2] at hl9
            have HL := Lib.hid hl9
            have HCN := Lib.hid hcnt
            have HLF := Lib.hid hi
            clear hE hl9 hcnt kp0 kp1 kp2 kp3
            have HCx := Lib.hid hC
            clear hC hcl hu hi
            simp only [fillA, if_true, Act.put]
            simp
            simp only [e7, e10]
            clear e7 e10
            go_wp2_with fail
            (with_reducible refine HL.out.mono ?_); rintro e w9 ⟨x9, rfl, hE9⟩
            have HX := Lib.hid (HCx.out.turn (k := 3) (i := 11) (x := x9) rfl (by decide) (by decide) HLF.out HCN.out hE9)
            clear hE9
            go_wp2
            exact ⟨rfl, HX.out⟩
          · intro L wx vals hi hu hcl hC
            simp [predL, predE, Region.binds, UpL] at hu
            have e7 : vals 7 = .bool false := hC.v 7 (by simp [hu]) (by decide)
            have ⟨h0, h1⟩ := HLD.out _ _ _ hC.e
            have HCx := Lib.hid hC
            clear hC hcl hu hi
            simp only [fillA, if_true, Act.put]
            simp
            simp only [e7]
            clear e7
            go_wp2
            exact ⟨rfl, HCx.out.quiet (i := 12) (by decide) (by decide) rfl⟩
          · intro L wx vals hi hu hcl hC
            simp [ClosedL, UpL, predL, predE, Region.binds] at hcl
            simp [predL, predE, Region.binds, UpL] at hu
            have e7 : vals 7 = .bool false := hC.v 7 (by simp [hu]) (by decide)
            have e12 : vals 12 = .agg #[.int .i64 0, .int .i64 o] := hC.v 12 (by simp [hu]) (by decide)
            have kp0 : L 1 = true := by clear hC; first | exact hu | (simp_all; done) | grind
            have kp1 : L 3 = true := by clear hC; first | exact hu | (simp_all; done) | grind
            have kp2 : L 9 = true := by clear hC; first | exact hu | (simp_all; done) | grind
            have kp3 : L 11 = true := by clear hC; first | exact hu | (simp_all; done) | grind
            have hcnt : cntP [1, 3, 9, 11] L = 4 := by show (if L 1 = true then 1 else 0) + ((if L 3 = true then 1 else 0) + ((if L 9 = true then 1 else 0) + ((if L 11 = true then 1 else 0) + 0))) = 4; rw [kp0, kp1, kp2, kp3]; rfl
            have hE := hC.e
            rw [hcnt] at hE
            have hl9 := HS2.out _ _ hE
            try rw [pvP0] at hl9
            try rw [pvP1] at hl9
            try rw [pvP2] at hl9
            try rw [pvP3] at hl9
            have HL := Lib.hid hl9
            have HCN := Lib.hid hcnt
            have HLF := Lib.hid hi
            clear hE hl9 hcnt kp0 kp1 kp2 kp3
            have HCx := Lib.hid hC
            clear hC hcl hu hi
            simp only [fillA, if_true, Act.put]
            simp
            simp only [e7, e12]
            clear e7 e12
            go_wp2_with fail
            (with_reducible refine HL.out.mono ?_); rintro e w9 ⟨rfl, hE9⟩
            have HX := Lib.hid (HCx.out.step (i := 13) (x := .bool true) (by decide) (by decide) rfl (by rw [HCN.out]; exact hE9))
            clear hE9
            go_wp2
            exact ⟨rfl, HX.out⟩
          · intro L wx vals hi hu hcl hC
            simp [predL, predE, Region.binds, UpL] at hu
            have e7 : vals 7 = .bool false := hC.v 7 (by simp [hu]) (by decide)
            have e13 : vals 13 = .bool true := hC.v 13 (by simp [hu]) (by decide)
            have HCx := Lib.hid hC
            clear hC hcl hu hi
            simp only [fillA, if_true, Act.put]
            simp
            simp only [e7, e13]
            clear e7 e13
            go_wp2
            exact ⟨rfl, HCx.out.quiet (i := 14) (by decide) (by decide) rfl⟩
          · intro L wx vals hi hu hcl hC
            simp [predL, predE, Region.binds, UpL] at hu
            have e7 : vals 7 = .bool false := hC.v 7 (by simp [hu]) (by decide)
            have e14 : vals 14 = .bool false := hC.v 14 (by simp [hu]) (by decide)
            have HCx := Lib.hid hC
            clear hC hcl hu hi
            simp only [fillA, if_true, Act.put]
            simp
            simp only [e7, e14]
            clear e7 e14
            go_wp2
            exact ⟨rfl, HCx.out.quiet (i := 15) (by decide) (by decide) rfl⟩
        · intro wz vals U hC hall
          have e15 : vals 15 = .bool false := hC.v 15 (hall 15 (by simp)) (by decide)
          obtain ⟨q2, hq2, h3⟩ := BdE.core hC.e
          have HZ := Lib.hid h3.drop
          simp only [fillA, if_true, Act.put]
          simp
          simp only [e15]
          clear hC hall e15 h3 HL1 HL2 HS1 HS2 HC1 HC2 HLD
          generalize vals 0 = t_0 at *
          generalize vals 1 = t_1 at *
          generalize vals 2 = t_2 at *
          generalize vals 3 = t_3 at *
          generalize vals 4 = t_4 at *
          generalize vals 5 = t_5 at *
          generalize vals 6 = t_6 at *
          generalize vals 7 = t_7 at *
          generalize vals 8 = t_8 at *
          generalize vals 9 = t_9 at *
          generalize vals 10 = t_10 at *
          generalize vals 11 = t_11 at *
          generalize vals 12 = t_12 at *
          generalize vals 13 = t_13 at *
          generalize vals 14 = t_14 at *
          generalize vals 15 = t_15 at *
          go_wp2
          go_roundw
          case rel => exact ⟨j + 1, q2, by omega, by go_num, by omega, HZ⟩
          case measure => simp [intOf]; omega
      · have hrz : (r == 0) = false := by simpa using hr
        have HI := Lib.hid h3
        clear h3
        obtain ⟨wo, hwo⟩ : ∃ wo, w3 = wo := ⟨_, rfl⟩
        subst hwo
        go_wp2_with fail
        have HE0 := Lib.hid (show BdE wq.heap.size wq.heap.size A len cap wq g (q + 2) (k, o) 0 (fun _ => undef) w3.drew from BdE.later (pv := fun _ => undef) (k := 0) ⟨q + 1 + 1, by omega, HI.out⟩ (Below.refl _ _).drew)
        obtain ⟨Q, hQ⟩ : ∃ Q, q + 2 = Q := ⟨_, rfl⟩
        rw [hQ] at HE0
        have hQ2 : Q ≤ 1000 * j + 2 := by omega
        clear HI hQ
        have HL1 := Lib.hid (fun pv W (h : BdE wq.heap.size wq.heap.size A len cap wq g Q (k, o) 0 pv W) => (show Calls Try.prog 10 #[.pointer (some ⟨wq.heap.size, 0, none⟩), .int .i64 8] W fun e w' => ∃ y, e = .returned y ∧ ∀ pv', pv' 0 = y → (∀ j, j ≠ 0 → pv' j = pv j) → BdE wq.heap.size wq.heap.size A len cap wq g Q (k, o) 1 pv' w' from (BdC.lens h (n := 8) (by omega) (by omega)).mono fun e w' ⟨y, e1, h2⟩ => ⟨y, e1, fun pv' hp _ => by show BdL _ _ _ _ _ _ _ _ _ (pv' 0) _; rw [hp]; exact h2⟩))
        have HC1 := Lib.hid (fun pv W (h : BdE wq.heap.size wq.heap.size A len cap wq g Q (k, o) 1 pv W) => (show Calls Try.prog 8 #[.pointer (some ⟨wq.heap.size, 0, none⟩)] W fun e w' => ∃ y, e = .returned y ∧ ∀ pv', pv' 1 = y → (∀ j, j ≠ 1 → pv' j = pv j) → BdE wq.heap.size wq.heap.size A len cap wq g Q (k, o) 2 pv' w' from (BdL.caps h (by omega)).mono fun e w' ⟨y, e1, h2⟩ => ⟨_, e1, fun pv' hp ho => ⟨⟨y, hp⟩, by rw [ho 0 (by decide)]; exact h2⟩⟩))
        have HS1 := Lib.hid (fun pv W (h : BdE wq.heap.size wq.heap.size A len cap wq g Q (k, o) 2 pv W) => h.calm (BdL.builds h.2 h.1))
        have HL2 := Lib.hid (fun pv W (h : BdE wq.heap.size wq.heap.size A len cap wq g Q (k, o) 2 pv W) => (show Calls Try.prog 10 #[.pointer (some ⟨wq.heap.size, 0, none⟩), .int .i64 140] W fun e w' => ∃ y, e = .returned y ∧ ∀ pv', pv' 2 = y → (∀ j, j ≠ 2 → pv' j = pv j) → BdE wq.heap.size wq.heap.size A len cap wq g Q (k, o) 3 pv' w' from (BdC.lens (BdL.core h.2) (n := 140) (by omega) (by omega)).mono fun e w' ⟨y, e1, h2⟩ => ⟨y, e1, fun pv' hp _ => by show BdL _ _ _ _ _ _ _ _ _ (pv' 2) _; rw [hp]; exact h2⟩))
        have HC2 := Lib.hid (fun pv W (h : BdE wq.heap.size wq.heap.size A len cap wq g Q (k, o) 3 pv W) => (show Calls Try.prog 8 #[.pointer (some ⟨wq.heap.size, 0, none⟩)] W fun e w' => ∃ y, e = .returned y ∧ ∀ pv', pv' 3 = y → (∀ j, j ≠ 3 → pv' j = pv j) → BdE wq.heap.size wq.heap.size A len cap wq g Q (k, o) 4 pv' w' from (BdL.caps h (by omega)).mono fun e w' ⟨y, e1, h2⟩ => ⟨_, e1, fun pv' hp ho => ⟨⟨y, hp⟩, by rw [ho 2 (by decide)]; exact h2⟩⟩))
        have HS2 := Lib.hid (fun pv W (h : BdE wq.heap.size wq.heap.size A len cap wq g Q (k, o) 4 pv W) => h.calm (BdL.builds h.2 h.1))
        have HLD := Lib.hid (fun k_ pv W (h : BdE wq.heap.size wq.heap.size A len cap wq g Q (k, o) k_ pv W) => h.ld)
        refine wp_region_looseS 60 (by kernel_rfl) (by kernel_rfl) (MpC [1, 3, 9, 11] (BdE wq.heap.size wq.heap.size A len cap wq g Q (k, o)) (fun vI v => match vI with | 0 => v = .pointer (some ⟨wq.heap.size, 0, none⟩) | 2 => v = .pointer (some ⟨wq.heap.size, 0, none⟩) | 4 => v = .agg #[.int .i64 k, .int .i64 o] | 5 => v = .bool true | 6 => v = .bool false | 7 => v = .bool false | 8 => v = .pointer (some ⟨wq.heap.size, 0, none⟩) | 10 => v = .pointer (some ⟨wq.heap.size, 0, none⟩) | 12 => v = .agg #[.int .i64 k, .int .i64 o] | 13 => v = .bool true | 14 => v = .bool false | 15 => v = .bool false | _ => True)) rfl (MpC.start HE0.out) ?_ ?_
        · simp only [OblAllS]
          refine ⟨?_, ?_, ?_, ?_, ?_, ?_, ?_, ?_, ?_, ?_, ?_, ?_, ?_, ?_, ?_, ?_, trivial⟩
          · intro L wx vals hi hu hcl hC
            have HCx := Lib.hid hC
            clear hC hcl hu hi
            simp only [fillA, if_true, Act.put]
            simp
            go_wp2
            exact ⟨rfl, HCx.out.quiet (i := 0) (by decide) (by decide) rfl⟩
          · intro L wx vals hi hu hcl hC
            simp [ClosedL, UpL, predL, predE, Region.binds] at hcl
            simp [predL, predE, Region.binds, UpL] at hu
            have e0 : vals 0 = .pointer (some ⟨wq.heap.size, 0, none⟩) := hC.v 0 (by simp [hu]) (by decide)
            have kp0 : L 1 = false := hi
            have kp1 : L 3 = false := by clear hC; cases h : L 3 with | false => rfl | true => exfalso; first | (simp_all; done) | grind
            have kp2 : L 9 = false := by clear hC; cases h : L 9 with | false => rfl | true => exfalso; first | (simp_all; done) | grind
            have kp3 : L 11 = false := by clear hC; cases h : L 11 with | false => rfl | true => exfalso; first | (simp_all; done) | grind
            have hcnt : cntP [1, 3, 9, 11] L = 0 := by show (if L 1 = true then 1 else 0) + ((if L 3 = true then 1 else 0) + ((if L 9 = true then 1 else 0) + ((if L 11 = true then 1 else 0) + 0))) = 0; rw [kp0, kp1, kp2, kp3]; rfl
            have hE := hC.e
            rw [hcnt] at hE
            have hl9 := HL1.out _ _ hE
            have HL := Lib.hid hl9
            have HCN := Lib.hid hcnt
            have HLF := Lib.hid hi
            clear hE hl9 hcnt kp0 kp1 kp2 kp3
            have HCx := Lib.hid hC
            clear hC hcl hu hi
            simp only [fillA, if_true, Act.put]
            simp
            simp only [e0]
            clear e0
            go_wp2_with fail
            (with_reducible refine HL.out.mono ?_); rintro e w9 ⟨x9, rfl, hE9⟩
            have HX := Lib.hid (HCx.out.turn (k := 0) (i := 1) (x := x9) rfl (by decide) (by decide) HLF.out HCN.out hE9)
            clear hE9
            go_wp2
            exact ⟨rfl, HX.out⟩
          · intro L wx vals hi hu hcl hC
            have HCx := Lib.hid hC
            clear hC hcl hu hi
            simp only [fillA, if_true, Act.put]
            simp
            go_wp2
            exact ⟨rfl, HCx.out.quiet (i := 2) (by decide) (by decide) rfl⟩
          · intro L wx vals hi hu hcl hC
            simp [ClosedL, UpL, predL, predE, Region.binds] at hcl
            simp [predL, predE, Region.binds, UpL] at hu
            have e2 : vals 2 = .pointer (some ⟨wq.heap.size, 0, none⟩) := hC.v 2 (by simp [hu]) (by decide)
            have kp0 : L 1 = true := by clear hC; first | exact hu | (simp_all; done) | grind
            have kp1 : L 3 = false := hi
            have kp2 : L 9 = false := by clear hC; cases h : L 9 with | false => rfl | true => exfalso; first | (simp_all; done) | grind
            have kp3 : L 11 = false := by clear hC; cases h : L 11 with | false => rfl | true => exfalso; first | (simp_all; done) | grind
            have hcnt : cntP [1, 3, 9, 11] L = 1 := by show (if L 1 = true then 1 else 0) + ((if L 3 = true then 1 else 0) + ((if L 9 = true then 1 else 0) + ((if L 11 = true then 1 else 0) + 0))) = 1; rw [kp0, kp1, kp2, kp3]; rfl
            have hE := hC.e
            rw [hcnt] at hE
            have hl9 := HC1.out _ _ hE
            try rw [pvP0] at hl9
            have HL := Lib.hid hl9
            have HCN := Lib.hid hcnt
            have HLF := Lib.hid hi
            clear hE hl9 hcnt kp0 kp1 kp2 kp3
            have HCx := Lib.hid hC
            clear hC hcl hu hi
            simp only [fillA, if_true, Act.put]
            simp
            simp only [e2]
            clear e2
            go_wp2_with fail
            (with_reducible refine HL.out.mono ?_); rintro e w9 ⟨x9, rfl, hE9⟩
            have HX := Lib.hid (HCx.out.turn (k := 1) (i := 3) (x := x9) rfl (by decide) (by decide) HLF.out HCN.out hE9)
            clear hE9
            go_wp2
            exact ⟨rfl, HX.out⟩
          · intro L wx vals hi hu hcl hC
            have ⟨h0, h1⟩ := HLD.out _ _ _ hC.e
            have HCx := Lib.hid hC
            clear hC hcl hu hi
            simp only [fillA, if_true, Act.put]
            simp
            go_wp2
            exact ⟨rfl, HCx.out.quiet (i := 4) (by decide) (by decide) rfl⟩
          · intro L wx vals hi hu hcl hC
            simp [ClosedL, UpL, predL, predE, Region.binds] at hcl
            simp [predL, predE, Region.binds, UpL] at hu
            have e4 : vals 4 = .agg #[.int .i64 k, .int .i64 o] := hC.v 4 (by simp [hu]) (by decide)
            have kp0 : L 1 = true := by clear hC; first | exact hu | (simp_all; done) | grind
            have kp1 : L 3 = true := by clear hC; first | exact hu | (simp_all; done) | grind
            have kp2 : L 9 = false := by clear hC; cases h : L 9 with | false => rfl | true => exfalso; first | (simp_all; done) | grind
            have kp3 : L 11 = false := by clear hC; cases h : L 11 with | false => rfl | true => exfalso; first | (simp_all; done) | grind
            have hcnt : cntP [1, 3, 9, 11] L = 2 := by show (if L 1 = true then 1 else 0) + ((if L 3 = true then 1 else 0) + ((if L 9 = true then 1 else 0) + ((if L 11 = true then 1 else 0) + 0))) = 2; rw [kp0, kp1, kp2, kp3]; rfl
            have hE := hC.e
            rw [hcnt] at hE
            have hl9 := HS1.out _ _ hE
            try rw [pvP0] at hl9
            try rw [pvP1] at hl9
            have HL := Lib.hid hl9
            have HCN := Lib.hid hcnt
            have HLF := Lib.hid hi
            clear hE hl9 hcnt kp0 kp1 kp2 kp3
            have HCx := Lib.hid hC
            clear hC hcl hu hi
            simp only [fillA, if_true, Act.put]
            simp
            simp only [e4]
            clear e4
            go_wp2_with fail
            (with_reducible refine HL.out.mono ?_); rintro e w9 ⟨rfl, hE9⟩
            have HX := Lib.hid (HCx.out.step (i := 5) (x := .bool true) (by decide) (by decide) rfl (by rw [HCN.out]; exact hE9))
            clear hE9
            go_wp2
            exact ⟨rfl, HX.out⟩
          · intro L wx vals hi hu hcl hC
            simp [predL, predE, Region.binds, UpL] at hu
            have e5 : vals 5 = .bool true := hC.v 5 (by simp [hu]) (by decide)
            have HCx := Lib.hid hC
            clear hC hcl hu hi
            simp only [fillA, if_true, Act.put]
            simp
            simp only [e5]
            clear e5
            go_wp2
            exact ⟨rfl, HCx.out.quiet (i := 6) (by decide) (by decide) rfl⟩
          · intro L wx vals hi hu hcl hC
            simp [predL, predE, Region.binds, UpL] at hu
            have e6 : vals 6 = .bool false := hC.v 6 (by simp [hu]) (by decide)
            have HCx := Lib.hid hC
            clear hC hcl hu hi
            simp only [fillA, if_true, Act.put]
            simp
            simp only [e6]
            clear e6
            go_wp2
            exact ⟨rfl, HCx.out.quiet (i := 7) (by decide) (by decide) rfl⟩
          · intro L wx vals hi hu hcl hC
            simp [predL, predE, Region.binds, UpL] at hu
            have e7 : vals 7 = .bool false := hC.v 7 (by simp [hu]) (by decide)
            have HCx := Lib.hid hC
            clear hC hcl hu hi
            simp only [fillA, if_true, Act.put]
            simp
            simp only [e7]
            clear e7
            go_wp2
            exact ⟨rfl, HCx.out.quiet (i := 8) (by decide) (by decide) rfl⟩
          · intro L wx vals hi hu hcl hC
            simp [ClosedL, UpL, predL, predE, Region.binds] at hcl
            simp [predL, predE, Region.binds, UpL] at hu
            have e7 : vals 7 = .bool false := hC.v 7 (by simp [hu]) (by decide)
            have e8 : vals 8 = .pointer (some ⟨wq.heap.size, 0, none⟩) := hC.v 8 (by simp [hu]) (by decide)
            have kp0 : L 1 = true := by clear hC; first | exact hu | (simp_all; done) | grind
            have kp1 : L 3 = true := by clear hC; first | exact hu | (simp_all; done) | grind
            have kp2 : L 9 = false := hi
            have kp3 : L 11 = false := by clear hC; cases h : L 11 with | false => rfl | true => exfalso; first | (simp_all; done) | grind
            have hcnt : cntP [1, 3, 9, 11] L = 2 := by show (if L 1 = true then 1 else 0) + ((if L 3 = true then 1 else 0) + ((if L 9 = true then 1 else 0) + ((if L 11 = true then 1 else 0) + 0))) = 2; rw [kp0, kp1, kp2, kp3]; rfl
            have hE := hC.e
            rw [hcnt] at hE
            have hl9 := HL2.out _ _ hE
            try rw [pvP0] at hl9
            try rw [pvP1] at hl9
            have HL := Lib.hid hl9
            have HCN := Lib.hid hcnt
            have HLF := Lib.hid hi
            clear hE hl9 hcnt kp0 kp1 kp2 kp3
            have HCx := Lib.hid hC
            clear hC hcl hu hi
            simp only [fillA, if_true, Act.put]
            simp
            simp only [e7, e8]
            clear e7 e8
            go_wp2_with fail
            (with_reducible refine HL.out.mono ?_); rintro e w9 ⟨x9, rfl, hE9⟩
            have HX := Lib.hid (HCx.out.turn (k := 2) (i := 9) (x := x9) rfl (by decide) (by decide) HLF.out HCN.out hE9)
            clear hE9
            go_wp2
            exact ⟨rfl, HX.out⟩
          · intro L wx vals hi hu hcl hC
            simp [predL, predE, Region.binds, UpL] at hu
            have e7 : vals 7 = .bool false := hC.v 7 (by simp [hu]) (by decide)
            have HCx := Lib.hid hC
            clear hC hcl hu hi
            simp only [fillA, if_true, Act.put]
            simp
            simp only [e7]
            clear e7
            go_wp2
            exact ⟨rfl, HCx.out.quiet (i := 10) (by decide) (by decide) rfl⟩
          · intro L wx vals hi hu hcl hC
            simp [ClosedL, UpL, predL, predE, Region.binds] at hcl
            simp [predL, predE, Region.binds, UpL] at hu
            have e7 : vals 7 = .bool false := hC.v 7 (by simp [hu]) (by decide)
            have e10 : vals 10 = .pointer (some ⟨wq.heap.size, 0, none⟩) := hC.v 10 (by simp [hu]) (by decide)
            have kp0 : L 1 = true := by clear hC; first | exact hu | (simp_all; done) | grind
            have kp1 : L 3 = true := by clear hC; first | exact hu | (simp_all; done) | grind
            have kp2 : L 9 = true := by clear hC; first | exact hu | (simp_all; done) | grind
            have kp3 : L 11 = false := hi
            have hcnt : cntP [1, 3, 9, 11] L = 3 := by show (if L 1 = true then 1 else 0) + ((if L 3 = true then 1 else 0) + ((if L 9 = true then 1 else 0) + ((if L 11 = true then 1 else 0) + 0))) = 3; rw [kp0, kp1, kp2, kp3]; rfl
            have hE := hC.e
            rw [hcnt] at hE
            have hl9 := HC2.out _ _ hE
            try rw [pvP0] at hl9
            try rw [pvP1] at hl9
            try rw [pvP2] at hl9
            have HL := Lib.hid hl9
            have HCN := Lib.hid hcnt
            have HLF := Lib.hid hi
            clear hE hl9 hcnt kp0 kp1 kp2 kp3
            have HCx := Lib.hid hC
            clear hC hcl hu hi
            simp only [fillA, if_true, Act.put]
            simp
            simp only [e7, e10]
            clear e7 e10
            go_wp2_with fail
            (with_reducible refine HL.out.mono ?_); rintro e w9 ⟨x9, rfl, hE9⟩
            have HX := Lib.hid (HCx.out.turn (k := 3) (i := 11) (x := x9) rfl (by decide) (by decide) HLF.out HCN.out hE9)
            clear hE9
            go_wp2
            exact ⟨rfl, HX.out⟩
          · intro L wx vals hi hu hcl hC
            simp [predL, predE, Region.binds, UpL] at hu
            have e7 : vals 7 = .bool false := hC.v 7 (by simp [hu]) (by decide)
            have ⟨h0, h1⟩ := HLD.out _ _ _ hC.e
            have HCx := Lib.hid hC
            clear hC hcl hu hi
            simp only [fillA, if_true, Act.put]
            simp
            simp only [e7]
            clear e7
            go_wp2
            exact ⟨rfl, HCx.out.quiet (i := 12) (by decide) (by decide) rfl⟩
          · intro L wx vals hi hu hcl hC
            simp [ClosedL, UpL, predL, predE, Region.binds] at hcl
            simp [predL, predE, Region.binds, UpL] at hu
            have e7 : vals 7 = .bool false := hC.v 7 (by simp [hu]) (by decide)
            have e12 : vals 12 = .agg #[.int .i64 k, .int .i64 o] := hC.v 12 (by simp [hu]) (by decide)
            have kp0 : L 1 = true := by clear hC; first | exact hu | (simp_all; done) | grind
            have kp1 : L 3 = true := by clear hC; first | exact hu | (simp_all; done) | grind
            have kp2 : L 9 = true := by clear hC; first | exact hu | (simp_all; done) | grind
            have kp3 : L 11 = true := by clear hC; first | exact hu | (simp_all; done) | grind
            have hcnt : cntP [1, 3, 9, 11] L = 4 := by show (if L 1 = true then 1 else 0) + ((if L 3 = true then 1 else 0) + ((if L 9 = true then 1 else 0) + ((if L 11 = true then 1 else 0) + 0))) = 4; rw [kp0, kp1, kp2, kp3]; rfl
            have hE := hC.e
            rw [hcnt] at hE
            have hl9 := HS2.out _ _ hE
            try rw [pvP0] at hl9
            try rw [pvP1] at hl9
            try rw [pvP2] at hl9
            try rw [pvP3] at hl9
            have HL := Lib.hid hl9
            have HCN := Lib.hid hcnt
            have HLF := Lib.hid hi
            clear hE hl9 hcnt kp0 kp1 kp2 kp3
            have HCx := Lib.hid hC
            clear hC hcl hu hi
            simp only [fillA, if_true, Act.put]
            simp
            simp only [e7, e12]
            clear e7 e12
            go_wp2_with fail
            (with_reducible refine HL.out.mono ?_); rintro e w9 ⟨rfl, hE9⟩
            have HX := Lib.hid (HCx.out.step (i := 13) (x := .bool true) (by decide) (by decide) rfl (by rw [HCN.out]; exact hE9))
            clear hE9
            go_wp2
            exact ⟨rfl, HX.out⟩
          · intro L wx vals hi hu hcl hC
            simp [predL, predE, Region.binds, UpL] at hu
            have e7 : vals 7 = .bool false := hC.v 7 (by simp [hu]) (by decide)
            have e13 : vals 13 = .bool true := hC.v 13 (by simp [hu]) (by decide)
            have HCx := Lib.hid hC
            clear hC hcl hu hi
            simp only [fillA, if_true, Act.put]
            simp
            simp only [e7, e13]
            clear e7 e13
            go_wp2
            exact ⟨rfl, HCx.out.quiet (i := 14) (by decide) (by decide) rfl⟩
          · intro L wx vals hi hu hcl hC
            simp [predL, predE, Region.binds, UpL] at hu
            have e7 : vals 7 = .bool false := hC.v 7 (by simp [hu]) (by decide)
            have e14 : vals 14 = .bool false := hC.v 14 (by simp [hu]) (by decide)
            have HCx := Lib.hid hC
            clear hC hcl hu hi
            simp only [fillA, if_true, Act.put]
            simp
            simp only [e7, e14]
            clear e7 e14
            go_wp2
            exact ⟨rfl, HCx.out.quiet (i := 15) (by decide) (by decide) rfl⟩
        · intro wz vals U hC hall
          have e15 : vals 15 = .bool false := hC.v 15 (hall 15 (by simp)) (by decide)
          obtain ⟨q2, hq2, h3⟩ := BdE.core hC.e
          have HZ := Lib.hid h3.drop
          simp only [fillA, if_true, Act.put]
          simp
          simp only [e15]
          clear hC hall e15 h3 HL1 HL2 HS1 HS2 HC1 HC2 HLD
          generalize vals 0 = t_0 at *
          generalize vals 1 = t_1 at *
          generalize vals 2 = t_2 at *
          generalize vals 3 = t_3 at *
          generalize vals 4 = t_4 at *
          generalize vals 5 = t_5 at *
          generalize vals 6 = t_6 at *
          generalize vals 7 = t_7 at *
          generalize vals 8 = t_8 at *
          generalize vals 9 = t_9 at *
          generalize vals 10 = t_10 at *
          generalize vals 11 = t_11 at *
          generalize vals 12 = t_12 at *
          generalize vals 13 = t_13 at *
          generalize vals 14 = t_14 at *
          generalize vals 15 = t_15 at *
          go_wp2
          go_roundw
          case rel => exact ⟨j + 1, q2, by omega, by go_num, by omega, HZ⟩
          case measure => simp [intOf]; omega
    · obtain rfl : j = 5 := by omega
      have HBB := Lib.hid (show Below w.heap.size w wr from (HXX.out wr HJ.out.out).bel)
      by_cases h200 : n ≤ 200
      · have hd1 : (n : Int) ≤ 200 := by omega
        obtain ⟨_, g0, g1, g2, g3, g4⟩ := HXX.out wr HJ.out.out
        have HB1 := Lib.hid (HS1_.out wr HBB.out h200 p1 b1 t1 k1 o1)
        unfold AiB at HB1
        go_wp2_with fail
        (with_reducible refine HB1.out.mono ?_); rintro e w2 ⟨rfl, hb⟩
        have HI := Lib.hid (HJ.out.step GenP.frm hb)
        have HX := Lib.hid (HI.out.call (GenP.gcaps (by omega)))
        clear HB1 hb HJ g0 g1 g2 g3 g4 HBB HI
        go_wp2_with fail
        (with_reducible refine HX.out.mono ?_); rintro e w3 ⟨⟨⟨⟨p, b, t⟩, q1⟩, hok, hq1⟩, rfl, h1⟩
        simp only at hq1 h1
        unfold aggC
        have HX2 := Lib.hid (h1.call (GenP.grate (by omega)))
        clear HX h1
        go_wp2_with fail
        (with_reducible refine HX2.out.mono ?_); rintro e w4 ⟨⟨⟨k, o⟩, hko⟩, rfl, h1⟩
        have HBB := Lib.hid (show Below w.heap.size w w4 from (HXX.out w4 h1.out).bel)
        have HB2 := Lib.hid (HS1_.out w4 HBB.out h200 p b t k o)
        unfold AiB at HB2
        clear HX2 h1
        go_wp2_with fail
        (with_reducible refine HB2.out.mono ?_); rintro e w5 ⟨rfl, hb⟩
        have HF := Lib.hid (HBB.out.trans (hb.mono HBB.out.size))
        have HAW := Lib.hid (awake20_any w5)
        unfold AiB at HAW
        clear HB2 hb HBB
        go_wp2_with fail
        (with_reducible refine HAW.out.mono ?_); rintro e w6 ⟨rfl, hb⟩
        have HF := Lib.hid (HF.out.trans (hb.mono HF.out.size))
        clear hb HAW
        go_wp2
        go_ret
        exact ⟨rfl, HF.out⟩
      · have hd1 : (200 : Int) < n := by omega
        have HAW := Lib.hid (awake20_any wr)
        unfold AiB at HAW
        clear HJ HXX HS1_
        go_wp2_with fail
        (with_reducible refine HAW.out.mono ?_); rintro e w6 ⟨rfl, hb⟩
        have HF := Lib.hid (HBB.out.trans (hb.mono HBB.out.size))
        clear hb HAW HBB
        go_wp2
        go_ret
        exact ⟨rfl, HF.out⟩
theorem walkBuild20p (A : Option Addr) (len cap : Nat) (A1 : Option Addr) (len1 cap1 : Nat) {X : Nat → Int} (p1 b1 t1 k1 o1 : Int) (w : World) (he : Elems w.heap.size A len w) (hn1 : len1 ≤ 9223372036854775807) (hc1 : len1 ≤ cap1) (c1 : Nums w 0 w.heap.size A1 len1 X) :
    Calls Try.prog 4 #[.slice A len cap, .slice A1 len1 cap1, .agg #[.int .i64 p1, .int .i64 b1, .int .i64 t1], .agg #[.int .i64 k1, .int .i64 o1]] w (Calm (.bool true) w) := by
  have h := walkBuild20 A len cap A1 cap1 ((List.range len1).map X) p1 b1 t1 k1 o1 w he (by simpa using hn1) (SlI.nums hc1 c1)
  rw [List.length_map, List.length_range] at h
  exact h
end Go.Proofs.Ytcnpmbgeafkmlaa

