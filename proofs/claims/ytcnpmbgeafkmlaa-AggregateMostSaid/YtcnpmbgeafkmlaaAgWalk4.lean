/-
  Layer 20: the walk of AggregateMost. Written by gen_agwalk4.py.
-/
import Derived.Test.YtcnpmbgeafkmlaaAgHelp
import Derived.Test.YtcnpmbgeafkmlaaMp
import Derived.Test.YtcnpmbgeafkmlaaBoxS
namespace Go.Proofs.Ytcnpmbgeafkmlaa
open Go.ChangeShapes Go.WideShapes Go.ChangeAt Go.RowKit
set_option linter.unusedVariables false

/-- The drawn list: the slice and what it holds. -/
structure MoG where
  v : Value
  l : List Int
def MoV (B : Nat) (p b t k o : Int) (γ : MoG) (i : Nat) (v : Value) (w : World) : Prop :=
  match i with
  | 0 => v = .pointer (some ⟨B, 0, none⟩)
  | 1 => v = γ.v
  | 2 => v = .agg #[.int .i64 p, .int .i64 b, .int .i64 t]
  | 3 => v = .agg #[.int .i64 k, .int .i64 o]
  | 4 => v = .tuple #[.int .i64 (agBn γ.l p b t k o), .int .i64 (agBt γ.l p b t k o), .int .i64 (agBE γ.l p b t k o)]
  | 5 => v = .tuple #[.int .i64 (agBn γ.l p b t k o), .int .i64 (agBt γ.l p b t k o), .int .i64 (agBE γ.l p b t k o)]
  | 6 => v = .int .i64 (agBn γ.l p b t k o)
  | 7 => v = .int .i64 (agBt γ.l p b t k o)
  | 8 => v = .int .i64 (agBE γ.l p b t k o)
  | 9 => v = .int .i64 (agBn γ.l p b t k o)
  | 10 => v = .int .i64 (agBt γ.l p b t k o)
  | 11 => v = .int .i64 (agBE γ.l p b t k o)
  | _ => True
section
variable {base B : Nat} {a : Option Addr} {len cap : Nat} {w0 : World} {g g2 Q : Nat} {p b t k o : Int} {γ : MoG} {w w' : World} {v : Value} {i : Nat}
/-- The caps' block, the rate's block, the list, the choices. -/
def MoE (base B : Nat) (a : Option Addr) (len cap : Nat) (w0 : World) (g g2 Q : Nat) (p b t k o : Int) : Nat → MoG → World → Prop
  | 0, _, w => ∃ q : Nat, q ≤ Q ∧ Inv base w0 (Star (BoxP g 24 #[.int .i64 p, .int .i64 b, .int .i64 t]) (Star (BoxP g2 34 #[.int .i64 k, .int .i64 o]) (GenP base B a len cap q))) w
  | 1, γ, w => γ.l.length ≤ 200 ∧ ∃ q : Nat, q ≤ Q + 200 ∧ Inv base w0 (Star (BoxP g 24 #[.int .i64 p, .int .i64 b, .int .i64 t]) (Star (BoxP g2 34 #[.int .i64 k, .int .i64 o]) (Star (LsP csI 1 3 γ.v γ.l) (GenP base B a len cap q)))) w
  | _, _, _ => False
theorem MoE.core (h : MoE base B a len cap w0 g g2 Q p b t k o i γ w) : ∃ q : Nat, q ≤ Q + 200 ∧ Inv base w0 (Star (BoxP g 24 #[.int .i64 p, .int .i64 b, .int .i64 t]) (Star (BoxP g2 34 #[.int .i64 k, .int .i64 o]) (GenP base B a len cap q))) w := by
  match i, h with
  | 0, h => obtain ⟨q, h1, h2⟩ := h; exact ⟨q, by omega, h2⟩
  | 1, h =>
    obtain ⟨_, q, h1, h2⟩ := h
    exact ⟨q, h1, Inv.drop (h2.imp fun T => Star.pick3)⟩
theorem MoE.ld (h : MoE base B a len cap w0 g g2 Q p b t k o i γ w) : w.cell? ⟨g, 0, none⟩ = some (.int .i64 p) ∧ w.cell? ⟨g, 1, none⟩ = some (.int .i64 b) ∧ w.cell? ⟨g, 2, none⟩ = some (.int .i64 t) ∧ w.cell? ⟨g2, 0, none⟩ = some (.int .i64 k) ∧ w.cell? ⟨g2, 1, none⟩ = some (.int .i64 o) := by
  obtain ⟨q, _, h2⟩ := h.core
  have g1 := h2.boxed
  have g3 := h2.drop.boxed
  exact ⟨(g1.read 0).trans rfl, (g1.read 1).trans rfl, (g1.read 2).trans rfl, (g3.read 0).trans rfl, (g3.read 1).trans rfl⟩
theorem MoE.later (h : MoE base B a len cap w0 g g2 Q p b t k o i γ w) (hb : Below w.heap.size w w') : MoE base B a len cap w0 g g2 Q p b t k o i γ w' := by
  match i, h with
  | 0, h => obtain ⟨q, h1, h2⟩ := h; exact ⟨q, h1, h2.step (BoxP.frm.star (BoxP.frm.star GenP.frm)) hb⟩
  | 1, h => obtain ⟨h0, q, h1, h2⟩ := h; exact ⟨h0, q, h1, h2.step (BoxP.frm.star (BoxP.frm.star (LsP.frm.star GenP.frm))) hb⟩
theorem MoE.calm {f : FuncId} {args : Array Value} {v : Value} (h : MoE base B a len cap w0 g g2 Q p b t k o i γ w) (hc : Calls Try.prog f args w (AiB v w)) : Calls Try.prog f args w fun e w' => e = .returned v ∧ MoE base B a len cap w0 g g2 Q p b t k o i γ w' :=
  hc.mono fun e w' ⟨h1, h2⟩ => ⟨h1, h.later h2⟩
theorem MoE.lens (h : MoE base B a len cap w0 g g2 Q p b t k o 0 γ w) {n : Nat} (hn : n ≤ 150) (hQ : Q ≤ 1000000) : Calls Try.prog 10 #[.pointer (some ⟨B, 0, none⟩), .int .i64 n] w fun e w' => ∃ x : MoG, e = .returned x.v ∧ MoE base B a len cap w0 g g2 Q p b t k o 1 x w' := by
  obtain ⟨q, hq, h2⟩ := h
  refine (h2.call (Acts.right BoxP.frm (Acts.right BoxP.frm (llen_any (n := n) (by omega) (by omega))))).mono ?_
  rintro e w' ⟨⟨⟨v, l, q'⟩, g1, g2⟩, e1, h3⟩
  simp only at g1 g2 h3
  exact ⟨⟨v, l⟩, e1, by show l.length ≤ 200; omega, q', by omega, h3⟩
theorem MoE.build (h : MoE base B a len cap w0 g g2 Q p b t k o 1 γ w) : Calls Try.prog 19 #[γ.v, .agg #[.int .i64 p, .int .i64 b, .int .i64 t], .agg #[.int .i64 k, .int .i64 o]] w fun e w' => e = .returned (.tuple #[.int .i64 (agBn γ.l p b t k o), .int .i64 (agBt γ.l p b t k o), .int .i64 (agBE γ.l p b t k o)]) ∧ MoE base B a len cap w0 g g2 Q p b t k o 1 γ w' := by
  obtain ⟨h0, q, hq, h2⟩ := id h
  obtain ⟨A, c, e1, hs⟩ := SlI.of (LsP.any (h2.imp fun T => Star.pick3))
  refine h.calm ?_
  rw [e1]
  exact pbuild_any hs (by omega) _ _ _ _ _
end
/-- What the last test asks. -/
theorem mo_test (l : List Int) (p b t k o : Int) : agBE l p b t k o ≠ 0 ∨ (agBE l p b t k o = 0 ∧ agBn l p b t k o ≤ 0) ∨ (agBE l p b t k o = 0 ∧ 0 < agBn l p b t k o ∧ agME p b t k o = 0 ∧ agBt l p b t k o ≤ agMV p b t k o ∧ agBt l p b t k o ≤ t) := by
  by_cases h0 : agBE l p b t k o = 0
  · by_cases h1 : agN l p b t k o (agM l) = 0
    · exact .inr (.inl ⟨h0, by unfold agBn; rw [if_pos h0, h1]; exact Int.le_refl _⟩)
    · obtain ⟨g1, g2, g3⟩ := agP_most (agN_per l p b t k o h1)
      have e1 : agBt l p b t k o = aiZ k o (agZ (l.take (agN l p b t k o (agM l)))) := by unfold agBt; rw [if_pos ⟨h0, h1⟩]
      refine .inr (.inr ⟨h0, by unfold agBn; rw [if_pos h0]; omega, g1, ?_, ?_⟩)
      · rw [e1]; exact g2
      · rw [e1]; exact g3
  · exact .inl h0
set_option maxRecDepth 100000 in
set_option maxHeartbeats 16000000 in
theorem walkMost20 (A : Option Addr) (len cap : Nat) (p1 b1 t1 k1 o1 : Int) (w : World) (he : Elems w.heap.size A len w) :
    Calls Try.prog 6 #[.slice A len cap, .agg #[.int .i64 p1, .int .i64 b1, .int .i64 t1], .agg #[.int .i64 k1, .int .i64 o1]] w (Calm (.bool true) w) := by
  obtain ⟨wq, hwq, hx⟩ := Bx2.all w p1 b1 t1 k1 o1
  have hbq := (hx wq (Below.refl _ _)).bel
  have he2 : Elems wq.heap.size A len wq := by
    have h := he.kept hbq
    refine ⟨h.1, fun i hi => ?_⟩
    obtain ⟨b, off, z, e1, e2, e3⟩ := h.2 i hi
    exact ⟨b, off, z, e1, by have := hbq.size; omega, e3⟩
  have h0 := Lib.hid (GenP.new (w0 := wq) (cap := cap) he2 (Below.refl _ _) he2)
  have HXX := Lib.hid hx
  clear he he2 hbq hx
  unfold Calm
  go_enter Try.func6, Try.ntmps6
  go_wp2_with fail
  (with_reducible refine (new_any A len cap _).mono ?_); rintro e w' ⟨rfl, rfl⟩
  go_wp2_with fail
  go_loopw [8] (fun i wr => ∃ j q : Nat, j ≤ 5 ∧ i = .int .i64 j ∧ q ≤ 1000 * j ∧ Hid (Inv wq.heap.size wq (GenP wq.heap.size wq.heap.size A len cap q) wr)) (fun i _ => 5 - (intOf i).toNat)
  case atStart => exact ⟨0, 0, by omega, rfl, by omega, h0⟩
  case round =>
    obtain ⟨j, q, hj, rfl, hq, HJ⟩ := hrel
    clear h0
    by_cases hlt : j < 5
    · have hlt' : (j : Int) < 5 := by omega
      have HX := Lib.hid (HJ.out.call (GenP.lcaps (by omega)))
      clear HJ HXX
      go_wp2_with fail
      (with_reducible refine HX.out.mono ?_); rintro e w2 ⟨⟨⟨⟨p, b, t⟩, q1⟩, hok, hq1⟩, rfl, h1⟩
      simp only at hq1 h1
      unfold aggC
      have HX2 := Lib.hid (h1.call (GenP.grate (by omega)))
      clear HX h1
      go_wp2_with fail
      (with_reducible refine HX2.out.mono ?_); rintro e w3 ⟨⟨⟨k, o⟩, hko⟩, rfl, h1⟩
      have h2 := h1.box GenP.frm 24 #[.int .i64 p, .int .i64 b, .int .i64 t]
      have h3 := (h2.box (BoxP.frm.star GenP.frm) 34 #[.int .i64 k, .int .i64 o]).imp fun T => Star.pick2
      obtain ⟨Q, hQ⟩ : ∃ Q, q1 + 1 = Q := ⟨_, rfl⟩
      obtain ⟨wo, hwo⟩ : ∃ wo, (w3.alloc (.cells #[.int .i64 p, .int .i64 b, .int .i64 t] 24)).alloc (.cells #[.int .i64 k, .int .i64 o] 34) = wo := ⟨_, rfl⟩
      have HE := Lib.hid (show MoE wq.heap.size wq.heap.size A len cap wq w3.heap.size (w3.heap.size + 1) Q p b t k o 0 ⟨undef, []⟩ wo from ⟨q1 + 1, by omega, by rw [← hwo]; simpa using h3⟩)
      have hQ2 : Q ≤ 1000 * j + 20 := by omega
      have HLD := Lib.hid (fun i γ W (h : MoE wq.heap.size wq.heap.size A len cap wq w3.heap.size (w3.heap.size + 1) Q p b t k o i γ W) => h.ld)
      obtain ⟨y0, y1, y2, y3, y4⟩ := HE.out.ld
      have HM1 := Lib.hid (HE.out.calm (pmost_any p b t k o wo))
      have HM2 := Lib.hid (fun W (h : MoE wq.heap.size wq.heap.size A len cap wq w3.heap.size (w3.heap.size + 1) Q p b t k o 0 ⟨undef, []⟩ W) => h.calm (rmost_any p b t k o W))
      have HTS := Lib.hid (fun l => mo_test l p b t k o)
      obtain ⟨mv, hmv⟩ : ∃ mv, agMV p b t k o = mv := ⟨_, rfl⟩
      obtain ⟨me, hme⟩ : ∃ me, agME p b t k o = me := ⟨_, rfl⟩
      rw [hmv, hme] at HM1 HM2 HTS
      clear h1 h2 h3 HX2 hQ hmv hme HE
      go_wp2_with fail
      (with_reducible refine HM1.out.mono ?_); rintro e w4 ⟨rfl, hE⟩
      obtain ⟨y0, y1, y2, y3, y4⟩ := hE.ld
      have HM3 := Lib.hid (HM2.out w4 hE)
      clear HM1 HM2 hE hwo
      go_wp2_with fail
      (with_reducible refine HM3.out.mono ?_); rintro e w5 ⟨rfl, hE⟩
      have HE0 := Lib.hid (hE.later (Below.refl _ w5).drew)
      clear HM3 hE y0 y1 y2 y3 y4
      have HL1 := Lib.hid (fun γ W (h : MoE wq.heap.size wq.heap.size A len cap wq w3.heap.size (w3.heap.size + 1) Q p b t k o 0 γ W) => (show Calls Try.prog 10 #[.pointer (some ⟨wq.heap.size, 0, none⟩), .int .i64 12] W _ from h.lens (n := 12) (by omega) (by omega)))
      have HBD := Lib.hid (fun γ W (h : MoE wq.heap.size wq.heap.size A len cap wq w3.heap.size (w3.heap.size + 1) Q p b t k o 1 γ W) => h.build)
      go_wp2_with fail
      refine wp_region_looseG 107 (by kernel_rfl) (by kernel_rfl) (MgC [1] (MoE wq.heap.size wq.heap.size A len cap wq w3.heap.size (w3.heap.size + 1) Q p b t k o)) (MoV wq.heap.size p b t k o) (⟨undef, []⟩ : MoG) rfl (MgC.start HE0.out) ?_ ?_
      · simp only [OblAllG]
        refine ⟨?_, ?_, ?_, ?_, ?_, ?_, ?_, ?_, ?_, ?_, ?_, ?_, trivial⟩
        all_goals
          intro γ L wx vals hi hu hcl hC hp
          simp [predL, predE, Region.binds, UpL] at hu
          simp [predL, predE, Region.binds, PreV, MoV] at hp
          simp only [fillA, if_true, Act.put]
          simp
        · have HCx := Lib.hid (MgC.quiet hC (i := 0) (by decide))
          clear hp hC hcl hu hi
          go_wp2
          exact ⟨rfl, γ, HCx.out, rfl, fun _ _ _ h => h⟩
        · simp [ClosedL, UpL, predL, predE, Region.binds] at hcl
          have kp0 : L 1 = false := hi
          have hcnt : cntP [1] L = 0 := by show (if L 1 = true then 1 else 0) + 0 = 0; rw [kp0]; rfl
          have hE := hC
          unfold MgC at hE
          rw [hcnt] at hE
          have HL := Lib.hid (HL1.out _ _ hE)
          have HCN := Lib.hid hcnt
          have HLF := Lib.hid hi
          have kd1 : L 1 = false := hi
          have kd4 : L 4 = false := by clear hC hp hE hcnt; cases h : L 4 with | false => rfl | true => exfalso; first | (simp_all; done) | grind
          have kd5 : L 5 = false := by clear hC hp hE hcnt; cases h : L 5 with | false => rfl | true => exfalso; first | (simp_all; done) | grind
          have kd6 : L 6 = false := by clear hC hp hE hcnt; cases h : L 6 with | false => rfl | true => exfalso; first | (simp_all; done) | grind
          have kd7 : L 7 = false := by clear hC hp hE hcnt; cases h : L 7 with | false => rfl | true => exfalso; first | (simp_all; done) | grind
          have kd8 : L 8 = false := by clear hC hp hE hcnt; cases h : L 8 with | false => rfl | true => exfalso; first | (simp_all; done) | grind
          have kd9 : L 9 = false := by clear hC hp hE hcnt; cases h : L 9 with | false => rfl | true => exfalso; first | (simp_all; done) | grind
          have kd10 : L 10 = false := by clear hC hp hE hcnt; cases h : L 10 with | false => rfl | true => exfalso; first | (simp_all; done) | grind
          have kd11 : L 11 = false := by clear hC hp hE hcnt; cases h : L 11 with | false => rfl | true => exfalso; first | (simp_all; done) | grind
          have HKD := Lib.hid (show L 1 = false ∧ L 4 = false ∧ L 5 = false ∧ L 6 = false ∧ L 7 = false ∧ L 8 = false ∧ L 9 = false ∧ L 10 = false ∧ L 11 = false from ⟨kd1, kd4, kd5, kd6, kd7, kd8, kd9, kd10, kd11⟩)
          clear kd1 kd4 kd5 kd6 kd7 kd8 kd9 kd10 kd11
          clear hE hcnt kp0
          simp only [hp]
          clear hp hC hcl hu hi
          go_wp2_with fail
          (with_reducible refine HL.out.mono ?_); rintro e w9 ⟨x9, rfl, hE9⟩
          have HX := Lib.hid (MgC.turn (piv := [1]) (k := 0) (i := 1) rfl (by decide) HLF.out HCN.out hE9)
          clear hE9
          go_wp2
          refine ⟨rfl, x9, HX.out, rfl, fun jj u hjj h => ?_⟩
          have hkd := HKD.out
          unfold MoV at h ⊢
          split at h <;> first | exact h | (exfalso; simp_all; done)
        · have ⟨h0, h1, h2, _, _⟩ := HLD.out _ _ _ hC
          have HCx := Lib.hid (MgC.quiet hC (i := 2) (by decide))
          clear hp hC hcl hu hi
          go_wp2
          exact ⟨rfl, γ, HCx.out, rfl, fun _ _ _ h => h⟩
        · have ⟨_, _, _, h0, h1⟩ := HLD.out _ _ _ hC
          have HCx := Lib.hid (MgC.quiet hC (i := 3) (by decide))
          clear hp hC hcl hu hi
          go_wp2
          exact ⟨rfl, γ, HCx.out, rfl, fun _ _ _ h => h⟩
        · simp [ClosedL, UpL, predL, predE, Region.binds] at hcl
          have kp0 : L 1 = true := by clear hC hp; first | exact hu | (simp_all; done) | grind
          have hcnt : cntP [1] L = 1 := by show (if L 1 = true then 1 else 0) + 0 = 1; rw [kp0]; rfl
          have hE := hC
          unfold MgC at hE
          rw [hcnt] at hE
          have HL := Lib.hid (HBD.out _ _ hE)
          have HCN := Lib.hid hcnt
          have HLF := Lib.hid hi
          clear hE hcnt kp0
          simp only [hp]
          clear hp hC hcl hu hi
          go_wp2_with fail
          (with_reducible refine HL.out.mono ?_); rintro e w9 ⟨rfl, hE9⟩
          have HX := Lib.hid (MgC.step (piv := [1]) HCN.out (i := 4) (by decide) hE9)
          clear hE9
          go_wp2
          exact ⟨rfl, γ, HX.out, rfl, fun _ _ _ h => h⟩
        · have HCx := Lib.hid (MgC.quiet hC (i := 5) (by decide))
          simp only [hp]
          clear hp hC hcl hu hi
          go_wp2
          exact ⟨rfl, γ, HCx.out, rfl, fun _ _ _ h => h⟩
        · have HCx := Lib.hid (MgC.quiet hC (i := 6) (by decide))
          simp only [hp]
          clear hp hC hcl hu hi
          go_wp2
          exact ⟨rfl, γ, HCx.out, rfl, fun _ _ _ h => h⟩
        · have HCx := Lib.hid (MgC.quiet hC (i := 7) (by decide))
          simp only [hp]
          clear hp hC hcl hu hi
          go_wp2
          exact ⟨rfl, γ, HCx.out, rfl, fun _ _ _ h => h⟩
        · have HCx := Lib.hid (MgC.quiet hC (i := 8) (by decide))
          simp only [hp]
          clear hp hC hcl hu hi
          go_wp2
          exact ⟨rfl, γ, HCx.out, rfl, fun _ _ _ h => h⟩
        · have HCx := Lib.hid (MgC.quiet hC (i := 9) (by decide))
          simp only [hp]
          clear hp hC hcl hu hi
          go_wp2
          exact ⟨rfl, γ, HCx.out, rfl, fun _ _ _ h => h⟩
        · have HCx := Lib.hid (MgC.quiet hC (i := 10) (by decide))
          simp only [hp]
          clear hp hC hcl hu hi
          go_wp2
          exact ⟨rfl, γ, HCx.out, rfl, fun _ _ _ h => h⟩
        · have HCx := Lib.hid (MgC.quiet hC (i := 11) (by decide))
          simp only [hp]
          clear hp hC hcl hu hi
          go_wp2
          exact ⟨rfl, γ, HCx.out, rfl, fun _ _ _ h => h⟩
      · intro γ wz vals U hC hall hV
        have e9 := hV 9 (by simp)
        have e10 := hV 10 (by simp)
        have e11 := hV 11 (by simp)
        simp only [MoV] at e9 e10 e11
        have hld := HLD.out _ _ _ hC
        obtain ⟨q2, hq2, h3⟩ := MoE.core hC
        have HZ := Lib.hid (h3.drop).drop
        have hts := HTS.out γ.l
        simp only [fillA, if_true, Act.put]
        simp
        simp only [e9, e10, e11]
        obtain ⟨_, _, y2, _, _⟩ := hld
        clear hC hall hV e9 e10 e11 h3 HL1 HBD HLD HTS HE0
        generalize agBn γ.l p b t k o = bn at *
        generalize agBt γ.l p b t k o = bt at *
        generalize agBE γ.l p b t k o = be at *
        have hmm : (mv != mv) = false := by simp
        have hme2 : (me != me) = false := by simp
        generalize vals 0 = t_0 at *
        generalize vals 1 = t_1 at *
        generalize vals 2 = t_2 at *
        generalize vals 3 = t_3 at *
        generalize vals 4 = t_4 at *
        generalize vals 5 = t_5 at *
        generalize vals 6 = t_6 at *
        generalize vals 7 = t_7 at *
        generalize vals 8 = t_8 at *
        generalize vals 9 = t_9 at *
        generalize vals 10 = t_10 at *
        generalize vals 11 = t_11 at *
        rcases hts with h1 | ⟨h1, h2⟩ | ⟨h1, h2, h3, h4, h5⟩
        · have h1' : (be == 0) = false := by simpa using h1
          clear h1
          go_wp2
          go_roundw
          case rel => exact ⟨j + 1, q2, by omega, by go_num, by omega, HZ⟩
          case measure => simp [intOf]; omega
        · subst h1
          go_wp2
          go_roundw
          case rel => exact ⟨j + 1, q2, by omega, by go_num, by omega, HZ⟩
          case measure => simp [intOf]; omega
        · subst h1 h3
          go_wp2
          go_roundw
          case rel => exact ⟨j + 1, q2, by omega, by go_num, by omega, HZ⟩
          case measure => simp [intOf]; omega
    · obtain rfl : j = 5 := by omega
      have HBQ := Lib.hid (show Below wq.heap.size wq wr from HJ.out.out)
      obtain ⟨hbw, y0, y1, y2, y3, y4⟩ := HXX.out wr HBQ.out
      have HM1 := Lib.hid (pmost_any p1 b1 t1 k1 o1 wr)
      have HM2 := Lib.hid (fun W => rmost_any p1 b1 t1 k1 o1 W)
      obtain ⟨mv, hmv⟩ : ∃ mv, agMV p1 b1 t1 k1 o1 = mv := ⟨_, rfl⟩
      obtain ⟨me, hme⟩ : ∃ me, agME p1 b1 t1 k1 o1 = me := ⟨_, rfl⟩
      rw [hmv, hme] at HM1 HM2
      have hmm : (mv == mv) = true := by simp
      have hme2 : (me == me) = true := by simp
      unfold AiB at HM1 HM2
      clear HJ hbw hmv hme
      go_wp2_with fail
      (with_reducible refine HM1.out.mono ?_); rintro e w4 ⟨rfl, hb⟩
      have HB4 := Lib.hid (HBQ.out.trans (hb.mono HBQ.out.size))
      obtain ⟨_, y0, y1, y2, y3, y4⟩ := HXX.out w4 HB4.out
      clear hb HM1 HBQ
      go_wp2_with fail
      (with_reducible refine (HM2.out w4).mono ?_); rintro e w5 ⟨rfl, hb⟩
      have HB5 := Lib.hid ((HXX.out w5 (HB4.out.trans (hb.mono HB4.out.size))).bel)
      have HAW := Lib.hid (awake20_any w5)
      unfold AiB at HAW
      clear hb HM2 HB4 y0 y1 y2 y3 y4
      go_wp2_with fail
      (with_reducible refine HAW.out.mono ?_); rintro e w6 ⟨rfl, hb⟩
      have HF := Lib.hid (HB5.out.trans (hb.mono HB5.out.size))
      clear hb HAW HB5
      go_wp2
      go_ret
      exact ⟨rfl, HF.out⟩
end Go.Proofs.Ytcnpmbgeafkmlaa

