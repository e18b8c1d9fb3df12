/-
  Layer 16: the walk of the statement on acknowledgements (SenderAcks). Every input; no condition. Written by gen_snwalk4.py.
-/
import Derived.Test.YtglhaclehdkagaaSnAwake
import Derived.Test.YtglhaclehdkagaaSnSpl
import Derived.Laws.StructEq
import Derived.Deep.LoopGhost
import Derived.LoopTactic
namespace Go.Proofs.Ytglhaclehdkagaa
open Go.ChangeShapes Go.WideShapes Go.ChangeAt Go.RowKit
set_option linter.unusedVariables false

section
variable {base : Nat} {w w' w0 : World} {R : Nat} {s : SnS} {P : RP}
theorem SnQ4.next {B : Nat} {a : Option Addr} {len cap q : Nat} (h : Inv base w0 (Star (SnP R s) (GenP base B a len cap q)) w) {n : Int} (n0 : 1 ≤ n) (n1 : n ≤ 1000000000) (hq : q ≤ 1000000000) :
    Calls Try.prog 8 #[.pointer (some ⟨B, 0, none⟩), .int .i64 n] w fun e w' => ∃ r : Int, 0 ≤ r ∧ r < n ∧ e = .returned (.int .i64 r) ∧ Inv base w0 (Star (SnP R s) (GenP base B a len cap (q + 1))) w' :=
  (Inv.call h (Acts.right SnP.frm (GenP.next n0 n1 hq))).mono fun e w' ⟨r, e1, h2⟩ => ⟨r.1, r.2.1, r.2.2, e1, h2⟩
theorem SnQ4.pend (hP : Frm base P) (h : Inv base w0 (Star (SnP R s) P) w) (hn : s.l.length ≤ 9999) : Calls Try.prog 17 #[.pointer (some ⟨R, 0, none⟩)] w fun e w' => ∃ A c, e = .returned (.slice A s.l.length c) ∧ Inv base w0 (Star (LsP csN 3 38 (.slice A s.l.length c) s.l) (Star (SnP R s) P)) w' := by
  refine (Inv.call h ((Acts.got SnP.frm fun T w hp => pspend_any hn hp).star hP)).mono ?_
  rintro e w' ⟨v, e1, h2⟩
  have h3 := h2.imp fun T => Star.assoc
  obtain ⟨A, c, rfl, _⟩ := (LsP.any h3).shape
  exact ⟨A, c, e1, h3⟩
theorem SnQ4.pend3 {Q1 Q2 : RP} (h1 : Frm base Q1) (h2 : Frm base Q2) (hP : Frm base P) (h : Inv base w0 (Star Q1 (Star Q2 (Star (SnP R s) P))) w) (hn : s.l.length ≤ 9999) : Calls Try.prog 17 #[.pointer (some ⟨R, 0, none⟩)] w fun e w' => ∃ A c, e = .returned (.slice A s.l.length c) ∧ Inv base w0 (Star (LsP csN 3 38 (.slice A s.l.length c) s.l) (Star Q1 (Star Q2 (Star (SnP R s) P)))) w' := by
  refine (Inv.call h (Acts.got (h1.star (h2.star (SnP.frm.star hP))) fun T w hp => (by
    obtain ⟨A, B, _, _, _, C, D, _, _, _, E, F, _, _, hs, _⟩ := hp
    exact pspend_any hn hs))).mono ?_
  rintro e w' ⟨v, e1, h3⟩
  obtain ⟨A, c, rfl, _⟩ := (LsP.any h3).shape
  exact ⟨A, c, e1, h3⟩
theorem SnQ4.ack {Q1 : RP} (h1 : Frm base Q1) (hP : Frm base P) (h : Inv base w0 (Star Q1 (Star (SnP R s) P)) w) (hn : s.l.length ≤ 9999) (b m : Int) (hm : Wd m) : Calls Try.prog 21 #[.pointer (some ⟨R, 0, none⟩), .agg #[.int .i64 b, .int .u64 m]] w fun e w' => ∃ A c, e = .returned (.slice A (snAkL s b m).length c) ∧ Inv base w0 (Star (LsP csI 1 3 (.slice A (snAkL s b m).length c) (snAkL s b m)) (Star Q1 (Star (SnP R (s.ack b m)) P))) w' := by
  refine (Inv.call h (Acts.right h1 ((psack_any hn b m hm).star hP))).mono ?_
  rintro e w' ⟨v, e1, h2⟩
  have h3 := h2.imp fun T h => Star.pick2 (Star.mapR (fun _ => Star.assoc) h)
  obtain ⟨A, c, rfl, _⟩ := (LsP.any h3).shape
  exact ⟨A, c, e1, h3⟩
end
set_option maxRecDepth 100000 in
set_option maxHeartbeats 16000000 in
theorem walkAcks16 (A : Option Addr) (len cap : Nat) (b m0 : Int) (w : World) (he : Elems w.heap.size A len w) (hm : Wd m0) :
    Calls Try.prog 6 #[.slice A len cap, .int .i64 b, .int .u64 m0] w (Calm (.bool true) w) := by
  have h0 := GenP.new (w0 := w) (cap := cap) he (Below.refl _ _) he
  have HX := Lib.hid (h0.emp.call ((psnew_any (wi := 64) (tr := 2) (by decide)).star GenP.frm))
  have HAW := Lib.hid (fun w => awake16_any w)
  have HWD := Lib.hid hm
  clear h0 he hm
  unfold Calm at *
  go_enter Try.func6, Try.ntmps6
  go_wp2_with fail
  (with_reducible refine (new_any A len cap _).mono ?_); rintro e w' ⟨rfl, rfl⟩
  go_wp2_with fail
  (with_reducible refine HX.out.mono ?_); rintro e w1 ⟨R, rfl, h1⟩
  have HX := Lib.hid (SnQ4.next h1 (n := 20) (by omega) (by omega) (by omega))
  clear h1
  go_wp2_with fail
  (with_reducible refine HX.out.mono ?_); rintro e w2 ⟨r, r0, r1, rfl, h1⟩
  have wa : IntKind.i64.wrap (1 + r) = 1 + r := IntWalk.i64_in _ (by omega)
  obtain ⟨j0, hj0⟩ : ∃ j0 : Nat, 1 + r = j0 := ⟨(1 + r).toNat, by omega⟩
  have hj1 : 1 ≤ j0 ∧ j0 ≤ 20 := by omega
  rw [hj0] at wa
  have wa2 : IntKind.i64.wrap (1 + r) = j0 := by rw [hj0]; exact wa
  clear wa
  have HI := Lib.hid h1
  clear h1 HX hj0 r0 r1
  go_wp2_with fail
  go_loopw [10] (fun s10 wr => ∃ (j : Nat) (s : SnS), j ≤ 20 ∧ s10 = .int .i64 j ∧ Hid (s.l.length + j ≤ 20) ∧ Hid (Inv w.heap.size w (Star (SnP R s) (GenP w.heap.size w.heap.size A len cap 1)) wr)) (fun s10 _ => (intOf s10).toNat)
  case atStart => exact ⟨j0, _, by omega, rfl, Lib.hid (by simp [SnS.new]; omega), HI⟩
  case round =>
    obtain ⟨j, s, hj, rfl, HL, HS⟩ := hrel
    clear HI
    by_cases hlt : 0 < j
    · have hlt' : (0 : Int) < j := by omega
      have wb : IntKind.i64.wrap (100 - (j : Int)) = 100 - (j : Int) := IntWalk.i64_in _ (by omega)
      have wc : IntKind.i64.wrap ((j : Int) - 1) = ((j - 1 : Nat) : Int) := by rw [IntWalk.i64_in _ (by omega)]; omega
      have HX := Lib.hid (Inv.call1 HS.out ((psasg_any (by have := HL.out; omega) (100 - (j : Int))).star GenP.frm))
      have HL2 := Lib.hid (show (s.asg (100 - (j : Int))).l.length + (j - 1) ≤ 20 by have := HL.out; have := asg_len s (100 - (j : Int)); omega)
      clear HS HL
      go_wp2_with fail
      (with_reducible refine HX.out.mono ?_); rintro e w3 ⟨rfl, h1⟩
      have HF := Lib.hid h1
      clear h1 HX
      go_wp2
      go_roundw
      case rel => exact ⟨j - 1, _, by omega, rfl, HL2, HF⟩
      case measure => simp [intOf] <;> omega
    · obtain rfl : j = 0 := by omega
      have hsl : s.l.length ≤ 20 := by have := HL.out; omega
      have HX := Lib.hid (SnQ4.pend GenP.frm HS.out (by omega))
      clear HS HL
      go_wp2_with fail
      (with_reducible refine HX.out.mono ?_); rintro e w3 ⟨A1, c1, rfl, h1⟩
      have HX := Lib.hid (SnQ4.ack LsP.frm GenP.frm h1 (by omega) b m0 HWD.out)
      clear h1
      go_wp2_with fail
      (with_reducible refine HX.out.mono ?_); rintro e w4 ⟨A3, c3, rfl, h1⟩
      have hl2 := ack_len s b m0
      have HX := Lib.hid (SnQ4.pend3 LsP.frm LsP.frm GenP.frm h1 (by omega))
      clear h1
      go_wp2_with fail
      (with_reducible refine HX.out.mono ?_); rintro e w5 ⟨A2, c2, rfl, h1⟩
      obtain ⟨p, hp1, hp2⟩ := ak_split s b m0
      obtain ⟨s2, hs2⟩ : ∃ s2, s.ack b m0 = s2 := ⟨_, rfl⟩
      obtain ⟨X, hX⟩ : ∃ X, s.l = X := ⟨_, rfl⟩
      obtain ⟨Lk, hLk⟩ : ∃ Lk, snAkL s b m0 = Lk := ⟨_, rfl⟩
      obtain ⟨Y, hY⟩ : ∃ Y, s2.l = Y := ⟨_, rfl⟩
      rw [hs2] at h1 hp2 hl2 ⊢
      rw [hX] at h1 hp1 hp2 hl2 hsl ⊢
      rw [hLk] at h1 hp1 ⊢
      rw [hY] at h1 hp2 hl2 ⊢
      clear hs2 hX hLk hY HX
      have HTW := Lib.hid (flt_two X p)
      have HKP := Lib.hid (fun x hx => any_kept X p (x := x) hx)
      have HAT := Lib.hid (fun i hi h => flt_at X p (i := i) hi h)
      have HFY := Lib.hid (fun i hi h => filter_yes p X (k := i) hi h)
      have HFN := Lib.hid (fun i hi h => filter_no p X (k := i) hi h)
      rw [← hp2] at HTW HKP
      obtain ⟨n, hn_⟩ : ∃ n, X.length = n := ⟨_, rfl⟩
      obtain ⟨ny, hny_⟩ : ∃ ny, Y.length = ny := ⟨_, rfl⟩
      obtain ⟨nl, hnl_⟩ : ∃ nl, Lk.length = nl := ⟨_, rfl⟩
      have hlk : (X.filter p).length = nl := by rw [← hnl_, hp1, List.length_map]
      have HLL := Lib.hid (And.intro hn_ (And.intro hny_ (And.intro hnl_ hlk)))
      have HPL := Lib.hid hp1
      rw [hn_, hny_, hnl_] at h1 ⊢
      have hsum : ny + nl = n := by have := HTW.out; rw [hny_, hlk, hn_] at this; exact this
      rw [hn_] at hsl
      have HI4 := Lib.hid h1
      clear h1 hp1 hp2 hl2 hn_ hny_ hnl_ hlk HTW
      go_wp2_with fail
      go_loopw [14, 15] (fun s14 s15 wr => ∃ (i m : Nat), i ≤ n ∧ m ≤ i ∧ s15 = .int .i64 i ∧ s14 = .int .i64 m ∧ Hid (((X.take i).filter p).length = m) ∧ Hid (Inv w.heap.size w (Star (LsP csN 3 38 (.slice A2 ny c2) Y) (Star (LsP csI 1 3 (.slice A3 nl c3) Lk) (Star (LsP csN 3 38 (.slice A1 n c1) X) (Star (SnP R s2) (GenP w.heap.size w.heap.size A len cap 1))))) wr)) (fun _ s15 _ => n - (intOf s15).toNat)
      case atStart => exact ⟨0, 0, Nat.zero_le _, Nat.le_refl _, rfl, rfl, Lib.hid (by simp), HI4⟩
      case round =>
        obtain ⟨i, m, hi, hmi, rfl, rfl, HM, HI5⟩ := hrel
        clear HI4
        by_cases hlt2 : i < n
        · have hlt3 : (i : Int) < n := by omega
          have hi0 : (0 : Int) ≤ i := by omega
          have hiX : i < X.length := by have := HLL.out.1; omega
          have hkept := HKP.out X[i] (List.getElem_mem hiX)
          have hfy := HFY.out i hiX
          have hfn := HFN.out i hiX
          have hat := HAT.out i hiX
          obtain ⟨xx, hxx⟩ : ∃ xx, X[i] = xx := ⟨_, rfl⟩
          have HXX := Lib.hid hxx
          have HKK := Lib.hid hkept
          have HFF := Lib.hid (And.intro hfy (And.intro hfn hat))
          clear hkept hfy hfn hat hxx
          go_wp2_with fail
          go_loopw [16, 17] (fun s16 s17 wq => ∃ (k : Nat) (th : Bool), k ≤ ny ∧ s17 = .int .i64 k ∧ s16 = .bool th ∧ Hid (th = (Y.take k).any (fun y => eqN y X[i])) ∧ Hid (Inv w.heap.size w (Star (LsP csN 3 38 (.slice A2 ny c2) Y) (Star (LsP csI 1 3 (.slice A3 nl c3) Lk) (Star (LsP csN 3 38 (.slice A1 n c1) X) (Star (SnP R s2) (GenP w.heap.size w.heap.size A len cap 1))))) wq)) (fun _ s17 _ => ny - (intOf s17).toNat)
          case atStart => exact ⟨0, false, Nat.zero_le _, rfl, rfl, Lib.hid (by simp), HI5⟩
          case round =>
            obtain ⟨k, th, hk, rfl, rfl, HTH, HI6⟩ := hrel
            clear HI5
            by_cases hlt4 : k < ny
            · have hlt5 : (k : Int) < ny := by omega
              have hk0 : (0 : Int) ≤ k := by omega
              have hkY : k < Y.length := by have := HLL.out.2.1; omega
              have hany := any_next (fun y => eqN y X[i]) Y hkY
              obtain ⟨by_, oy, c2', e1, _, _, hby, _, hcy⟩ := (LsP.any HI6.out).el hkY
              obtain ⟨bx, ox, c1', e2, _, _, hbx, _, hcx⟩ := (LsP.any HI6.out.drop.drop).el hiX
              obtain ⟨rfl, rfl⟩ : A2 = some ⟨by_, oy, none⟩ ∧ c2 = c2' := by simpa using (show Value.slice A2 ny c2 = .slice (some ⟨by_, oy, none⟩) ny c2' by have := HLL.out.2.1; rw [this] at e1; exact e1)
              obtain ⟨rfl, rfl⟩ : A1 = some ⟨bx, ox, none⟩ ∧ c1 = c1' := by simpa using (show Value.slice A1 n c1 = .slice (some ⟨bx, ox, none⟩) n c1' by have := HLL.out.1; rw [this] at e2; exact e2)
              have d1 : wr.cell? ⟨by_, oy + k * 3, none⟩ = some (.int .i64 Y[k].q) := hcy k hkY 0 (by omega)
              have d2 : wr.cell? ⟨by_, oy + k * 3 + 1, none⟩ = some (.int .i64 Y[k].i) := hcy k hkY 1 (by omega)
              have d3 : wr.cell? ⟨by_, oy + k * 3 + 2, none⟩ = some (.int .i64 Y[k].t) := hcy k hkY 2 (by omega)
              have d4 : wr.cell? ⟨bx, ox + i * 3, none⟩ = some (.int .i64 X[i].q) := hcx i hiX 0 (by omega)
              have d5 : wr.cell? ⟨bx, ox + i * 3 + 1, none⟩ = some (.int .i64 X[i].i) := hcx i hiX 1 (by omega)
              have d6 : wr.cell? ⟨bx, ox + i * 3 + 2, none⟩ = some (.int .i64 X[i].t) := hcx i hiX 2 (by omega)
              have hrr : eqN Y[k] X[i] = ((Y[k].q == X[i].q) && ((Y[k].i == X[i].i) && (Y[k].t == X[i].t))) := rfl
              obtain ⟨r, hr⟩ : ∃ r, eqN Y[k] X[i] = r := ⟨_, rfl⟩
              have HTN := Lib.hid (fun th' (h : th' = (th || r)) => (by rw [hany, ← HTH.out, h, hr] : th' = (Y.take (k + 1)).any (fun y => eqN y X[i])))
              rw [hr] at hrr
              have HII := Lib.hid (fun (W : World) (hw : Below wr.drew.heap.size wr.drew W) => HI6.out.step (LsP.frm.star (LsP.frm.star (LsP.frm.star (SnP.frm.star GenP.frm)))) ((Below.refl _ wr).drew.trans hw))
              clear hany hr hcy hcx e1 e2 HTH HKK HFF HXX HKP HAT HFY HFN
              cases th
              · generalize Y[k].q = yq at *
                generalize Y[k].i = yi at *
                generalize Y[k].t = yt at *
                obtain ⟨xq, hxq⟩ : ∃ xq, X[i].q = xq := ⟨_, rfl⟩
                obtain ⟨xi, hxi⟩ : ∃ xi, X[i].i = xi := ⟨_, rfl⟩
                obtain ⟨xt, hxt⟩ : ∃ xt, X[i].t = xt := ⟨_, rfl⟩
                rw [hxq, hxi, hxt] at hrr
                rw [hxq] at d4
                rw [hxi] at d5
                rw [hxt] at d6
                have HRR := Lib.hid hrr
                have HC4 := Lib.hid (fun (W : World) (hw : Below wr.drew.heap.size wr.drew W) => And.intro ((((Below.refl _ wr).drew.trans hw).cell (p := ⟨by_, oy + k * 3, none⟩) hby).trans d1) (And.intro ((((Below.refl _ wr).drew.trans hw).cell (p := ⟨by_, oy + k * 3 + 1, none⟩) hby).trans d2) (And.intro ((((Below.refl _ wr).drew.trans hw).cell (p := ⟨by_, oy + k * 3 + 2, none⟩) hby).trans d3) (And.intro ((((Below.refl _ wr).drew.trans hw).cell (p := ⟨bx, ox + i * 3, none⟩) hbx).trans d4) (And.intro ((((Below.refl _ wr).drew.trans hw).cell (p := ⟨bx, ox + i * 3 + 1, none⟩) hbx).trans d5) ((((Below.refl _ wr).drew.trans hw).cell (p := ⟨bx, ox + i * 3 + 2, none⟩) hbx).trans d6))))))
                clear d1 d2 d3 d4 d5 d6 hrr hxq hxi hxt HI6 HPL HLL HM hkY
                go_wp2_with fail
                refine wp_region_looseH 110 (by kernel_rfl) (by kernel_rfl) (StB wr.drew (fun vI => [.bool false, .bool false, .slice (some ⟨by_, oy, none⟩) ny c2, .int .i64 (k : Nat), .pointer (some ⟨by_, oy + k * 3, none⟩), .agg #[.int .i64 yq, .int .i64 yi, .int .i64 yt], .slice (some ⟨bx, ox, none⟩) n c1, .int .i64 (i : Nat), .pointer (some ⟨bx, ox + i * 3, none⟩), .agg #[.int .i64 xq, .int .i64 xi, .int .i64 xt], .bool r, .bool r, .bool r].getD vI undef)) rfl StB.start ?_ ?_
                · simp only [OblAllH]
                  refine ⟨?_, ?_, ?_, ?_, ?_, ?_, ?_, ?_, ?_, ?_, ?_, ?_, ?_, trivial⟩
                  · intro L wx vals hi hu hcl hC
                    have HCx := Lib.hid hC
                    clear hC hcl hu hi
                    simp [fillA]
                    go_wp2
                    exact ⟨rfl, HCx.out.quiet 0 rfl⟩
                  · intro L wx vals hi hu hcl hC
                    simp [predL, predE, Region.binds, UpL] at hu
                    have e0 : vals 0 = .bool false := hC.v 0 (by simp [hu])
                    have HCx := Lib.hid hC
                    clear hC hcl hu hi
                    simp [fillA, Act.put]
                    simp only [e0]
                    clear e0
                    go_wp2
                    exact ⟨rfl, HCx.out.quiet 1 rfl⟩
                  · intro L wx vals hi hu hcl hC
                    simp [predL, predE, Region.binds, UpL] at hu
                    have e1 : vals 1 = .bool false := hC.v 1 (by simp [hu])
                    have HCx := Lib.hid hC
                    clear hC hcl hu hi
                    simp [fillA, Act.put]
                    simp only [e1]
                    clear e1
                    go_wp2
                    exact ⟨rfl, HCx.out.quiet 2 rfl⟩
                  · intro L wx vals hi hu hcl hC
                    simp [predL, predE, Region.binds, UpL] at hu
                    have e1 : vals 1 = .bool false := hC.v 1 (by simp [hu])
                    have HCx := Lib.hid hC
                    clear hC hcl hu hi
                    simp [fillA, Act.put]
                    simp only [e1]
                    clear e1
                    go_wp2
                    exact ⟨rfl, HCx.out.quiet 3 rfl⟩
                  · intro L wx vals hi hu hcl hC
                    simp [predL, predE, Region.binds, UpL] at hu
                    have e1 : vals 1 = .bool false := hC.v 1 (by simp [hu])
                    have e2 : vals 2 = .slice (some ⟨by_, oy, none⟩) ny c2 := hC.v 2 (by simp [hu])
                    have e3 : vals 3 = .int .i64 (k : Nat) := hC.v 3 (by simp [hu])
                    have HCx := Lib.hid hC
                    clear hC hcl hu hi
                    simp [fillA, Act.put]
                    simp only [e1, e2, e3]
                    clear e1 e2 e3
                    go_wp2
                    exact ⟨rfl, HCx.out.quiet 4 rfl⟩
                  · intro L wx vals hi hu hcl hC
                    simp [predL, predE, Region.binds, UpL] at hu
                    have e1 : vals 1 = .bool false := hC.v 1 (by simp [hu])
                    have e4 : vals 4 = .pointer (some ⟨by_, oy + k * 3, none⟩) := hC.v 4 (by simp [hu])
                    have h0 := (HC4.out wx hC.b).1
                    have h1 := (HC4.out wx hC.b).2.1
                    have h2 := (HC4.out wx hC.b).2.2.1
                    have HCx := Lib.hid hC
                    clear hC hcl hu hi
                    simp [fillA, Act.put]
                    simp only [e1, e4]
                    clear e1 e4
                    go_wp2
                    exact ⟨rfl, HCx.out.quiet 5 rfl⟩
                  · intro L wx vals hi hu hcl hC
                    simp [predL, predE, Region.binds, UpL] at hu
                    have e1 : vals 1 = .bool false := hC.v 1 (by simp [hu])
                    have HCx := Lib.hid hC
                    clear hC hcl hu hi
                    simp [fillA, Act.put]
                    simp only [e1]
                    clear e1
                    go_wp2
                    exact ⟨rfl, HCx.out.quiet 6 rfl⟩
                  · intro L wx vals hi hu hcl hC
                    simp [predL, predE, Region.binds, UpL] at hu
                    have e1 : vals 1 = .bool false := hC.v 1 (by simp [hu])
                    have HCx := Lib.hid hC
                    clear hC hcl hu hi
                    simp [fillA, Act.put]
                    simp only [e1]
                    clear e1
                    go_wp2
                    exact ⟨rfl, HCx.out.quiet 7 rfl⟩
                  · intro L wx vals hi hu hcl hC
                    simp [predL, predE, Region.binds, UpL] at hu
                    have e1 : vals 1 = .bool false := hC.v 1 (by simp [hu])
                    have e6 : vals 6 = .slice (some ⟨bx, ox, none⟩) n c1 := hC.v 6 (by simp [hu])
                    have e7 : vals 7 = .int .i64 (i : Nat) := hC.v 7 (by simp [hu])
                    have HCx := Lib.hid hC
                    clear hC hcl hu hi
                    simp [fillA, Act.put]
                    simp only [e1, e6, e7]
                    clear e1 e6 e7
                    go_wp2
                    exact ⟨rfl, HCx.out.quiet 8 rfl⟩
                  · intro L wx vals hi hu hcl hC
                    simp [predL, predE, Region.binds, UpL] at hu
                    have e1 : vals 1 = .bool false := hC.v 1 (by simp [hu])
                    have e8 : vals 8 = .pointer (some ⟨bx, ox + i * 3, none⟩) := hC.v 8 (by simp [hu])
                    have h0 := (HC4.out wx hC.b).2.2.2.1
                    have h1 := (HC4.out wx hC.b).2.2.2.2.1
                    have h2 := (HC4.out wx hC.b).2.2.2.2.2
                    have HCx := Lib.hid hC
                    clear hC hcl hu hi
                    simp [fillA, Act.put]
                    simp only [e1, e8]
                    clear e1 e8
                    go_wp2
                    exact ⟨rfl, HCx.out.quiet 9 rfl⟩
                  · intro L wx vals hi hu hcl hC
                    simp [predL, predE, Region.binds, UpL] at hu
                    have e1 : vals 1 = .bool false := hC.v 1 (by simp [hu])
                    have e5 : vals 5 = .agg #[.int .i64 yq, .int .i64 yi, .int .i64 yt] := hC.v 5 (by simp [hu])
                    have e9 : vals 9 = .agg #[.int .i64 xq, .int .i64 xi, .int .i64 xt] := hC.v 9 (by simp [hu])
                    have HCx := Lib.hid hC
                    clear hC hcl hu hi
                    simp [fillA, Act.put]
                    simp only [e1, e5, e9]
                    clear e1 e5 e9
                    cases h1 : (yq == xq) with
                    | false =>
                      have hr0 : r = false := by rw [HRR.out, h1]; rfl
                      go_wp2
                      exact ⟨rfl, HCx.out.quiet 10 (by rw [hr0]; rfl)⟩
                    | true =>
                      cases h2 : (yi == xi) with
                      | false =>
                        have hr0 : r = false := by rw [HRR.out, h1, h2]; rfl
                        go_wp2
                        exact ⟨rfl, HCx.out.quiet 10 (by rw [hr0]; rfl)⟩
                      | true =>
                        cases h3 : (yt == xt) with
                        | false =>
                          have hr0 : r = false := by rw [HRR.out, h1, h2, h3]; rfl
                          go_wp2
                          exact ⟨rfl, HCx.out.quiet 10 (by rw [hr0]; rfl)⟩
                        | true =>
                          have hr0 : r = true := by rw [HRR.out, h1, h2, h3]; rfl
                          go_wp2
                          exact ⟨rfl, HCx.out.quiet 10 (by rw [hr0]; rfl)⟩
                  · intro L wx vals hi hu hcl hC
                    simp [predL, predE, Region.binds, UpL] at hu
                    have e1 : vals 1 = .bool false := hC.v 1 (by simp [hu])
                    have e10 : vals 10 = .bool r := hC.v 10 (by simp [hu])
                    have HCx := Lib.hid hC
                    clear hC hcl hu hi
                    simp [fillA, Act.put]
                    simp only [e1, e10]
                    clear e1 e10
                    go_wp2
                    exact ⟨rfl, HCx.out.quiet 11 rfl⟩
                  · intro L wx vals hi hu hcl hC
                    simp [predL, predE, Region.binds, UpL] at hu
                    have e11 : vals 11 = .bool r := hC.v 11 (by simp [hu])
                    have HCx := Lib.hid hC
                    clear hC hcl hu hi
                    simp [fillA, Act.put]
                    simp only [e11]
                    clear e11
                    go_wp2
                    exact ⟨rfl, HCx.out.quiet 12 rfl⟩
                · intro wz vals U hC hall
                  have e12 : vals 12 = .bool r := hC.v 12 (hall 12 (by simp))
                  have HI7 := Lib.hid (HII.out wz hC.b)
                  have HT2 := Lib.hid (HTN.out r (by simp))
                  simp only [fillA, if_true, Act.put]
                  simp
                  simp only [e12]
                  clear hC hall e12 HC4 HII HTN
                  generalize vals 0 = t_0 at *
                  generalize vals 1 = t_1 at *
                  generalize vals 2 = t_2 at *
                  generalize vals 3 = t_3 at *
                  generalize vals 4 = t_4 at *
                  generalize vals 5 = t_5 at *
                  generalize vals 6 = t_6 at *
                  generalize vals 7 = t_7 at *
                  generalize vals 8 = t_8 at *
                  generalize vals 9 = t_9 at *
                  generalize vals 10 = t_10 at *
                  generalize vals 11 = t_11 at *
                  go_wp2
                  go_roundw
                  case rel => exact ⟨k + 1, r, by omega, by go_num, rfl, HT2, HI7⟩
                  case measure => simp [intOf]; omega
              · clear d1 d2 d3 d4 d5 d6 hrr HI6 HPL HLL HM hkY
                go_wp2_with fail
                refine wp_region_looseH 110 (by kernel_rfl) (by kernel_rfl) (StB wr.drew (fun vI => [.bool true, .bool true, undef, undef, undef, undef, undef, undef, undef, undef, undef, .bool true, .bool true].getD vI undef)) rfl StB.start ?_ ?_
                · simp only [OblAllH]
                  refine ⟨?_, ?_, ?_, ?_, ?_, ?_, ?_, ?_, ?_, ?_, ?_, ?_, ?_, trivial⟩
                  · intro L wx vals hi hu hcl hC
                    have HCx := Lib.hid hC
                    clear hC hcl hu hi
                    simp [fillA]
                    go_wp2
                    exact ⟨rfl, HCx.out.quiet 0 rfl⟩
                  · intro L wx vals hi hu hcl hC
                    simp [predL, predE, Region.binds, UpL] at hu
                    have e0 : vals 0 = .bool true := hC.v 0 (by simp [hu])
                    have HCx := Lib.hid hC
                    clear hC hcl hu hi
                    simp [fillA, Act.put]
                    simp only [e0]
                    clear e0
                    go_wp2
                    exact ⟨rfl, HCx.out.quiet 1 rfl⟩
                  · intro L wx vals hi hu hcl hC
                    simp [predL, predE, Region.binds, UpL] at hu
                    have e1 : vals 1 = .bool true := hC.v 1 (by simp [hu])
                    have HCx := Lib.hid hC
                    clear hC hcl hu hi
                    simp [fillA, Act.put]
                    simp only [e1]
                    clear e1
                    go_wp2
                    exact ⟨rfl, HCx.out.quiet 2 rfl⟩
                  · intro L wx vals hi hu hcl hC
                    simp [predL, predE, Region.binds, UpL] at hu
                    have e1 : vals 1 = .bool true := hC.v 1 (by simp [hu])
                    have HCx := Lib.hid hC
                    clear hC hcl hu hi
                    simp [fillA, Act.put]
                    simp only [e1]
                    clear e1
                    go_wp2
                    exact ⟨rfl, HCx.out.quiet 3 rfl⟩
                  · intro L wx vals hi hu hcl hC
                    simp [predL, predE, Region.binds, UpL] at hu
                    have e1 : vals 1 = .bool true := hC.v 1 (by simp [hu])
                    have HCx := Lib.hid hC
                    clear hC hcl hu hi
                    simp [fillA, Act.put]
                    simp only [e1]
                    clear e1
                    go_wp2
                    exact ⟨rfl, HCx.out.quiet 4 rfl⟩
                  · intro L wx vals hi hu hcl hC
                    simp [predL, predE, Region.binds, UpL] at hu
                    have e1 : vals 1 = .bool true := hC.v 1 (by simp [hu])
                    have HCx := Lib.hid hC
                    clear hC hcl hu hi
                    simp [fillA, Act.put]
                    simp only [e1]
                    clear e1
                    go_wp2
                    exact ⟨rfl, HCx.out.quiet 5 rfl⟩
                  · intro L wx vals hi hu hcl hC
                    simp [predL, predE, Region.binds, UpL] at hu
                    have e1 : vals 1 = .bool true := hC.v 1 (by simp [hu])
                    have HCx := Lib.hid hC
                    clear hC hcl hu hi
                    simp [fillA, Act.put]
                    simp only [e1]
                    clear e1
                    go_wp2
                    exact ⟨rfl, HCx.out.quiet 6 rfl⟩
                  · intro L wx vals hi hu hcl hC
                    simp [predL, predE, Region.binds, UpL] at hu
                    have e1 : vals 1 = .bool true := hC.v 1 (by simp [hu])
                    have HCx := Lib.hid hC
                    clear hC hcl hu hi
                    simp [fillA, Act.put]
                    simp only [e1]
                    clear e1
                    go_wp2
                    exact ⟨rfl, HCx.out.quiet 7 rfl⟩
                  · intro L wx vals hi hu hcl hC
                    simp [predL, predE, Region.binds, UpL] at hu
                    have e1 : vals 1 = .bool true := hC.v 1 (by simp [hu])
                    have HCx := Lib.hid hC
                    clear hC hcl hu hi
                    simp [fillA, Act.put]
                    simp only [e1]
                    clear e1
                    go_wp2
                    exact ⟨rfl, HCx.out.quiet 8 rfl⟩
                  · intro L wx vals hi hu hcl hC
                    simp [predL, predE, Region.binds, UpL] at hu
                    have e1 : vals 1 = .bool true := hC.v 1 (by simp [hu])
                    have HCx := Lib.hid hC
                    clear hC hcl hu hi
                    simp [fillA, Act.put]
                    simp only [e1]
                    clear e1
                    go_wp2
                    exact ⟨rfl, HCx.out.quiet 9 rfl⟩
                  · intro L wx vals hi hu hcl hC
                    simp [predL, predE, Region.binds, UpL] at hu
                    have e1 : vals 1 = .bool true := hC.v 1 (by simp [hu])
                    have HCx := Lib.hid hC
                    clear hC hcl hu hi
                    simp [fillA, Act.put]
                    simp only [e1]
                    clear e1
                    go_wp2
                    exact ⟨rfl, HCx.out.quiet 10 rfl⟩
                  · intro L wx vals hi hu hcl hC
                    simp [predL, predE, Region.binds, UpL] at hu
                    have e1 : vals 1 = .bool true := hC.v 1 (by simp [hu])
                    have e10 : vals 10 = undef := hC.v 10 (by simp [hu])
                    have HCx := Lib.hid hC
                    clear hC hcl hu hi
                    simp [fillA, Act.put]
                    simp only [e1, e10]
                    clear e1 e10
                    go_wp2
                    exact ⟨rfl, HCx.out.quiet 11 rfl⟩
                  · intro L wx vals hi hu hcl hC
                    simp [predL, predE, Region.binds, UpL] at hu
                    have e11 : vals 11 = .bool true := hC.v 11 (by simp [hu])
                    have HCx := Lib.hid hC
                    clear hC hcl hu hi
                    simp [fillA, Act.put]
                    simp only [e11]
                    clear e11
                    go_wp2
                    exact ⟨rfl, HCx.out.quiet 12 rfl⟩
                · intro wz vals U hC hall
                  have e12 : vals 12 = .bool true := hC.v 12 (hall 12 (by simp))
                  have HI7 := Lib.hid (HII.out wz hC.b)
                  have HT2 := Lib.hid (HTN.out true (by simp))
                  simp only [fillA, if_true, Act.put]
                  simp
                  simp only [e12]
                  clear hC hall e12 HII HTN
                  generalize vals 0 = t_0 at *
                  generalize vals 1 = t_1 at *
                  generalize vals 2 = t_2 at *
                  generalize vals 3 = t_3 at *
                  generalize vals 4 = t_4 at *
                  generalize vals 5 = t_5 at *
                  generalize vals 6 = t_6 at *
                  generalize vals 7 = t_7 at *
                  generalize vals 8 = t_8 at *
                  generalize vals 9 = t_9 at *
                  generalize vals 10 = t_10 at *
                  generalize vals 11 = t_11 at *
                  go_wp2
                  go_roundw
                  case rel => exact ⟨k + 1, true, by omega, by go_num, rfl, HT2, HI7⟩
                  case measure => simp [intOf]; omega
            · obtain rfl : k = ny := by omega
              have hth : th = !p X[i] := by
                have h9 := HTH.out
                rw [List.take_of_length_le (by rw [HLL.out.2.1]; exact Nat.le_refl _), HKK.out] at h9
                exact h9
              obtain ⟨g1, g2, g3⟩ := HFF.out
              cases hpx : p X[i]
              · rw [hpx, Bool.not_false] at hth
                subst hth
                have HM2 := Lib.hid (show ((X.take (i + 1)).filter p).length = m by rw [g2 hpx]; exact HM.out)
                clear g1 g2 g3 hpx HTH HKK HFF HM HPL HLL HXX HKP HAT HFY HFN
                go_wp2
                go_roundw
                case rel => exact ⟨i + 1, m, by omega, by omega, by go_num, rfl, HM2, HI6⟩
                case measure => simp [intOf]; omega
              · rw [hpx, Bool.not_true] at hth
                subst hth
                have HM2 := Lib.hid (show ((X.take (i + 1)).filter p).length = m + 1 by rw [g1 hpx, List.length_append, HM.out]; rfl)
                obtain ⟨q1, q2⟩ := g3 hpx
                rw [HM.out] at q1
                have hmnl : m < nl := by have := HLL.out.2.2.2; omega
                have hmL : m < Lk.length := by have := HLL.out.2.2.1; omega
                have hLm : Lk[m] = X[i].i := by
                  have h7 : (X.filter p)[m]'q1 = X[i] := by
                    have h8 := q2
                    simp only [HM.out] at h8
                    exact h8
                  have h9 : Lk[m]? = some X[i].i := by
                    rw [HPL.out, List.getElem?_map, List.getElem?_eq_getElem q1, h7]; rfl
                  rw [List.getElem?_eq_getElem hmL] at h9
                  exact Option.some.inj h9
                have hmi' : (m : Int) < nl := by omega
                have hm0' : (0 : Int) ≤ m := by omega
                obtain ⟨bl, ol, c3', e1, _, _, hbl, _, hcl⟩ := (LsP.any HI6.out.drop).el hmL
                obtain ⟨bx, ox, c1', e2, _, _, hbx, _, hcx⟩ := (LsP.any HI6.out.drop.drop).el hiX
                obtain ⟨rfl, rfl⟩ : A3 = some ⟨bl, ol, none⟩ ∧ c3 = c3' := by simpa using (show Value.slice A3 nl c3 = .slice (some ⟨bl, ol, none⟩) nl c3' by have := HLL.out.2.2.1; rw [this] at e1; exact e1)
                obtain ⟨rfl, rfl⟩ : A1 = some ⟨bx, ox, none⟩ ∧ c1 = c1' := by simpa using (show Value.slice A1 n c1 = .slice (some ⟨bx, ox, none⟩) n c1' by have := HLL.out.1; rw [this] at e2; exact e2)
                have d1 : wr.cell? ⟨bl, ol + m * 1 + 0, none⟩ = some (.int .i64 Lk[m]) := hcl m hmL 0 (by omega)
                rw [Nat.mul_one, Nat.add_zero, hLm] at d1
                have d2 : wr.cell? ⟨bx, ox + i * 3 + 1, none⟩ = some (.int .i64 X[i].i) := hcx i hiX 1 (by omega)
                obtain ⟨xi, hxi⟩ : ∃ xi, X[i].i = xi := ⟨_, rfl⟩
                rw [hxi] at d1 d2
                have hxx9 : (xi != xi) = false := by simp
                have t1 : decide ((nl : Int) ≤ (m : Int)) = false := by simp; omega
                have t1' : decide (nl ≤ m) = false := by simp; omega
                have HC4 := Lib.hid (fun (W : World) (hw : Below wr.drew.heap.size wr.drew W) => And.intro ((((Below.refl _ wr).drew.trans hw).cell (p := ⟨bl, ol + m, none⟩) hbl).trans d1) ((((Below.refl _ wr).drew.trans hw).cell (p := ⟨bx, ox + i * 3 + 1, none⟩) hbx).trans d2))
                have HII := Lib.hid (fun (W : World) (hw : Below wr.drew.heap.size wr.drew W) => HI6.out.step (LsP.frm.star (LsP.frm.star (LsP.frm.star (SnP.frm.star GenP.frm)))) ((Below.refl _ wr).drew.trans hw))
                clear d1 d2 hxi hLm hcl hcx e1 e2 q1 q2 g1 g2 g3 hpx HTH HKK HFF HM HPL HLL HXX HKP HAT HFY HFN hmL HI6
                go_wp2_with fail
                refine wp_region_looseS 110 (by kernel_rfl) (by kernel_rfl) (StB wr.drew (fun vI => [.int .i64 (m : Nat), .slice (some ⟨bl, ol, none⟩) nl c3, .int .i64 (nl : Nat), .bool false, .bool false, .slice (some ⟨bl, ol, none⟩) nl c3, .int .i64 (m : Nat), .pointer (some ⟨bl, ol + m, none⟩), .int .i64 xi, .slice (some ⟨bx, ox, none⟩) n c1, .int .i64 (i : Nat), .pointer (some ⟨bx, ox + i * 3, none⟩), .pointer (some ⟨bx, ox + i * 3 + 1, none⟩), .int .i64 xi, .bool false, .bool false].getD vI undef)) rfl StB.start ?_ ?_
                · simp only [OblAllS]
                  refine ⟨?_, ?_, ?_, ?_, ?_, ?_, ?_, ?_, ?_, ?_, ?_, ?_, ?_, ?_, ?_, ?_, trivial⟩
                  · intro L wx vals hi hu hcl hC
                    have HCx := Lib.hid hC
                    clear hC hcl hu hi
                    simp only [fillA, if_true, Act.put]
                    simp
                    go_wp2
                    exact ⟨rfl, HCx.out.quiet 0 rfl⟩
                  · intro L wx vals hi hu hcl hC
                    have HCx := Lib.hid hC
                    clear hC hcl hu hi
                    simp only [fillA, if_true, Act.put]
                    simp
                    go_wp2
                    exact ⟨rfl, HCx.out.quiet 1 rfl⟩
                  · intro L wx vals hi hu hcl hC
                    simp [predL, predE, Region.binds, UpL] at hu
                    have e1 : vals 1 = .slice (some ⟨bl, ol, none⟩) nl c3 := hC.v 1 (by simp [hu])
                    have HCx := Lib.hid hC
                    clear hC hcl hu hi
                    simp only [fillA, if_true, Act.put]
                    simp
                    simp only [e1]
                    clear e1
                    go_wp2
                    exact ⟨rfl, HCx.out.quiet 2 rfl⟩
                  · intro L wx vals hi hu hcl hC
                    simp [predL, predE, Region.binds, UpL] at hu
                    have e0 : vals 0 = .int .i64 (m : Nat) := hC.v 0 (by simp [hu])
                    have e2 : vals 2 = .int .i64 (nl : Nat) := hC.v 2 (by simp [hu])
                    have HCx := Lib.hid hC
                    clear hC hcl hu hi
                    simp only [fillA, if_true, Act.put]
                    simp
                    simp only [e0, e2]
                    clear e0 e2
                    go_wp2
                    exact ⟨rfl, HCx.out.quiet 3 rfl⟩
                  · intro L wx vals hi hu hcl hC
                    simp [predL, predE, Region.binds, UpL] at hu
                    have e3 : vals 3 = .bool false := hC.v 3 (by simp [hu])
                    have HCx := Lib.hid hC
                    clear hC hcl hu hi
                    simp only [fillA, if_true, Act.put]
                    simp
                    simp only [e3]
                    clear e3
                    go_wp2
                    exact ⟨rfl, HCx.out.quiet 4 rfl⟩
                  · intro L wx vals hi hu hcl hC
                    simp [predL, predE, Region.binds, UpL] at hu
                    have e4 : vals 4 = .bool false := hC.v 4 (by simp [hu])
                    have HCx := Lib.hid hC
                    clear hC hcl hu hi
                    simp only [fillA, if_true, Act.put]
                    simp
                    simp only [e4]
                    clear e4
                    go_wp2
                    exact ⟨rfl, HCx.out.quiet 5 rfl⟩
                  · intro L wx vals hi hu hcl hC
                    simp [predL, predE, Region.binds, UpL] at hu
                    have e4 : vals 4 = .bool false := hC.v 4 (by simp [hu])
                    have HCx := Lib.hid hC
                    clear hC hcl hu hi
                    simp only [fillA, if_true, Act.put]
                    simp
                    simp only [e4]
                    clear e4
                    go_wp2
                    exact ⟨rfl, HCx.out.quiet 6 rfl⟩
                  · intro L wx vals hi hu hcl hC
                    simp [predL, predE, Region.binds, UpL] at hu
                    have e4 : vals 4 = .bool false := hC.v 4 (by simp [hu])
                    have e5 : vals 5 = .slice (some ⟨bl, ol, none⟩) nl c3 := hC.v 5 (by simp [hu])
                    have e6 : vals 6 = .int .i64 (m : Nat) := hC.v 6 (by simp [hu])
                    have HCx := Lib.hid hC
                    clear hC hcl hu hi
                    simp only [fillA, if_true, Act.put]
                    simp
                    simp only [e4, e5, e6]
                    clear e4 e5 e6
                    go_wp2
                    exact ⟨rfl, HCx.out.quiet 7 rfl⟩
                  · intro L wx vals hi hu hcl hC
                    simp [predL, predE, Region.binds, UpL] at hu
                    have e4 : vals 4 = .bool false := hC.v 4 (by simp [hu])
                    have e7 : vals 7 = .pointer (some ⟨bl, ol + m, none⟩) := hC.v 7 (by simp [hu])
                    have h0 := (HC4.out wx hC.b).1
                    have HCx := Lib.hid hC
                    clear hC hcl hu hi
                    simp only [fillA, if_true, Act.put]
                    simp
                    simp only [e4, e7]
                    clear e4 e7
                    go_wp2
                    exact ⟨rfl, HCx.out.quiet 8 rfl⟩
                  · intro L wx vals hi hu hcl hC
                    simp [predL, predE, Region.binds, UpL] at hu
                    have e4 : vals 4 = .bool false := hC.v 4 (by simp [hu])
                    have HCx := Lib.hid hC
                    clear hC hcl hu hi
                    simp only [fillA, if_true, Act.put]
                    simp
                    simp only [e4]
                    clear e4
                    go_wp2
                    exact ⟨rfl, HCx.out.quiet 9 rfl⟩
                  · intro L wx vals hi hu hcl hC
                    simp [predL, predE, Region.binds, UpL] at hu
                    have e4 : vals 4 = .bool false := hC.v 4 (by simp [hu])
                    have HCx := Lib.hid hC
                    clear hC hcl hu hi
                    simp only [fillA, if_true, Act.put]
                    simp
                    simp only [e4]
                    clear e4
                    go_wp2
                    exact ⟨rfl, HCx.out.quiet 10 rfl⟩
                  · intro L wx vals hi hu hcl hC
                    simp [predL, predE, Region.binds, UpL] at hu
                    have e4 : vals 4 = .bool false := hC.v 4 (by simp [hu])
                    have e9 : vals 9 = .slice (some ⟨bx, ox, none⟩) n c1 := hC.v 9 (by simp [hu])
                    have e10 : vals 10 = .int .i64 (i : Nat) := hC.v 10 (by simp [hu])
                    have HCx := Lib.hid hC
                    clear hC hcl hu hi
                    simp only [fillA, if_true, Act.put]
                    simp
                    simp only [e4, e9, e10]
                    clear e4 e9 e10
                    go_wp2
                    exact ⟨rfl, HCx.out.quiet 11 rfl⟩
                  · intro L wx vals hi hu hcl hC
                    simp [predL, predE, Region.binds, UpL] at hu
                    have e4 : vals 4 = .bool false := hC.v 4 (by simp [hu])
                    have e11 : vals 11 = .pointer (some ⟨bx, ox + i * 3, none⟩) := hC.v 11 (by simp [hu])
                    have HCx := Lib.hid hC
                    clear hC hcl hu hi
                    simp only [fillA, if_true, Act.put]
                    simp
                    simp only [e4, e11]
                    clear e4 e11
                    go_wp2
                    exact ⟨rfl, HCx.out.quiet 12 rfl⟩
                  · intro L wx vals hi hu hcl hC
                    simp [predL, predE, Region.binds, UpL] at hu
                    have e4 : vals 4 = .bool false := hC.v 4 (by simp [hu])
                    have e12 : vals 12 = .pointer (some ⟨bx, ox + i * 3 + 1, none⟩) := hC.v 12 (by simp [hu])
                    have h0 := (HC4.out wx hC.b).2
                    have HCx := Lib.hid hC
                    clear hC hcl hu hi
                    simp only [fillA, if_true, Act.put]
                    simp
                    simp only [e4, e12]
                    clear e4 e12
                    go_wp2
                    exact ⟨rfl, HCx.out.quiet 13 rfl⟩
                  · intro L wx vals hi hu hcl hC
                    simp [predL, predE, Region.binds, UpL] at hu
                    have e4 : vals 4 = .bool false := hC.v 4 (by simp [hu])
                    have e8 : vals 8 = .int .i64 xi := hC.v 8 (by simp [hu])
                    have e13 : vals 13 = .int .i64 xi := hC.v 13 (by simp [hu])
                    have HCx := Lib.hid hC
                    clear hC hcl hu hi
                    simp only [fillA, if_true, Act.put]
                    simp
                    simp only [e4, e8, e13]
                    clear e4 e8 e13
                    go_wp2
                    exact ⟨rfl, HCx.out.quiet 14 rfl⟩
                  · intro L wx vals hi hu hcl hC
                    simp [predL, predE, Region.binds, UpL] at hu
                    have e4 : vals 4 = .bool false := hC.v 4 (by simp [hu])
                    have e14 : vals 14 = .bool false := hC.v 14 (by simp [hu])
                    have HCx := Lib.hid hC
                    clear hC hcl hu hi
                    simp only [fillA, if_true, Act.put]
                    simp
                    simp only [e4, e14]
                    clear e4 e14
                    go_wp2
                    exact ⟨rfl, HCx.out.quiet 15 rfl⟩
                · intro wz vals U hC hall
                  have e15 : vals 15 = .bool false := hC.v 15 (hall 15 (by simp))
                  have HI7 := Lib.hid (HII.out wz hC.b)
                  simp only [fillA, if_true, Act.put]
                  simp
                  simp only [e15]
                  clear hC hall e15 HC4 HII
                  generalize vals 0 = t_0 at *
                  generalize vals 1 = t_1 at *
                  generalize vals 2 = t_2 at *
                  generalize vals 3 = t_3 at *
                  generalize vals 4 = t_4 at *
                  generalize vals 5 = t_5 at *
                  generalize vals 6 = t_6 at *
                  generalize vals 7 = t_7 at *
                  generalize vals 8 = t_8 at *
                  generalize vals 9 = t_9 at *
                  generalize vals 10 = t_10 at *
                  generalize vals 11 = t_11 at *
                  generalize vals 12 = t_12 at *
                  generalize vals 13 = t_13 at *
                  generalize vals 14 = t_14 at *
                  go_wp2
                  go_roundw
                  case rel => exact ⟨i + 1, m + 1, by omega, by omega, by go_num, by go_num, HM2, HI7⟩
                  case measure => simp [intOf]; omega
        · obtain rfl : i = n := by omega
          have hmn : m = nl := by
            have h9 := HM.out
            rw [List.take_of_length_le (by rw [HLL.out.1]; exact Nat.le_refl _), HLL.out.2.2.2] at h9
            exact h9.symm
          subst hmn
          have hss : IntKind.i64.wrap ((ny : Int) + m) = (i : Int) := by rw [IntWalk.i64_in _ (by omega)]; omega
          have HF := Lib.hid HI5.out.out
          have hb1 : ((m : Int) == m) = true := by simp
          have hb2 : ((i : Int) == i) = true := by simp
          clear HI5 HM HPL HLL HKP HAT HFY HFN
          go_wp2_with fail
          (with_reducible refine (HAW.out _).mono ?_); rintro e w9 ⟨rfl, hb⟩
          have HF2 := Lib.hid (HF.out.trans (hb.mono HF.out.size))
          clear hb HF
          go_wp2
          go_ret
          exact ⟨rfl, HF2.out⟩
end Go.Proofs.Ytglhaclehdkagaa

