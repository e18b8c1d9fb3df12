/-
  Layer 16: the walk of the statement on the window (SenderWindow). Every input; no condition. Written by gen_snwalk2.py.
-/
import Derived.Test.YtglhaclehdkagaaSnAwake
import Derived.Test.YtglhaclehdkagaaSnWin
import Derived.Deep.CutBlock
import Derived.Deep.DeepCutAuto
import Derived.Deep.LoopGhost
import Derived.LoopTactic
namespace Go.Proofs.Ytglhaclehdkagaa
open Go.ChangeShapes Go.WideShapes Go.ChangeAt Go.RowKit
set_option linter.unusedVariables false

section
variable {base B : Nat} {a : Option Addr} {len cap R q : Nat} {s : SnS} {w w0 w' : World}
theorem SnG.next (h : Inv base w0 (Star (SnP R s) (GenP base B a len cap q)) w) {n : Int} (n0 : 1 ≤ n) (n1 : n ≤ 1000000000) (hq : q ≤ 1000000000) :
    Calls Try.prog 8 #[.pointer (some ⟨B, 0, none⟩), .int .i64 n] w fun e w' => ∃ r : Int, 0 ≤ r ∧ r < n ∧ e = .returned (.int .i64 r) ∧ Inv base w0 (Star (SnP R s) (GenP base B a len cap (q + 1))) w' :=
  (Inv.call h (Acts.right SnP.frm (GenP.next n0 n1 hq))).mono fun e w' ⟨r, e1, h2⟩ => ⟨r.1, r.2.1, r.2.2, e1, h2⟩
theorem SnG.get (h : Inv base w0 (Star (SnP R s) (GenP base B a len cap q)) w) : ∃ T, SnP R s T w := by
  obtain ⟨T, ⟨A, B, _, _, hp, _⟩, _⟩ := h; exact ⟨A, hp⟩
theorem SnG.pbase (h : Inv base w0 (Star (SnP R s) (GenP base B a len cap q)) w) : Calls Try.prog 14 #[.pointer (some ⟨R, 0, none⟩)] w fun e w' => e = .returned (.int .i64 (snBase s)) ∧ Inv base w0 (Star (SnP R s) (GenP base B a len cap q)) w' := by
  obtain ⟨T, hp⟩ := SnG.get h; exact Inv.calm h (SnP.frm.star GenP.frm) (psbase_any hp)
theorem SnG.open_ (h : Inv base w0 (Star (SnP R s) (GenP base B a len cap q)) w) : Calls Try.prog 12 #[.pointer (some ⟨R, 0, none⟩)] w fun e w' => e = .returned (.bool (snOpen s)) ∧ Inv base w0 (Star (SnP R s) (GenP base B a len cap q)) w' := by
  obtain ⟨T, hp⟩ := SnG.get h; exact Inv.calm h (SnP.frm.star GenP.frm) (psopen_any hp)
theorem SnG.ack (h : Inv base w0 (Star (SnP R s) (GenP base B a len cap q)) w) (hn : s.l.length ≤ 9999) (b m : Int) (hm : Wd m) : Calls Try.prog 21 #[.pointer (some ⟨R, 0, none⟩), .agg #[.int .i64 b, .int .u64 m]] w fun e w' => ∃ v, e = .returned v ∧ Inv base w0 (Star (SnP R (s.ack b m)) (GenP base B a len cap q)) w' :=
  (Inv.call h ((psack_any hn b m hm).star GenP.frm)).mono fun e w' ⟨v, e1, h2⟩ => ⟨v, e1, (h2.imp fun T => Star.assoc).drop⟩
theorem SnG.pend (h : Inv base w0 (Star (SnP R s) (GenP base B a len cap q)) w) (hn : s.l.length ≤ 9999) : Calls Try.prog 17 #[.pointer (some ⟨R, 0, none⟩)] w fun e w' => ∃ A c, e = .returned (.slice A s.l.length c) ∧ Inv base w0 (Star (LsP csN 3 38 (.slice A s.l.length c) s.l) (Star (SnP R s) (GenP base B a len cap q))) w' := by
  refine (Inv.call h ((Acts.got SnP.frm fun T w hp => pspend_any hn hp).star GenP.frm)).mono ?_
  rintro e w' ⟨v, e1, h2⟩
  have h3 := h2.imp fun T => Star.assoc
  obtain ⟨A, c, rfl, _⟩ := (LsP.any h3).shape
  exact ⟨A, c, e1, h3⟩
end
set_option maxRecDepth 100000 in
set_option maxHeartbeats 16000000 in
theorem walkWindow16 (A : Option Addr) (len cap : Nat) (w : World) (he : Elems w.heap.size A len w) :
    Calls Try.prog 4 #[.slice A len cap] w (Calm (.bool true) w) := by
  have h0 := GenP.new (w0 := w) (cap := cap) he (Below.refl _ _) he
  have HX := Lib.hid (Inv.call h0 (GenP.next (n := 8) (by omega) (by omega) (by omega)))
  have HAW := Lib.hid (fun w => awake16_any w)
  clear h0 he
  unfold Calm at *
  go_enter Try.func4, Try.ntmps4
  go_wp2_with fail
  (with_reducible refine (new_any A len cap _).mono ?_); rintro e w' ⟨rfl, rfl⟩
  go_wp2_with fail
  (with_reducible refine HX.out.mono ?_); rintro e w1 ⟨⟨r, r0, r1⟩, rfl, h1⟩
  have wa : IntKind.i64.wrap (1 + r) = 1 + r := IntWalk.i64_in _ (by omega)
  obtain ⟨wi, hwi⟩ : ∃ wi, 1 + r = wi := ⟨_, rfl⟩
  have hw1 : 1 ≤ wi ∧ wi ≤ 8 := by omega
  rw [hwi] at wa
  have HX := Lib.hid (h1.emp.call ((psnew_any (wi := wi) (tr := 2) (snB_of ⟨by omega, by omega, by omega, by omega⟩)).star GenP.frm))
  have HWN := Lib.hid (SnWin.new (wI := wi) (by omega))
  clear h1
  dsimp only
  go_wp2_with fail
  (with_reducible refine HX.out.mono ?_); rintro e w2 ⟨R, rfl, h1⟩
  have HI := Lib.hid h1
  clear h1 HX wa hwi r0 r1
  go_wp2_with fail
  go_loopw [7, 8] (fun s7 s8 wr => ∃ (i q : Nat) (nxt : Int) (s : SnS), 1 ≤ i ∧ i ≤ 60 ∧ q ≤ 2 * i ∧ s8 = .int .i64 i ∧ s7 = .int .i64 nxt ∧ Hid (SnWin wi s nxt i) ∧ Hid (Inv w.heap.size w (Star (SnP R s) (GenP w.heap.size w.heap.size A len cap q)) wr)) (fun _ s8 _ => 60 - (intOf s8).toNat)
  case atStart => exact ⟨1, _, 0, _, by omega, by omega, by omega, rfl, rfl, HWN, HI⟩
  case round =>
    obtain ⟨i, q, nxt, s, hi1, hi, hq, rfl, rfl, HN, HS⟩ := hrel
    clear HI HWN
    by_cases hlt : i < 60
    · have hlt' : (i : Int) < 60 := by omega
      have hi0 : (1 : Int) ≤ i := by omega
      have hsl := HN.out.len
      have HX := Lib.hid (SnG.next HS.out (n := 3) (by omega) (by omega) (by omega))
      clear HS
      go_wp2_with fail
      (with_reducible refine HX.out.mono ?_); rintro e w3 ⟨v, v0, v1, rfl, h1⟩
      have HS := Lib.hid h1
      clear h1 HX
      go_upto_block 2 with fail
      go_cut [7] (fun s7 wx => ∃ (q' : Nat) (nxt' : Int) (s' : SnS), q' ≤ q + 2 ∧ s7 = .int .i64 nxt' ∧ Hid (SnWin wi s' nxt' ((i : Int) + 1)) ∧ Hid (Inv w.heap.size w (Star (SnP R s') (GenP w.heap.size w.heap.size A len cap q')) wx))
      case first =>
        rcases (by omega : v = 0 ∨ v = 1 ∨ (¬ v = 0 ∧ ¬ v = 1)) with rfl | rfl | ⟨hv0, hv1⟩
        · have HX := Lib.hid (SnG.pbase HS.out)
          clear HS
          go_wp2_with fail
          (with_reducible refine HX.out.mono ?_); rintro e w4 ⟨rfl, h1⟩
          have HX := Lib.hid (SnG.next h1 (n := 64) (by omega) (by omega) (by omega))
          clear h1
          go_wp2_with fail
          (with_reducible refine HX.out.mono ?_); rintro e w5 ⟨x, x0, x1, rfl, h1⟩
          have wc : IntKind.u64.wrap x = x := by rw [IntKind.wrap_u64]; omega
          have HX := Lib.hid (SnG.ack h1 (by omega) (snBase s) x ⟨by omega, by omega⟩)
          have HN2 := Lib.hid ((HN.out.ack (snBase s) x).more (by omega))
          clear h1
          go_wp2_with fail
          (with_reducible refine HX.out.mono ?_); rintro e w6 ⟨v9, rfl, h1⟩
          have HF := Lib.hid h1
          clear h1 HX
          go_wp2
          go_meet
          case rel => exact ⟨q + 1 + 1, _, _, by omega, rfl, HN2, HF⟩
        · have HX := Lib.hid (SnG.pbase HS.out)
          clear HS
          go_wp2_with fail
          (with_reducible refine HX.out.mono ?_); rintro e w4 ⟨rfl, h1⟩
          have HX := Lib.hid (SnG.next h1 (n := 4) (by omega) (by omega) (by omega))
          clear h1
          have hbd := HN.out.b
          have hrr := HN.out.r
          obtain ⟨ba, hba⟩ : ∃ ba, snBase s = ba := ⟨_, rfl⟩
          rw [hba] at hbd ⊢
          go_wp2_with fail
          (with_reducible refine HX.out.mono ?_); rintro e w5 ⟨x, x0, x1, rfl, h1⟩
          have wc : IntKind.i64.wrap (ba + x) = ba + x := IntWalk.i64_in _ (by omega)
          have wd : Int.tmod (ba + x) 65536 = ba + x := by rw [Int.tmod_eq_emod_of_nonneg (by omega)]; omega
          have we : (ba + x) % 65536 = ba + x := by omega
          have HX := Lib.hid (Inv.call1 h1 ((psdrp_any (by omega) (ba + x)).star GenP.frm))
          have HN2 := Lib.hid ((HN.out.drp (ba + x)).more (by omega))
          clear h1 hbd hrr hba
          go_wp2_with fail
          (with_reducible refine HX.out.mono ?_); rintro e w6 ⟨rfl, h1⟩
          have HF := Lib.hid h1
          clear h1 HX
          go_wp2
          go_meet
          case rel => exact ⟨q + 1 + 1, _, _, by omega, rfl, HN2, HF⟩
        · have hq0 : (v == 0) = false := by simpa using hv0
          have hq1 : (v == 1) = false := by simpa using hv1
          have HX := Lib.hid (Inv.call1 HS.out ((psasg_any (by omega) (i : Int)).star GenP.frm))
          have hrr := HN.out.r
          rcases HN.out.asg (by omega) (by omega) with ⟨e1, e2, e3, e4⟩ | ⟨e1, e2, e3⟩
          · rw [e1, e2, e3] at HX
            have HO := Lib.hid e4
            have HN2 := Lib.hid (HN.out.more (by omega))
            clear HS e1 e2 e3 e4
            go_wp2_with fail
            (with_reducible refine HX.out.mono ?_); rintro e w4 ⟨rfl, h1⟩
            have hx := SnG.open_ h1
            rw [HO.out] at hx
            have HX := Lib.hid hx
            clear h1 hx
            go_wp2_with fail
            (with_reducible refine HX.out.mono ?_); rintro e w5 ⟨rfl, h1⟩
            have HF := Lib.hid h1
            clear h1 HX
            go_wp2
            go_meet
            case rel => exact ⟨q + 1, _, _, by omega, rfl, HN2, HF⟩
          · rw [e1, e2] at HX
            have HN2 := Lib.hid e3
            have wn : IntKind.i64.wrap (nxt + 1) = nxt + 1 := IntWalk.i64_in _ (by omega)
            have hnn : (nxt != nxt) = false := by simp
            clear HS e1 e2 e3
            go_wp2_with fail
            (with_reducible refine HX.out.mono ?_); rintro e w4 ⟨rfl, h1⟩
            have HX := Lib.hid (SnG.open_ h1)
            generalize s.asg i = s' at *
            clear h1
            generalize snOpen s' = o at *
            go_wp2_with fail
            (with_reducible refine HX.out.mono ?_); rintro e w5 ⟨rfl, h1⟩
            have HF := Lib.hid h1
            clear h1 HX
            cases o
            · go_wp2
              go_meet
              case rel => exact ⟨q + 1, _, _, by omega, rfl, HN2, HF⟩
            · go_wp2
              go_meet
              case rel => exact ⟨q + 1, _, _, by omega, rfl, HN2, HF⟩
      case rest =>
        obtain ⟨q', nxt', s', hq', rfl, HN2, HI2⟩ := hcut
        clear HS HN
        have hsl := HN2.out.len
        have HX := Lib.hid (SnG.pend HI2.out (by omega))
        clear HI2
        go_wp2_with fail
        (with_reducible refine HX.out.mono ?_); rintro e w4 ⟨A1, c, rfl, h1⟩
        have HI2 := Lib.hid h1
        clear h1 HX
        go_wp2_with fail
        obtain ⟨n, hn_⟩ : ∃ n, s'.l.length = n := ⟨_, rfl⟩
        have HNL := Lib.hid hn_
        rw [hn_] at hsl HI2 ⊢
        clear hn_
        go_loopw [12] (fun s12 wr => ∃ k : Nat, k ≤ n ∧ s12 = .int .i64 k ∧ Hid (Inv w.heap.size w (Star (LsP csN 3 38 (.slice A1 n c) s'.l) (Star (SnP R s') (GenP w.heap.size w.heap.size A len cap q'))) wr)) (fun s12 _ => n - (intOf s12).toNat)
        case atStart => exact ⟨0, Nat.zero_le _, rfl, HI2⟩
        case round =>
          obtain ⟨k, hk, rfl, HI3⟩ := hrel
          clear HI2
          by_cases hlt2 : k < n
          · have hlt3 : (k : Int) < n := by omega
            have hk0 : (0 : Int) ≤ k := by omega
            have hkl : k < s'.l.length := by have := HNL.out; omega
            obtain ⟨b, off, c', e1, hlc, _, hbw, _, hcell⟩ := (LsP.any HI3.out).el hkl
            obtain ⟨rfl, rfl⟩ : A1 = some ⟨b, off, none⟩ ∧ c = c' := by simpa using (show Value.slice A1 n c = .slice (some ⟨b, off, none⟩) n c' by have := HNL.out; rw [this] at e1; exact e1)
            have d1 : wr.cell? ⟨b, off + k * 3, none⟩ = some (.int .i64 s'.l[k].q) := hcell k hkl 0 (by omega)
            have d2 : wr.cell? ⟨b, off + k * 3 + 1, none⟩ = some (.int .i64 s'.l[k].i) := hcell k hkl 1 (by omega)
            obtain ⟨a1, a2, a3⟩ := HN2.out.at_ hkl
            have hbb := HN2.out.b
            have hrr := HN2.out.r
            obtain ⟨ba, hba⟩ : ∃ ba, snBase s' = ba := ⟨_, rfl⟩
            have HBS := Lib.hid (fun (W : World) (hw : Below wr.drew.heap.size wr.drew W) => (by
              obtain ⟨T9, hp9⟩ := SnG.get ((HI3.out.step (LsP.frm.star (SnP.frm.star GenP.frm)) ((Below.refl _ wr).drew.trans hw)).drop)
              have h9 := psbase_any hp9
              rw [hba] at h9
              unfold Calm at h9
              exact h9 : Calls Try.prog 14 #[.pointer (some ⟨R, 0, none⟩)] W fun e w' => e = .returned (.int .i64 ba) ∧ Below W.heap.size W w'))
            rw [hba] at a2 hbb
            obtain ⟨p, hp⟩ : ∃ p, k - 1 = p := ⟨_, rfl⟩
            obtain ⟨q1, hq1⟩ : ∃ q1, s'.l[k].q = q1 := ⟨_, rfl⟩
            obtain ⟨i1, hi1'⟩ : ∃ i1, s'.l[k].i = i1 := ⟨_, rfl⟩
            rw [hq1] at d1 a1 a2 a3
            rw [hi1'] at d2
            have wz1 : IntKind.i64.wrap (q1 - ba) = q1 - ba := IntWalk.i64_in _ (by omega)
            have t1 : decide (wi ≤ q1 - ba) = false := by simp; omega
            have t2 : decide (nxt' ≤ q1) = false := by simp; omega
            have HI2 := HI3
            rcases Nat.eq_zero_or_pos k with hkz | hkz
            · have t3 : decide ((0 : Int) < (k : Int)) = false := by simp; omega
              have t3' : decide (0 < k) = false := by simp; omega
              have HC4 := Lib.hid (fun (W : World) (hw : Below wr.drew.heap.size wr.drew W) => And.intro ((((Below.refl _ wr).drew.trans hw).cell (p := ⟨b, off + k * 3, none⟩) hbw).trans d1) trivial)
              clear hcell d1 d2 a1 a2 a3 hbb hrr hba hq1 hi1' HN2 HNL e1 hlc hp hkz HI3
              go_wp2_with fail
              refine wp_region_looseS 143 (by kernel_rfl) (by kernel_rfl) (StB wr.drew (fun vI => [.slice (some ⟨b, off, none⟩) n c, .int .i64 (k : Nat), .pointer (some ⟨b, off + k * 3, none⟩), .pointer (some ⟨b, off + k * 3, none⟩), .int .i64 q1, .pointer (some ⟨R, 0, none⟩), .int .i64 ba, .int .i64 (q1 - ba), .int .i64 wi, .bool false, .bool false, .slice (some ⟨b, off, none⟩) n c, .int .i64 (k : Nat), .pointer (some ⟨b, off + k * 3, none⟩), .pointer (some ⟨b, off + k * 3, none⟩), .int .i64 q1, .int .i64 nxt', .bool false, .bool false, .bool false, .int .i64 (k : Nat), .bool false, .bool false, undef, undef, undef, undef, undef, undef, undef, undef, undef, undef, undef, undef, undef, undef, undef, undef, undef, undef, undef, undef, undef, undef, undef, undef, undef, undef, .bool false, .bool false].getD vI undef)) rfl StB.start ?_ ?_
              · simp only [OblAllS]
                refine ⟨?_, ?_, ?_, ?_, ?_, ?_, ?_, ?_, ?_, ?_, ?_, ?_, ?_, ?_, ?_, ?_, ?_, ?_, ?_, ?_, ?_, ?_, ?_, ?_, ?_, ?_, ?_, ?_, ?_, ?_, ?_, ?_, ?_, ?_, ?_, ?_, ?_, ?_, ?_, ?_, ?_, ?_, ?_, ?_, ?_, ?_, ?_, ?_, ?_, ?_, ?_, trivial⟩
                · intro L wx vals hi hu hcl hC
                  have HCx := Lib.hid hC
                  clear hC hcl hu hi
                  simp only [fillA, if_true, Act.put]
                  simp
                  go_wp2
                  exact ⟨rfl, HCx.out.quiet 0 rfl⟩
                · intro L wx vals hi hu hcl hC
                  have HCx := Lib.hid hC
                  clear hC hcl hu hi
                  simp only [fillA, if_true, Act.put]
                  simp
                  go_wp2
                  exact ⟨rfl, HCx.out.quiet 1 rfl⟩
                · intro L wx vals hi hu hcl hC
                  simp [predL, predE, Region.binds, UpL] at hu
                  have e0 : vals 0 = .slice (some ⟨b, off, none⟩) n c := hC.v 0 (by simp [hu])
                  have e1 : vals 1 = .int .i64 (k : Nat) := hC.v 1 (by simp [hu])
                  have HCx := Lib.hid hC
                  clear hC hcl hu hi
                  simp only [fillA, if_true, Act.put]
                  simp
                  simp only [e0, e1]
                  clear e0 e1
                  go_wp2
                  exact ⟨rfl, HCx.out.quiet 2 rfl⟩
                · intro L wx vals hi hu hcl hC
                  simp [predL, predE, Region.binds, UpL] at hu
                  have e2 : vals 2 = .pointer (some ⟨b, off + k * 3, none⟩) := hC.v 2 (by simp [hu])
                  have HCx := Lib.hid hC
                  clear hC hcl hu hi
                  simp only [fillA, if_true, Act.put]
                  simp
                  simp only [e2]
                  clear e2
                  go_wp2
                  exact ⟨rfl, HCx.out.quiet 3 rfl⟩
                · intro L wx vals hi hu hcl hC
                  simp [predL, predE, Region.binds, UpL] at hu
                  have e3 : vals 3 = .pointer (some ⟨b, off + k * 3, none⟩) := hC.v 3 (by simp [hu])
                  have h0 := (HC4.out wx hC.b).1
                  have HCx := Lib.hid hC
                  clear hC hcl hu hi
                  simp only [fillA, if_true, Act.put]
                  simp
                  simp only [e3]
                  clear e3
                  go_wp2
                  exact ⟨rfl, HCx.out.quiet 4 rfl⟩
                · intro L wx vals hi hu hcl hC
                  have HCx := Lib.hid hC
                  clear hC hcl hu hi
                  simp only [fillA, if_true, Act.put]
                  simp
                  go_wp2
                  exact ⟨rfl, HCx.out.quiet 5 rfl⟩
                · intro L wx vals hi hu hcl hC
                  simp [predL, predE, Region.binds, UpL] at hu
                  have e5 : vals 5 = .pointer (some ⟨R, 0, none⟩) := hC.v 5 (by simp [hu])
                  have HL := Lib.hid (HBS.out wx hC.b)
                  have HCx := Lib.hid hC
                  clear hC hcl hu hi
                  simp only [fillA, if_true, Act.put]
                  simp
                  simp only [e5]
                  clear e5
                  go_wp2_with fail
                  (with_reducible refine HL.out.mono ?_); rintro e w9 ⟨rfl, hb⟩
                  have HX := Lib.hid (HCx.out.step 6 (x := .int .i64 ba) rfl (HCx.out.b.trans (hb.mono HCx.out.b.size)))
                  clear hb
                  go_wp2
                  exact ⟨rfl, HX.out⟩
                · intro L wx vals hi hu hcl hC
                  simp [predL, predE, Region.binds, UpL] at hu
                  have e4 : vals 4 = .int .i64 q1 := hC.v 4 (by simp [hu])
                  have e6 : vals 6 = .int .i64 ba := hC.v 6 (by simp [hu])
                  have HCx := Lib.hid hC
                  clear hC hcl hu hi
                  simp only [fillA, if_true, Act.put]
                  simp
                  simp only [e4, e6]
                  clear e4 e6
                  go_wp2
                  exact ⟨rfl, HCx.out.quiet 7 rfl⟩
                · intro L wx vals hi hu hcl hC
                  have HCx := Lib.hid hC
                  clear hC hcl hu hi
                  simp only [fillA, if_true, Act.put]
                  simp
                  go_wp2
                  exact ⟨rfl, HCx.out.quiet 8 rfl⟩
                · intro L wx vals hi hu hcl hC
                  simp [predL, predE, Region.binds, UpL] at hu
                  have e7 : vals 7 = .int .i64 (q1 - ba) := hC.v 7 (by simp [hu])
                  have e8 : vals 8 = .int .i64 wi := hC.v 8 (by simp [hu])
                  have HCx := Lib.hid hC
                  clear hC hcl hu hi
                  simp only [fillA, if_true, Act.put]
                  simp
                  simp only [e7, e8]
                  clear e7 e8
                  go_wp2
                  exact ⟨rfl, HCx.out.quiet 9 rfl⟩
                · intro L wx vals hi hu hcl hC
                  simp [predL, predE, Region.binds, UpL] at hu
                  have e9 : vals 9 = .bool false := hC.v 9 (by simp [hu])
                  have HCx := Lib.hid hC
                  clear hC hcl hu hi
                  simp only [fillA, if_true, Act.put]
                  simp
                  simp only [e9]
                  clear e9
                  go_wp2
                  exact ⟨rfl, HCx.out.quiet 10 rfl⟩
                · intro L wx vals hi hu hcl hC
                  simp [predL, predE, Region.binds, UpL] at hu
                  have e10 : vals 10 = .bool false := hC.v 10 (by simp [hu])
                  have HCx := Lib.hid hC
                  clear hC hcl hu hi
                  simp only [fillA, if_true, Act.put]
                  simp
                  simp only [e10]
                  clear e10
                  go_wp2
                  exact ⟨rfl, HCx.out.quiet 11 rfl⟩
                · intro L wx vals hi hu hcl hC
                  simp [predL, predE, Region.binds, UpL] at hu
                  have e10 : vals 10 = .bool false := hC.v 10 (by simp [hu])
                  have HCx := Lib.hid hC
                  clear hC hcl hu hi
                  simp only [fillA, if_true, Act.put]
                  simp
                  simp only [e10]
                  clear e10
                  go_wp2
                  exact ⟨rfl, HCx.out.quiet 12 rfl⟩
                · intro L wx vals hi hu hcl hC
                  simp [predL, predE, Region.binds, UpL] at hu
                  have e10 : vals 10 = .bool false := hC.v 10 (by simp [hu])
                  have e11 : vals 11 = .slice (some ⟨b, off, none⟩) n c := hC.v 11 (by simp [hu])
                  have e12 : vals 12 = .int .i64 (k : Nat) := hC.v 12 (by simp [hu])
                  have HCx := Lib.hid hC
                  clear hC hcl hu hi
                  simp only [fillA, if_true, Act.put]
                  simp
                  simp only [e10, e11, e12]
                  clear e10 e11 e12
                  go_wp2
                  exact ⟨rfl, HCx.out.quiet 13 rfl⟩
                · intro L wx vals hi hu hcl hC
                  simp [predL, predE, Region.binds, UpL] at hu
                  have e10 : vals 10 = .bool false := hC.v 10 (by simp [hu])
                  have e13 : vals 13 = .pointer (some ⟨b, off + k * 3, none⟩) := hC.v 13 (by simp [hu])
                  have HCx := Lib.hid hC
                  clear hC hcl hu hi
                  simp only [fillA, if_true, Act.put]
                  simp
                  simp only [e10, e13]
                  clear e10 e13
                  go_wp2
                  exact ⟨rfl, HCx.out.quiet 14 rfl⟩
                · intro L wx vals hi hu hcl hC
                  simp [predL, predE, Region.binds, UpL] at hu
                  have e10 : vals 10 = .bool false := hC.v 10 (by simp [hu])
                  have e14 : vals 14 = .pointer (some ⟨b, off + k * 3, none⟩) := hC.v 14 (by simp [hu])
                  have h0 := (HC4.out wx hC.b).1
                  have HCx := Lib.hid hC
                  clear hC hcl hu hi
                  simp only [fillA, if_true, Act.put]
                  simp
                  simp only [e10, e14]
                  clear e10 e14
                  go_wp2
                  exact ⟨rfl, HCx.out.quiet 15 rfl⟩
                · intro L wx vals hi hu hcl hC
                  simp [predL, predE, Region.binds, UpL] at hu
                  have e10 : vals 10 = .bool false := hC.v 10 (by simp [hu])
                  have HCx := Lib.hid hC
                  clear hC hcl hu hi
                  simp only [fillA, if_true, Act.put]
                  simp
                  simp only [e10]
                  clear e10
                  go_wp2
                  exact ⟨rfl, HCx.out.quiet 16 rfl⟩
                · intro L wx vals hi hu hcl hC
                  simp [predL, predE, Region.binds, UpL] at hu
                  have e10 : vals 10 = .bool false := hC.v 10 (by simp [hu])
                  have e15 : vals 15 = .int .i64 q1 := hC.v 15 (by simp [hu])
                  have e16 : vals 16 = .int .i64 nxt' := hC.v 16 (by simp [hu])
                  have HCx := Lib.hid hC
                  clear hC hcl hu hi
                  simp only [fillA, if_true, Act.put]
                  simp
                  simp only [e10, e15, e16]
                  clear e10 e15 e16
                  go_wp2
                  exact ⟨rfl, HCx.out.quiet 17 rfl⟩
                · intro L wx vals hi hu hcl hC
                  simp [predL, predE, Region.binds, UpL] at hu
                  have e10 : vals 10 = .bool false := hC.v 10 (by simp [hu])
                  have e17 : vals 17 = .bool false := hC.v 17 (by simp [hu])
                  have HCx := Lib.hid hC
                  clear hC hcl hu hi
                  simp only [fillA, if_true, Act.put]
                  simp
                  simp only [e10, e17]
                  clear e10 e17
                  go_wp2
                  exact ⟨rfl, HCx.out.quiet 18 rfl⟩
                · intro L wx vals hi hu hcl hC
                  simp [predL, predE, Region.binds, UpL] at hu
                  have e18 : vals 18 = .bool false := hC.v 18 (by simp [hu])
                  have HCx := Lib.hid hC
                  clear hC hcl hu hi
                  simp only [fillA, if_true, Act.put]
                  simp
                  simp only [e18]
                  clear e18
                  go_wp2
                  exact ⟨rfl, HCx.out.quiet 19 rfl⟩
                · intro L wx vals hi hu hcl hC
                  simp [predL, predE, Region.binds, UpL] at hu
                  have e19 : vals 19 = .bool false := hC.v 19 (by simp [hu])
                  have HCx := Lib.hid hC
                  clear hC hcl hu hi
                  simp only [fillA, if_true, Act.put]
                  simp
                  simp only [e19]
                  clear e19
                  go_wp2
                  exact ⟨rfl, HCx.out.quiet 20 rfl⟩
                · intro L wx vals hi hu hcl hC
                  simp [predL, predE, Region.binds, UpL] at hu
                  have e19 : vals 19 = .bool false := hC.v 19 (by simp [hu])
                  have e20 : vals 20 = .int .i64 (k : Nat) := hC.v 20 (by simp [hu])
                  have HCx := Lib.hid hC
                  clear hC hcl hu hi
                  simp only [fillA, if_true, Act.put]
                  simp
                  simp only [e19, e20]
                  clear e19 e20
                  go_wp2
                  exact ⟨rfl, HCx.out.quiet 21 rfl⟩
                · intro L wx vals hi hu hcl hC
                  simp [predL, predE, Region.binds, UpL] at hu
                  have e19 : vals 19 = .bool false := hC.v 19 (by simp [hu])
                  have e21 : vals 21 = .bool false := hC.v 21 (by simp [hu])
                  have HCx := Lib.hid hC
                  clear hC hcl hu hi
                  simp only [fillA, if_true, Act.put]
                  simp
                  simp only [e19, e21]
                  clear e19 e21
                  go_wp2
                  exact ⟨rfl, HCx.out.quiet 22 rfl⟩
                · intro L wx vals hi hu hcl hC
                  simp [predL, predE, Region.binds, UpL] at hu
                  have e22 : vals 22 = .bool false := hC.v 22 (by simp [hu])
                  have HCx := Lib.hid hC
                  clear hC hcl hu hi
                  simp only [fillA, if_true, Act.put]
                  simp
                  simp only [e22]
                  clear e22
                  go_wp2
                  exact ⟨rfl, HCx.out.quiet 23 rfl⟩
                · intro L wx vals hi hu hcl hC
                  simp [predL, predE, Region.binds, UpL] at hu
                  have e22 : vals 22 = .bool false := hC.v 22 (by simp [hu])
                  have HCx := Lib.hid hC
                  clear hC hcl hu hi
                  simp only [fillA, if_true, Act.put]
                  simp
                  simp only [e22]
                  clear e22
                  go_wp2
                  exact ⟨rfl, HCx.out.quiet 24 rfl⟩
                · intro L wx vals hi hu hcl hC
                  simp [predL, predE, Region.binds, UpL] at hu
                  have e22 : vals 22 = .bool false := hC.v 22 (by simp [hu])
                  have HCx := Lib.hid hC
                  clear hC hcl hu hi
                  simp only [fillA, if_true, Act.put]
                  simp
                  simp only [e22]
                  clear e22
                  go_wp2
                  exact ⟨rfl, HCx.out.quiet 25 rfl⟩
                · intro L wx vals hi hu hcl hC
                  simp [predL, predE, Region.binds, UpL] at hu
                  have e22 : vals 22 = .bool false := hC.v 22 (by simp [hu])
                  have HCx := Lib.hid hC
                  clear hC hcl hu hi
                  simp only [fillA, if_true, Act.put]
                  simp
                  simp only [e22]
                  clear e22
                  go_wp2
                  exact ⟨rfl, HCx.out.quiet 26 rfl⟩
                · intro L wx vals hi hu hcl hC
                  simp [predL, predE, Region.binds, UpL] at hu
                  have e22 : vals 22 = .bool false := hC.v 22 (by simp [hu])
                  have HCx := Lib.hid hC
                  clear hC hcl hu hi
                  simp only [fillA, if_true, Act.put]
                  simp
                  simp only [e22]
                  clear e22
                  go_wp2
                  exact ⟨rfl, HCx.out.quiet 27 rfl⟩
                · intro L wx vals hi hu hcl hC
                  simp [predL, predE, Region.binds, UpL] at hu
                  have e22 : vals 22 = .bool false := hC.v 22 (by simp [hu])
                  have HCx := Lib.hid hC
                  clear hC hcl hu hi
                  simp only [fillA, if_true, Act.put]
                  simp
                  simp only [e22]
                  clear e22
                  go_wp2
                  exact ⟨rfl, HCx.out.quiet 28 rfl⟩
                · intro L wx vals hi hu hcl hC
                  simp [predL, predE, Region.binds, UpL] at hu
                  have e22 : vals 22 = .bool false := hC.v 22 (by simp [hu])
                  have HCx := Lib.hid hC
                  clear hC hcl hu hi
                  simp only [fillA, if_true, Act.put]
                  simp
                  simp only [e22]
                  clear e22
                  go_wp2
                  exact ⟨rfl, HCx.out.quiet 29 rfl⟩
                · intro L wx vals hi hu hcl hC
                  simp [predL, predE, Region.binds, UpL] at hu
                  have e22 : vals 22 = .bool false := hC.v 22 (by simp [hu])
                  have HCx := Lib.hid hC
                  clear hC hcl hu hi
                  simp only [fillA, if_true, Act.put]
                  simp
                  simp only [e22]
                  clear e22
                  go_wp2
                  exact ⟨rfl, HCx.out.quiet 30 rfl⟩
                · intro L wx vals hi hu hcl hC
                  simp [predL, predE, Region.binds, UpL] at hu
                  have e22 : vals 22 = .bool false := hC.v 22 (by simp [hu])
                  have HCx := Lib.hid hC
                  clear hC hcl hu hi
                  simp only [fillA, if_true, Act.put]
                  simp
                  simp only [e22]
                  clear e22
                  go_wp2
                  exact ⟨rfl, HCx.out.quiet 31 rfl⟩
                · intro L wx vals hi hu hcl hC
                  simp [predL, predE, Region.binds, UpL] at hu
                  have e22 : vals 22 = .bool false := hC.v 22 (by simp [hu])
                  have HCx := Lib.hid hC
                  clear hC hcl hu hi
                  simp only [fillA, if_true, Act.put]
                  simp
                  simp only [e22]
                  clear e22
                  go_wp2
                  exact ⟨rfl, HCx.out.quiet 32 rfl⟩
                · intro L wx vals hi hu hcl hC
                  simp [predL, predE, Region.binds, UpL] at hu
                  have e22 : vals 22 = .bool false := hC.v 22 (by simp [hu])
                  have HCx := Lib.hid hC
                  clear hC hcl hu hi
                  simp only [fillA, if_true, Act.put]
                  simp
                  simp only [e22]
                  clear e22
                  go_wp2
                  exact ⟨rfl, HCx.out.quiet 33 rfl⟩
                · intro L wx vals hi hu hcl hC
                  simp [predL, predE, Region.binds, UpL] at hu
                  have e22 : vals 22 = .bool false := hC.v 22 (by simp [hu])
                  have HCx := Lib.hid hC
                  clear hC hcl hu hi
                  simp only [fillA, if_true, Act.put]
                  simp
                  simp only [e22]
                  clear e22
                  go_wp2
                  exact ⟨rfl, HCx.out.quiet 34 rfl⟩
                · intro L wx vals hi hu hcl hC
                  simp [predL, predE, Region.binds, UpL] at hu
                  have e22 : vals 22 = .bool false := hC.v 22 (by simp [hu])
                  have HCx := Lib.hid hC
                  clear hC hcl hu hi
                  simp only [fillA, if_true, Act.put]
                  simp
                  simp only [e22]
                  clear e22
                  go_wp2
                  exact ⟨rfl, HCx.out.quiet 35 rfl⟩
                · intro L wx vals hi hu hcl hC
                  simp [predL, predE, Region.binds, UpL] at hu
                  have e35 : vals 35 = undef := hC.v 35 (by simp [hu])
                  have HCx := Lib.hid hC
                  clear hC hcl hu hi
                  simp only [fillA, if_true, Act.put]
                  simp
                  simp only [e35]
                  clear e35
                  go_wp2
                  exact ⟨rfl, HCx.out.quiet 36 rfl⟩
                · intro L wx vals hi hu hcl hC
                  simp [predL, predE, Region.binds, UpL] at hu
                  have e35 : vals 35 = undef := hC.v 35 (by simp [hu])
                  have HCx := Lib.hid hC
                  clear hC hcl hu hi
                  simp only [fillA, if_true, Act.put]
                  simp
                  simp only [e35]
                  clear e35
                  go_wp2
                  exact ⟨rfl, HCx.out.quiet 37 rfl⟩
                · intro L wx vals hi hu hcl hC
                  simp [predL, predE, Region.binds, UpL] at hu
                  have e35 : vals 35 = undef := hC.v 35 (by simp [hu])
                  have HCx := Lib.hid hC
                  clear hC hcl hu hi
                  simp only [fillA, if_true, Act.put]
                  simp
                  simp only [e35]
                  clear e35
                  go_wp2
                  exact ⟨rfl, HCx.out.quiet 38 rfl⟩
                · intro L wx vals hi hu hcl hC
                  simp [predL, predE, Region.binds, UpL] at hu
                  have e35 : vals 35 = undef := hC.v 35 (by simp [hu])
                  have HCx := Lib.hid hC
                  clear hC hcl hu hi
                  simp only [fillA, if_true, Act.put]
                  simp
                  simp only [e35]
                  clear e35
                  go_wp2
                  exact ⟨rfl, HCx.out.quiet 39 rfl⟩
                · intro L wx vals hi hu hcl hC
                  simp [predL, predE, Region.binds, UpL] at hu
                  have e35 : vals 35 = undef := hC.v 35 (by simp [hu])
                  have HCx := Lib.hid hC
                  clear hC hcl hu hi
                  simp only [fillA, if_true, Act.put]
                  simp
                  simp only [e35]
                  clear e35
                  go_wp2
                  exact ⟨rfl, HCx.out.quiet 40 rfl⟩
                · intro L wx vals hi hu hcl hC
                  simp [predL, predE, Region.binds, UpL] at hu
                  have e35 : vals 35 = undef := hC.v 35 (by simp [hu])
                  have HCx := Lib.hid hC
                  clear hC hcl hu hi
                  simp only [fillA, if_true, Act.put]
                  simp
                  simp only [e35]
                  clear e35
                  go_wp2
                  exact ⟨rfl, HCx.out.quiet 41 rfl⟩
                · intro L wx vals hi hu hcl hC
                  simp [predL, predE, Region.binds, UpL] at hu
                  have e35 : vals 35 = undef := hC.v 35 (by simp [hu])
                  have HCx := Lib.hid hC
                  clear hC hcl hu hi
                  simp only [fillA, if_true, Act.put]
                  simp
                  simp only [e35]
                  clear e35
                  go_wp2
                  exact ⟨rfl, HCx.out.quiet 42 rfl⟩
                · intro L wx vals hi hu hcl hC
                  simp [predL, predE, Region.binds, UpL] at hu
                  have e35 : vals 35 = undef := hC.v 35 (by simp [hu])
                  have HCx := Lib.hid hC
                  clear hC hcl hu hi
                  simp only [fillA, if_true, Act.put]
                  simp
                  simp only [e35]
                  clear e35
                  go_wp2
                  exact ⟨rfl, HCx.out.quiet 43 rfl⟩
                · intro L wx vals hi hu hcl hC
                  simp [predL, predE, Region.binds, UpL] at hu
                  have e35 : vals 35 = undef := hC.v 35 (by simp [hu])
                  have HCx := Lib.hid hC
                  clear hC hcl hu hi
                  simp only [fillA, if_true, Act.put]
                  simp
                  simp only [e35]
                  clear e35
                  go_wp2
                  exact ⟨rfl, HCx.out.quiet 44 rfl⟩
                · intro L wx vals hi hu hcl hC
                  simp [predL, predE, Region.binds, UpL] at hu
                  have e35 : vals 35 = undef := hC.v 35 (by simp [hu])
                  have HCx := Lib.hid hC
                  clear hC hcl hu hi
                  simp only [fillA, if_true, Act.put]
                  simp
                  simp only [e35]
                  clear e35
                  go_wp2
                  exact ⟨rfl, HCx.out.quiet 45 rfl⟩
                · intro L wx vals hi hu hcl hC
                  simp [predL, predE, Region.binds, UpL] at hu
                  have e35 : vals 35 = undef := hC.v 35 (by simp [hu])
                  have HCx := Lib.hid hC
                  clear hC hcl hu hi
                  simp only [fillA, if_true, Act.put]
                  simp
                  simp only [e35]
                  clear e35
                  go_wp2
                  exact ⟨rfl, HCx.out.quiet 46 rfl⟩
                · intro L wx vals hi hu hcl hC
                  simp [predL, predE, Region.binds, UpL] at hu
                  have e35 : vals 35 = undef := hC.v 35 (by simp [hu])
                  have HCx := Lib.hid hC
                  clear hC hcl hu hi
                  simp only [fillA, if_true, Act.put]
                  simp
                  simp only [e35]
                  clear e35
                  go_wp2
                  exact ⟨rfl, HCx.out.quiet 47 rfl⟩
                · intro L wx vals hi hu hcl hC
                  simp [predL, predE, Region.binds, UpL] at hu
                  have e22 : vals 22 = .bool false := hC.v 22 (by simp [hu])
                  have HCx := Lib.hid hC
                  clear hC hcl hu hi
                  simp only [fillA, if_true, Act.put]
                  simp
                  simp only [e22]
                  clear e22
                  go_wp2
                  exact ⟨rfl, HCx.out.quiet 48 rfl⟩
                · intro L wx vals hi hu hcl hC
                  simp [predL, predE, Region.binds, UpL] at hu
                  have e19 : vals 19 = .bool false := hC.v 19 (by simp [hu])
                  have e22 : vals 22 = .bool false := hC.v 22 (by simp [hu])
                  have e48 : vals 48 = undef := hC.v 48 (by simp [hu])
                  have HCx := Lib.hid hC
                  clear hC hcl hu hi
                  simp only [fillA, if_true, Act.put]
                  simp
                  simp only [e19, e22, e48]
                  clear e19 e22 e48
                  go_wp2
                  exact ⟨rfl, HCx.out.quiet 49 rfl⟩
                · intro L wx vals hi hu hcl hC
                  simp [predL, predE, Region.binds, UpL] at hu
                  have e19 : vals 19 = .bool false := hC.v 19 (by simp [hu])
                  have e49 : vals 49 = .bool false := hC.v 49 (by simp [hu])
                  have HCx := Lib.hid hC
                  clear hC hcl hu hi
                  simp only [fillA, if_true, Act.put]
                  simp
                  simp only [e19, e49]
                  clear e19 e49
                  go_wp2
                  exact ⟨rfl, HCx.out.quiet 50 rfl⟩
              · intro wz vals U hC hall
                have e50 : vals 50 = .bool false := hC.v 50 (hall 50 (by simp))
                have HI3 := Lib.hid (HI2.out.step (LsP.frm.star (SnP.frm.star GenP.frm)) ((Below.refl _ wr).drew.trans hC.b))
                simp only [fillA, if_true, Act.put]
                simp
                simp only [e50]
                clear hC hall e50 HC4 HBS HI2
                generalize vals 0 = t_0 at *
                generalize vals 1 = t_1 at *
                generalize vals 2 = t_2 at *
                generalize vals 3 = t_3 at *
                generalize vals 4 = t_4 at *
                generalize vals 5 = t_5 at *
                generalize vals 6 = t_6 at *
                generalize vals 7 = t_7 at *
                generalize vals 8 = t_8 at *
                generalize vals 9 = t_9 at *
                generalize vals 10 = t_10 at *
                generalize vals 11 = t_11 at *
                generalize vals 12 = t_12 at *
                generalize vals 13 = t_13 at *
                generalize vals 14 = t_14 at *
                generalize vals 15 = t_15 at *
                generalize vals 16 = t_16 at *
                generalize vals 17 = t_17 at *
                generalize vals 18 = t_18 at *
                generalize vals 19 = t_19 at *
                generalize vals 20 = t_20 at *
                generalize vals 21 = t_21 at *
                generalize vals 22 = t_22 at *
                generalize vals 23 = t_23 at *
                generalize vals 24 = t_24 at *
                generalize vals 25 = t_25 at *
                generalize vals 26 = t_26 at *
                generalize vals 27 = t_27 at *
                generalize vals 28 = t_28 at *
                generalize vals 29 = t_29 at *
                generalize vals 30 = t_30 at *
                generalize vals 31 = t_31 at *
                generalize vals 32 = t_32 at *
                generalize vals 33 = t_33 at *
                generalize vals 34 = t_34 at *
                generalize vals 35 = t_35 at *
                generalize vals 36 = t_36 at *
                generalize vals 37 = t_37 at *
                generalize vals 38 = t_38 at *
                generalize vals 39 = t_39 at *
                generalize vals 40 = t_40 at *
                generalize vals 41 = t_41 at *
                generalize vals 42 = t_42 at *
                generalize vals 43 = t_43 at *
                generalize vals 44 = t_44 at *
                generalize vals 45 = t_45 at *
                generalize vals 46 = t_46 at *
                generalize vals 47 = t_47 at *
                generalize vals 48 = t_48 at *
                generalize vals 49 = t_49 at *
                go_wp2
                go_roundw
                case rel => exact ⟨k + 1, by omega, by go_num, HI3⟩
                case measure => simp [intOf]; omega
            · have t3 : decide ((0 : Int) < (k : Int)) = true := by simp; omega
              have t3' : decide (0 < k) = true := by simp; omega
              have wz2 : IntKind.i64.wrap ((k : Int) - 1) = (p : Int) := by rw [IntWalk.i64_in _ (by omega)]; omega
              have hp0 : (0 : Int) ≤ p := by omega
              have hpn : (p : Int) < n := by omega
              have hpk : p < k := by omega
              have hpl : p < s'.l.length := by omega
              obtain ⟨g1, g2⟩ := HN2.out.up hkl hpk
              have d3 : wr.cell? ⟨b, off + p * 3, none⟩ = some (.int .i64 s'.l[p].q) := hcell p hpl 0 (by omega)
              have d4 : wr.cell? ⟨b, off + p * 3 + 1, none⟩ = some (.int .i64 s'.l[p].i) := hcell p hpl 1 (by omega)
              obtain ⟨q0, hq0⟩ : ∃ q0, s'.l[p].q = q0 := ⟨_, rfl⟩
              obtain ⟨i0, hi0'⟩ : ∃ i0, s'.l[p].i = i0 := ⟨_, rfl⟩
              rw [hq0, hq1] at g1
              rw [hi0', hi1'] at g2
              rw [hq0] at d3
              rw [hi0'] at d4
              have t4 : decide (q1 ≤ q0) = false := by simp; omega
              have t5 : decide (i1 ≤ i0) = false := by simp; omega
              have HC4 := Lib.hid (fun (W : World) (hw : Below wr.drew.heap.size wr.drew W) => And.intro ((((Below.refl _ wr).drew.trans hw).cell (p := ⟨b, off + k * 3, none⟩) hbw).trans d1) (And.intro ((((Below.refl _ wr).drew.trans hw).cell (p := ⟨b, off + k * 3 + 1, none⟩) hbw).trans d2) (And.intro ((((Below.refl _ wr).drew.trans hw).cell (p := ⟨b, off + p * 3, none⟩) hbw).trans d3) ((((Below.refl _ wr).drew.trans hw).cell (p := ⟨b, off + p * 3 + 1, none⟩) hbw).trans d4))))
              clear hcell d1 d2 d3 d4 a1 a2 a3 g1 g2 hbb hrr hba hq1 hi1' hq0 hi0' HN2 HNL e1 hlc hp hkz HI3 hpk hpl hkl
              go_wp2_with fail
              refine wp_region_looseS 143 (by kernel_rfl) (by kernel_rfl) (StB wr.drew (fun vI => [.slice (some ⟨b, off, none⟩) n c, .int .i64 (k : Nat), .pointer (some ⟨b, off + k * 3, none⟩), .pointer (some ⟨b, off + k * 3, none⟩), .int .i64 q1, .pointer (some ⟨R, 0, none⟩), .int .i64 ba, .int .i64 (q1 - ba), .int .i64 wi, .bool false, .bool false, .slice (some ⟨b, off, none⟩) n c, .int .i64 (k : Nat), .pointer (some ⟨b, off + k * 3, none⟩), .pointer (some ⟨b, off + k * 3, none⟩), .int .i64 q1, .int .i64 nxt', .bool false, .bool false, .bool false, .int .i64 (k : Nat), .bool true, .bool true, .slice (some ⟨b, off, none⟩) n c, .int .i64 (k : Nat), .pointer (some ⟨b, off + k * 3, none⟩), .pointer (some ⟨b, off + k * 3, none⟩), .int .i64 q1, .slice (some ⟨b, off, none⟩) n c, .int .i64 (k : Nat), .int .i64 (p : Nat), .pointer (some ⟨b, off + p * 3, none⟩), .pointer (some ⟨b, off + p * 3, none⟩), .int .i64 q0, .bool false, .bool false, .slice (some ⟨b, off, none⟩) n c, .int .i64 (k : Nat), .pointer (some ⟨b, off + k * 3, none⟩), .pointer (some ⟨b, off + k * 3 + 1, none⟩), .int .i64 i1, .slice (some ⟨b, off, none⟩) n c, .int .i64 (k : Nat), .int .i64 (p : Nat), .pointer (some ⟨b, off + p * 3, none⟩), .pointer (some ⟨b, off + p * 3 + 1, none⟩), .int .i64 i0, .bool false, .bool false, .bool false, .bool false].getD vI undef)) rfl StB.start ?_ ?_
              · simp only [OblAllS]
                refine ⟨?_, ?_, ?_, ?_, ?_, ?_, ?_, ?_, ?_, ?_, ?_, ?_, ?_, ?_, ?_, ?_, ?_, ?_, ?_, ?_, ?_, ?_, ?_, ?_, ?_, ?_, ?_, ?_, ?_, ?_, ?_, ?_, ?_, ?_, ?_, ?_, ?_, ?_, ?_, ?_, ?_, ?_, ?_, ?_, ?_, ?_, ?_, ?_, ?_, ?_, ?_, trivial⟩
                · intro L wx vals hi hu hcl hC
                  have HCx := Lib.hid hC
                  clear hC hcl hu hi
                  simp only [fillA, if_true, Act.put]
                  simp
                  go_wp2
                  exact ⟨rfl, HCx.out.quiet 0 rfl⟩
                · intro L wx vals hi hu hcl hC
                  have HCx := Lib.hid hC
                  clear hC hcl hu hi
                  simp only [fillA, if_true, Act.put]
                  simp
                  go_wp2
                  exact ⟨rfl, HCx.out.quiet 1 rfl⟩
                · intro L wx vals hi hu hcl hC
                  simp [predL, predE, Region.binds, UpL] at hu
                  have e0 : vals 0 = .slice (some ⟨b, off, none⟩) n c := hC.v 0 (by simp [hu])
                  have e1 : vals 1 = .int .i64 (k : Nat) := hC.v 1 (by simp [hu])
                  have HCx := Lib.hid hC
                  clear hC hcl hu hi
                  simp only [fillA, if_true, Act.put]
                  simp
                  simp only [e0, e1]
                  clear e0 e1
                  go_wp2
                  exact ⟨rfl, HCx.out.quiet 2 rfl⟩
                · intro L wx vals hi hu hcl hC
                  simp [predL, predE, Region.binds, UpL] at hu
                  have e2 : vals 2 = .pointer (some ⟨b, off + k * 3, none⟩) := hC.v 2 (by simp [hu])
                  have HCx := Lib.hid hC
                  clear hC hcl hu hi
                  simp only [fillA, if_true, Act.put]
                  simp
                  simp only [e2]
                  clear e2
                  go_wp2
                  exact ⟨rfl, HCx.out.quiet 3 rfl⟩
                · intro L wx vals hi hu hcl hC
                  simp [predL, predE, Region.binds, UpL] at hu
                  have e3 : vals 3 = .pointer (some ⟨b, off + k * 3, none⟩) := hC.v 3 (by simp [hu])
                  have h0 := (HC4.out wx hC.b).1
                  have HCx := Lib.hid hC
                  clear hC hcl hu hi
                  simp only [fillA, if_true, Act.put]
                  simp
                  simp only [e3]
                  clear e3
                  go_wp2
                  exact ⟨rfl, HCx.out.quiet 4 rfl⟩
                · intro L wx vals hi hu hcl hC
                  have HCx := Lib.hid hC
                  clear hC hcl hu hi
                  simp only [fillA, if_true, Act.put]
                  simp
                  go_wp2
                  exact ⟨rfl, HCx.out.quiet 5 rfl⟩
                · intro L wx vals hi hu hcl hC
                  simp [predL, predE, Region.binds, UpL] at hu
                  have e5 : vals 5 = .pointer (some ⟨R, 0, none⟩) := hC.v 5 (by simp [hu])
                  have HL := Lib.hid (HBS.out wx hC.b)
                  have HCx := Lib.hid hC
                  clear hC hcl hu hi
                  simp only [fillA, if_true, Act.put]
                  simp
                  simp only [e5]
                  clear e5
                  go_wp2_with fail
                  (with_reducible refine HL.out.mono ?_); rintro e w9 ⟨rfl, hb⟩
                  have HX := Lib.hid (HCx.out.step 6 (x := .int .i64 ba) rfl (HCx.out.b.trans (hb.mono HCx.out.b.size)))
                  clear hb
                  go_wp2
                  exact ⟨rfl, HX.out⟩
                · intro L wx vals hi hu hcl hC
                  simp [predL, predE, Region.binds, UpL] at hu
                  have e4 : vals 4 = .int .i64 q1 := hC.v 4 (by simp [hu])
                  have e6 : vals 6 = .int .i64 ba := hC.v 6 (by simp [hu])
                  have HCx := Lib.hid hC
                  clear hC hcl hu hi
                  simp only [fillA, if_true, Act.put]
                  simp
                  simp only [e4, e6]
                  clear e4 e6
                  go_wp2
                  exact ⟨rfl, HCx.out.quiet 7 rfl⟩
                · intro L wx vals hi hu hcl hC
                  have HCx := Lib.hid hC
                  clear hC hcl hu hi
                  simp only [fillA, if_true, Act.put]
                  simp
                  go_wp2
                  exact ⟨rfl, HCx.out.quiet 8 rfl⟩
                · intro L wx vals hi hu hcl hC
                  simp [predL, predE, Region.binds, UpL] at hu
                  have e7 : vals 7 = .int .i64 (q1 - ba) := hC.v 7 (by simp [hu])
                  have e8 : vals 8 = .int .i64 wi := hC.v 8 (by simp [hu])
                  have HCx := Lib.hid hC
                  clear hC hcl hu hi
                  simp only [fillA, if_true, Act.put]
                  simp
                  simp only [e7, e8]
                  clear e7 e8
                  go_wp2
                  exact ⟨rfl, HCx.out.quiet 9 rfl⟩
                · intro L wx vals hi hu hcl hC
                  simp [predL, predE, Region.binds, UpL] at hu
                  have e9 : vals 9 = .bool false := hC.v 9 (by simp [hu])
                  have HCx := Lib.hid hC
                  clear hC hcl hu hi
                  simp only [fillA, if_true, Act.put]
                  simp
                  simp only [e9]
                  clear e9
                  go_wp2
                  exact ⟨rfl, HCx.out.quiet 10 rfl⟩
                · intro L wx vals hi hu hcl hC
                  simp [predL, predE, Region.binds, UpL] at hu
                  have e10 : vals 10 = .bool false := hC.v 10 (by simp [hu])
                  have HCx := Lib.hid hC
                  clear hC hcl hu hi
                  simp only [fillA, if_true, Act.put]
                  simp
                  simp only [e10]
                  clear e10
                  go_wp2
                  exact ⟨rfl, HCx.out.quiet 11 rfl⟩
                · intro L wx vals hi hu hcl hC
                  simp [predL, predE, Region.binds, UpL] at hu
                  have e10 : vals 10 = .bool false := hC.v 10 (by simp [hu])
                  have HCx := Lib.hid hC
                  clear hC hcl hu hi
                  simp only [fillA, if_true, Act.put]
                  simp
                  simp only [e10]
                  clear e10
                  go_wp2
                  exact ⟨rfl, HCx.out.quiet 12 rfl⟩
                · intro L wx vals hi hu hcl hC
                  simp [predL, predE, Region.binds, UpL] at hu
                  have e10 : vals 10 = .bool false := hC.v 10 (by simp [hu])
                  have e11 : vals 11 = .slice (some ⟨b, off, none⟩) n c := hC.v 11 (by simp [hu])
                  have e12 : vals 12 = .int .i64 (k : Nat) := hC.v 12 (by simp [hu])
                  have HCx := Lib.hid hC
                  clear hC hcl hu hi
                  simp only [fillA, if_true, Act.put]
                  simp
                  simp only [e10, e11, e12]
                  clear e10 e11 e12
                  go_wp2
                  exact ⟨rfl, HCx.out.quiet 13 rfl⟩
                · intro L wx vals hi hu hcl hC
                  simp [predL, predE, Region.binds, UpL] at hu
                  have e10 : vals 10 = .bool false := hC.v 10 (by simp [hu])
                  have e13 : vals 13 = .pointer (some ⟨b, off + k * 3, none⟩) := hC.v 13 (by simp [hu])
                  have HCx := Lib.hid hC
                  clear hC hcl hu hi
                  simp only [fillA, if_true, Act.put]
                  simp
                  simp only [e10, e13]
                  clear e10 e13
                  go_wp2
                  exact ⟨rfl, HCx.out.quiet 14 rfl⟩
                · intro L wx vals hi hu hcl hC
                  simp [predL, predE, Region.binds, UpL] at hu
                  have e10 : vals 10 = .bool false := hC.v 10 (by simp [hu])
                  have e14 : vals 14 = .pointer (some ⟨b, off + k * 3, none⟩) := hC.v 14 (by simp [hu])
                  have h0 := (HC4.out wx hC.b).1
                  have HCx := Lib.hid hC
                  clear hC hcl hu hi
                  simp only [fillA, if_true, Act.put]
                  simp
                  simp only [e10, e14]
                  clear e10 e14
                  go_wp2
                  exact ⟨rfl, HCx.out.quiet 15 rfl⟩
                · intro L wx vals hi hu hcl hC
                  simp [predL, predE, Region.binds, UpL] at hu
                  have e10 : vals 10 = .bool false := hC.v 10 (by simp [hu])
                  have HCx := Lib.hid hC
                  clear hC hcl hu hi
                  simp only [fillA, if_true, Act.put]
                  simp
                  simp only [e10]
                  clear e10
                  go_wp2
                  exact ⟨rfl, HCx.out.quiet 16 rfl⟩
                · intro L wx vals hi hu hcl hC
                  simp [predL, predE, Region.binds, UpL] at hu
                  have e10 : vals 10 = .bool false := hC.v 10 (by simp [hu])
                  have e15 : vals 15 = .int .i64 q1 := hC.v 15 (by simp [hu])
                  have e16 : vals 16 = .int .i64 nxt' := hC.v 16 (by simp [hu])
                  have HCx := Lib.hid hC
                  clear hC hcl hu hi
                  simp only [fillA, if_true, Act.put]
                  simp
                  simp only [e10, e15, e16]
                  clear e10 e15 e16
                  go_wp2
                  exact ⟨rfl, HCx.out.quiet 17 rfl⟩
                · intro L wx vals hi hu hcl hC
                  simp [predL, predE, Region.binds, UpL] at hu
                  have e10 : vals 10 = .bool false := hC.v 10 (by simp [hu])
                  have e17 : vals 17 = .bool false := hC.v 17 (by simp [hu])
                  have HCx := Lib.hid hC
                  clear hC hcl hu hi
                  simp only [fillA, if_true, Act.put]
                  simp
                  simp only [e10, e17]
                  clear e10 e17
                  go_wp2
                  exact ⟨rfl, HCx.out.quiet 18 rfl⟩
                · intro L wx vals hi hu hcl hC
                  simp [predL, predE, Region.binds, UpL] at hu
                  have e18 : vals 18 = .bool false := hC.v 18 (by simp [hu])
                  have HCx := Lib.hid hC
                  clear hC hcl hu hi
                  simp only [fillA, if_true, Act.put]
                  simp
                  simp only [e18]
                  clear e18
                  go_wp2
                  exact ⟨rfl, HCx.out.quiet 19 rfl⟩
                · intro L wx vals hi hu hcl hC
                  simp [predL, predE, Region.binds, UpL] at hu
                  have e19 : vals 19 = .bool false := hC.v 19 (by simp [hu])
                  have HCx := Lib.hid hC
                  clear hC hcl hu hi
                  simp only [fillA, if_true, Act.put]
                  simp
                  simp only [e19]
                  clear e19
                  go_wp2
                  exact ⟨rfl, HCx.out.quiet 20 rfl⟩
                · intro L wx vals hi hu hcl hC
                  simp [predL, predE, Region.binds, UpL] at hu
                  have e19 : vals 19 = .bool false := hC.v 19 (by simp [hu])
                  have e20 : vals 20 = .int .i64 (k : Nat) := hC.v 20 (by simp [hu])
                  have HCx := Lib.hid hC
                  clear hC hcl hu hi
                  simp only [fillA, if_true, Act.put]
                  simp
                  simp only [e19, e20]
                  clear e19 e20
                  go_wp2
                  exact ⟨rfl, HCx.out.quiet 21 rfl⟩
                · intro L wx vals hi hu hcl hC
                  simp [predL, predE, Region.binds, UpL] at hu
                  have e19 : vals 19 = .bool false := hC.v 19 (by simp [hu])
                  have e21 : vals 21 = .bool true := hC.v 21 (by simp [hu])
                  have HCx := Lib.hid hC
                  clear hC hcl hu hi
                  simp only [fillA, if_true, Act.put]
                  simp
                  simp only [e19, e21]
                  clear e19 e21
                  go_wp2
                  exact ⟨rfl, HCx.out.quiet 22 rfl⟩
                · intro L wx vals hi hu hcl hC
                  simp [predL, predE, Region.binds, UpL] at hu
                  have e22 : vals 22 = .bool true := hC.v 22 (by simp [hu])
                  have HCx := Lib.hid hC
                  clear hC hcl hu hi
                  simp only [fillA, if_true, Act.put]
                  simp
                  simp only [e22]
                  clear e22
                  go_wp2
                  exact ⟨rfl, HCx.out.quiet 23 rfl⟩
                · intro L wx vals hi hu hcl hC
                  simp [predL, predE, Region.binds, UpL] at hu
                  have e22 : vals 22 = .bool true := hC.v 22 (by simp [hu])
                  have HCx := Lib.hid hC
                  clear hC hcl hu hi
                  simp only [fillA, if_true, Act.put]
                  simp
                  simp only [e22]
                  clear e22
                  go_wp2
                  exact ⟨rfl, HCx.out.quiet 24 rfl⟩
                · intro L wx vals hi hu hcl hC
                  simp [predL, predE, Region.binds, UpL] at hu
                  have e22 : vals 22 = .bool true := hC.v 22 (by simp [hu])
                  have e23 : vals 23 = .slice (some ⟨b, off, none⟩) n c := hC.v 23 (by simp [hu])
                  have e24 : vals 24 = .int .i64 (k : Nat) := hC.v 24 (by simp [hu])
                  have HCx := Lib.hid hC
                  clear hC hcl hu hi
                  simp only [fillA, if_true, Act.put]
                  simp
                  simp only [e22, e23, e24]
                  clear e22 e23 e24
                  go_wp2
                  exact ⟨rfl, HCx.out.quiet 25 rfl⟩
                · intro L wx vals hi hu hcl hC
                  simp [predL, predE, Region.binds, UpL] at hu
                  have e22 : vals 22 = .bool true := hC.v 22 (by simp [hu])
                  have e25 : vals 25 = .pointer (some ⟨b, off + k * 3, none⟩) := hC.v 25 (by simp [hu])
                  have HCx := Lib.hid hC
                  clear hC hcl hu hi
                  simp only [fillA, if_true, Act.put]
                  simp
                  simp only [e22, e25]
                  clear e22 e25
                  go_wp2
                  exact ⟨rfl, HCx.out.quiet 26 rfl⟩
                · intro L wx vals hi hu hcl hC
                  simp [predL, predE, Region.binds, UpL] at hu
                  have e22 : vals 22 = .bool true := hC.v 22 (by simp [hu])
                  have e26 : vals 26 = .pointer (some ⟨b, off + k * 3, none⟩) := hC.v 26 (by simp [hu])
                  have h0 := (HC4.out wx hC.b).1
                  have HCx := Lib.hid hC
                  clear hC hcl hu hi
                  simp only [fillA, if_true, Act.put]
                  simp
                  simp only [e22, e26]
                  clear e22 e26
                  go_wp2
                  exact ⟨rfl, HCx.out.quiet 27 rfl⟩
                · intro L wx vals hi hu hcl hC
                  simp [predL, predE, Region.binds, UpL] at hu
                  have e22 : vals 22 = .bool true := hC.v 22 (by simp [hu])
                  have HCx := Lib.hid hC
                  clear hC hcl hu hi
                  simp only [fillA, if_true, Act.put]
                  simp
                  simp only [e22]
                  clear e22
                  go_wp2
                  exact ⟨rfl, HCx.out.quiet 28 rfl⟩
                · intro L wx vals hi hu hcl hC
                  simp [predL, predE, Region.binds, UpL] at hu
                  have e22 : vals 22 = .bool true := hC.v 22 (by simp [hu])
                  have HCx := Lib.hid hC
                  clear hC hcl hu hi
                  simp only [fillA, if_true, Act.put]
                  simp
                  simp only [e22]
                  clear e22
                  go_wp2
                  exact ⟨rfl, HCx.out.quiet 29 rfl⟩
                · intro L wx vals hi hu hcl hC
                  simp [predL, predE, Region.binds, UpL] at hu
                  have e22 : vals 22 = .bool true := hC.v 22 (by simp [hu])
                  have e29 : vals 29 = .int .i64 (k : Nat) := hC.v 29 (by simp [hu])
                  have HCx := Lib.hid hC
                  clear hC hcl hu hi
                  simp only [fillA, if_true, Act.put]
                  simp
                  simp only [e22, e29]
                  clear e22 e29
                  go_wp2
                  exact ⟨rfl, HCx.out.quiet 30 rfl⟩
                · intro L wx vals hi hu hcl hC
                  simp [predL, predE, Region.binds, UpL] at hu
                  have e22 : vals 22 = .bool true := hC.v 22 (by simp [hu])
                  have e28 : vals 28 = .slice (some ⟨b, off, none⟩) n c := hC.v 28 (by simp [hu])
                  have e30 : vals 30 = .int .i64 (p : Nat) := hC.v 30 (by simp [hu])
                  have HCx := Lib.hid hC
                  clear hC hcl hu hi
                  simp only [fillA, if_true, Act.put]
                  simp
                  simp only [e22, e28, e30]
                  clear e22 e28 e30
                  go_wp2
                  exact ⟨rfl, HCx.out.quiet 31 rfl⟩
                · intro L wx vals hi hu hcl hC
                  simp [predL, predE, Region.binds, UpL] at hu
                  have e22 : vals 22 = .bool true := hC.v 22 (by simp [hu])
                  have e31 : vals 31 = .pointer (some ⟨b, off + p * 3, none⟩) := hC.v 31 (by simp [hu])
                  have HCx := Lib.hid hC
                  clear hC hcl hu hi
                  simp only [fillA, if_true, Act.put]
                  simp
                  simp only [e22, e31]
                  clear e22 e31
                  go_wp2
                  exact ⟨rfl, HCx.out.quiet 32 rfl⟩
                · intro L wx vals hi hu hcl hC
                  simp [predL, predE, Region.binds, UpL] at hu
                  have e22 : vals 22 = .bool true := hC.v 22 (by simp [hu])
                  have e32 : vals 32 = .pointer (some ⟨b, off + p * 3, none⟩) := hC.v 32 (by simp [hu])
                  have h0 := (HC4.out wx hC.b).2.2.1
                  have HCx := Lib.hid hC
                  clear hC hcl hu hi
                  simp only [fillA, if_true, Act.put]
                  simp
                  simp only [e22, e32]
                  clear e22 e32
                  go_wp2
                  exact ⟨rfl, HCx.out.quiet 33 rfl⟩
                · intro L wx vals hi hu hcl hC
                  simp [predL, predE, Region.binds, UpL] at hu
                  have e22 : vals 22 = .bool true := hC.v 22 (by simp [hu])
                  have e27 : vals 27 = .int .i64 q1 := hC.v 27 (by simp [hu])
                  have e33 : vals 33 = .int .i64 q0 := hC.v 33 (by simp [hu])
                  have HCx := Lib.hid hC
                  clear hC hcl hu hi
                  simp only [fillA, if_true, Act.put]
                  simp
                  simp only [e22, e27, e33]
                  clear e22 e27 e33
                  go_wp2
                  exact ⟨rfl, HCx.out.quiet 34 rfl⟩
                · intro L wx vals hi hu hcl hC
                  simp [predL, predE, Region.binds, UpL] at hu
                  have e22 : vals 22 = .bool true := hC.v 22 (by simp [hu])
                  have e34 : vals 34 = .bool false := hC.v 34 (by simp [hu])
                  have HCx := Lib.hid hC
                  clear hC hcl hu hi
                  simp only [fillA, if_true, Act.put]
                  simp
                  simp only [e22, e34]
                  clear e22 e34
                  go_wp2
                  exact ⟨rfl, HCx.out.quiet 35 rfl⟩
                · intro L wx vals hi hu hcl hC
                  simp [predL, predE, Region.binds, UpL] at hu
                  have e35 : vals 35 = .bool false := hC.v 35 (by simp [hu])
                  have HCx := Lib.hid hC
                  clear hC hcl hu hi
                  simp only [fillA, if_true, Act.put]
                  simp
                  simp only [e35]
                  clear e35
                  go_wp2
                  exact ⟨rfl, HCx.out.quiet 36 rfl⟩
                · intro L wx vals hi hu hcl hC
                  simp [predL, predE, Region.binds, UpL] at hu
                  have e35 : vals 35 = .bool false := hC.v 35 (by simp [hu])
                  have HCx := Lib.hid hC
                  clear hC hcl hu hi
                  simp only [fillA, if_true, Act.put]
                  simp
                  simp only [e35]
                  clear e35
                  go_wp2
                  exact ⟨rfl, HCx.out.quiet 37 rfl⟩
                · intro L wx vals hi hu hcl hC
                  simp [predL, predE, Region.binds, UpL] at hu
                  have e35 : vals 35 = .bool false := hC.v 35 (by simp [hu])
                  have e36 : vals 36 = .slice (some ⟨b, off, none⟩) n c := hC.v 36 (by simp [hu])
                  have e37 : vals 37 = .int .i64 (k : Nat) := hC.v 37 (by simp [hu])
                  have HCx := Lib.hid hC
                  clear hC hcl hu hi
                  simp only [fillA, if_true, Act.put]
                  simp
                  simp only [e35, e36, e37]
                  clear e35 e36 e37
                  go_wp2
                  exact ⟨rfl, HCx.out.quiet 38 rfl⟩
                · intro L wx vals hi hu hcl hC
                  simp [predL, predE, Region.binds, UpL] at hu
                  have e35 : vals 35 = .bool false := hC.v 35 (by simp [hu])
                  have e38 : vals 38 = .pointer (some ⟨b, off + k * 3, none⟩) := hC.v 38 (by simp [hu])
                  have HCx := Lib.hid hC
                  clear hC hcl hu hi
                  simp only [fillA, if_true, Act.put]
                  simp
                  simp only [e35, e38]
                  clear e35 e38
                  go_wp2
                  exact ⟨rfl, HCx.out.quiet 39 rfl⟩
                · intro L wx vals hi hu hcl hC
                  simp [predL, predE, Region.binds, UpL] at hu
                  have e35 : vals 35 = .bool false := hC.v 35 (by simp [hu])
                  have e39 : vals 39 = .pointer (some ⟨b, off + k * 3 + 1, none⟩) := hC.v 39 (by simp [hu])
                  have h0 := (HC4.out wx hC.b).2.1
                  have HCx := Lib.hid hC
                  clear hC hcl hu hi
                  simp only [fillA, if_true, Act.put]
                  simp
                  simp only [e35, e39]
                  clear e35 e39
                  go_wp2
                  exact ⟨rfl, HCx.out.quiet 40 rfl⟩
                · intro L wx vals hi hu hcl hC
                  simp [predL, predE, Region.binds, UpL] at hu
                  have e35 : vals 35 = .bool false := hC.v 35 (by simp [hu])
                  have HCx := Lib.hid hC
                  clear hC hcl hu hi
                  simp only [fillA, if_true, Act.put]
                  simp
                  simp only [e35]
                  clear e35
                  go_wp2
                  exact ⟨rfl, HCx.out.quiet 41 rfl⟩
                · intro L wx vals hi hu hcl hC
                  simp [predL, predE, Region.binds, UpL] at hu
                  have e35 : vals 35 = .bool false := hC.v 35 (by simp [hu])
                  have HCx := Lib.hid hC
                  clear hC hcl hu hi
                  simp only [fillA, if_true, Act.put]
                  simp
                  simp only [e35]
                  clear e35
                  go_wp2
                  exact ⟨rfl, HCx.out.quiet 42 rfl⟩
                · intro L wx vals hi hu hcl hC
                  simp [predL, predE, Region.binds, UpL] at hu
                  have e35 : vals 35 = .bool false := hC.v 35 (by simp [hu])
                  have e42 : vals 42 = .int .i64 (k : Nat) := hC.v 42 (by simp [hu])
                  have HCx := Lib.hid hC
                  clear hC hcl hu hi
                  simp only [fillA, if_true, Act.put]
                  simp
                  simp only [e35, e42]
                  clear e35 e42
                  go_wp2
                  exact ⟨rfl, HCx.out.quiet 43 rfl⟩
                · intro L wx vals hi hu hcl hC
                  simp [predL, predE, Region.binds, UpL] at hu
                  have e35 : vals 35 = .bool false := hC.v 35 (by simp [hu])
                  have e41 : vals 41 = .slice (some ⟨b, off, none⟩) n c := hC.v 41 (by simp [hu])
                  have e43 : vals 43 = .int .i64 (p : Nat) := hC.v 43 (by simp [hu])
                  have HCx := Lib.hid hC
                  clear hC hcl hu hi
                  simp only [fillA, if_true, Act.put]
                  simp
                  simp only [e35, e41, e43]
                  clear e35 e41 e43
                  go_wp2
                  exact ⟨rfl, HCx.out.quiet 44 rfl⟩
                · intro L wx vals hi hu hcl hC
                  simp [predL, predE, Region.binds, UpL] at hu
                  have e35 : vals 35 = .bool false := hC.v 35 (by simp [hu])
                  have e44 : vals 44 = .pointer (some ⟨b, off + p * 3, none⟩) := hC.v 44 (by simp [hu])
                  have HCx := Lib.hid hC
                  clear hC hcl hu hi
                  simp only [fillA, if_true, Act.put]
                  simp
                  simp only [e35, e44]
                  clear e35 e44
                  go_wp2
                  exact ⟨rfl, HCx.out.quiet 45 rfl⟩
                · intro L wx vals hi hu hcl hC
                  simp [predL, predE, Region.binds, UpL] at hu
                  have e35 : vals 35 = .bool false := hC.v 35 (by simp [hu])
                  have e45 : vals 45 = .pointer (some ⟨b, off + p * 3 + 1, none⟩) := hC.v 45 (by simp [hu])
                  have h0 := (HC4.out wx hC.b).2.2.2
                  have HCx := Lib.hid hC
                  clear hC hcl hu hi
                  simp only [fillA, if_true, Act.put]
                  simp
                  simp only [e35, e45]
                  clear e35 e45
                  go_wp2
                  exact ⟨rfl, HCx.out.quiet 46 rfl⟩
                · intro L wx vals hi hu hcl hC
                  simp [predL, predE, Region.binds, UpL] at hu
                  have e35 : vals 35 = .bool false := hC.v 35 (by simp [hu])
                  have e40 : vals 40 = .int .i64 i1 := hC.v 40 (by simp [hu])
                  have e46 : vals 46 = .int .i64 i0 := hC.v 46 (by simp [hu])
                  have HCx := Lib.hid hC
                  clear hC hcl hu hi
                  simp only [fillA, if_true, Act.put]
                  simp
                  simp only [e35, e40, e46]
                  clear e35 e40 e46
                  go_wp2
                  exact ⟨rfl, HCx.out.quiet 47 rfl⟩
                · intro L wx vals hi hu hcl hC
                  simp [predL, predE, Region.binds, UpL] at hu
                  have e22 : vals 22 = .bool true := hC.v 22 (by simp [hu])
                  have e35 : vals 35 = .bool false := hC.v 35 (by simp [hu])
                  have e47 : vals 47 = .bool false := hC.v 47 (by simp [hu])
                  have HCx := Lib.hid hC
                  clear hC hcl hu hi
                  simp only [fillA, if_true, Act.put]
                  simp
                  simp only [e22, e35, e47]
                  clear e22 e35 e47
                  go_wp2
                  exact ⟨rfl, HCx.out.quiet 48 rfl⟩
                · intro L wx vals hi hu hcl hC
                  simp [predL, predE, Region.binds, UpL] at hu
                  have e19 : vals 19 = .bool false := hC.v 19 (by simp [hu])
                  have e22 : vals 22 = .bool true := hC.v 22 (by simp [hu])
                  have e48 : vals 48 = .bool false := hC.v 48 (by simp [hu])
                  have HCx := Lib.hid hC
                  clear hC hcl hu hi
                  simp only [fillA, if_true, Act.put]
                  simp
                  simp only [e19, e22, e48]
                  clear e19 e22 e48
                  go_wp2
                  exact ⟨rfl, HCx.out.quiet 49 rfl⟩
                · intro L wx vals hi hu hcl hC
                  simp [predL, predE, Region.binds, UpL] at hu
                  have e19 : vals 19 = .bool false := hC.v 19 (by simp [hu])
                  have e49 : vals 49 = .bool false := hC.v 49 (by simp [hu])
                  have HCx := Lib.hid hC
                  clear hC hcl hu hi
                  simp only [fillA, if_true, Act.put]
                  simp
                  simp only [e19, e49]
                  clear e19 e49
                  go_wp2
                  exact ⟨rfl, HCx.out.quiet 50 rfl⟩
              · intro wz vals U hC hall
                have e50 : vals 50 = .bool false := hC.v 50 (hall 50 (by simp))
                have HI3 := Lib.hid (HI2.out.step (LsP.frm.star (SnP.frm.star GenP.frm)) ((Below.refl _ wr).drew.trans hC.b))
                simp only [fillA, if_true, Act.put]
                simp
                simp only [e50]
                clear hC hall e50 HC4 HBS HI2
                generalize vals 0 = t_0 at *
                generalize vals 1 = t_1 at *
                generalize vals 2 = t_2 at *
                generalize vals 3 = t_3 at *
                generalize vals 4 = t_4 at *
                generalize vals 5 = t_5 at *
                generalize vals 6 = t_6 at *
                generalize vals 7 = t_7 at *
                generalize vals 8 = t_8 at *
                generalize vals 9 = t_9 at *
                generalize vals 10 = t_10 at *
                generalize vals 11 = t_11 at *
                generalize vals 12 = t_12 at *
                generalize vals 13 = t_13 at *
                generalize vals 14 = t_14 at *
                generalize vals 15 = t_15 at *
                generalize vals 16 = t_16 at *
                generalize vals 17 = t_17 at *
                generalize vals 18 = t_18 at *
                generalize vals 19 = t_19 at *
                generalize vals 20 = t_20 at *
                generalize vals 21 = t_21 at *
                generalize vals 22 = t_22 at *
                generalize vals 23 = t_23 at *
                generalize vals 24 = t_24 at *
                generalize vals 25 = t_25 at *
                generalize vals 26 = t_26 at *
                generalize vals 27 = t_27 at *
                generalize vals 28 = t_28 at *
                generalize vals 29 = t_29 at *
                generalize vals 30 = t_30 at *
                generalize vals 31 = t_31 at *
                generalize vals 32 = t_32 at *
                generalize vals 33 = t_33 at *
                generalize vals 34 = t_34 at *
                generalize vals 35 = t_35 at *
                generalize vals 36 = t_36 at *
                generalize vals 37 = t_37 at *
                generalize vals 38 = t_38 at *
                generalize vals 39 = t_39 at *
                generalize vals 40 = t_40 at *
                generalize vals 41 = t_41 at *
                generalize vals 42 = t_42 at *
                generalize vals 43 = t_43 at *
                generalize vals 44 = t_44 at *
                generalize vals 45 = t_45 at *
                generalize vals 46 = t_46 at *
                generalize vals 47 = t_47 at *
                generalize vals 48 = t_48 at *
                generalize vals 49 = t_49 at *
                go_wp2
                go_roundw
                case rel => exact ⟨k + 1, by omega, by go_num, HI3⟩
                case measure => simp [intOf]; omega
          · obtain rfl : k = n := by omega
            have HF := Lib.hid (HI3.out.drop)
            clear HI3
            go_wp2
            go_roundw
            case rel => exact ⟨i + 1, q', nxt', s', by omega, by omega, by omega, by go_num, rfl, Lib.hid (by have := HN2.out; push_cast; exact this), HF⟩
            case measure => simp [intOf]; omega
    · obtain rfl : i = 60 := by omega
      have HF := Lib.hid HS.out.out
      clear HS HN
      go_wp2_with fail
      (with_reducible refine (HAW.out _).mono ?_); rintro e w4 ⟨rfl, hb⟩
      have HF2 := Lib.hid (HF.out.trans (hb.mono HF.out.size))
      clear hb HF
      go_wp2
      go_ret
      exact ⟨rfl, HF2.out⟩
end Go.Proofs.Ytglhaclehdkagaa

