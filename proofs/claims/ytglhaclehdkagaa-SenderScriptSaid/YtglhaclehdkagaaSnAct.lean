/-
  Layer 16: one call on the program's sender and the reference's (act). Written by gen_snact.py.
-/
import Derived.Test.YtglhaclehdkagaaSnEnv
import Derived.Deep.LoopGhost
import Derived.LoopTactic
namespace Go.Proofs.Ytglhaclehdkagaa
open Go.ChangeShapes Go.WideShapes Go.ChangeAt Go.RowKit
set_option linter.unusedVariables false

/-- The region of the two acknowledgements: which has come up. -/
structure SnAk (base : Nat) (w0 : World) (B : Nat) (a : Option Addr) (len cap R S q : Nat) (s : SnS) (g : Nat) (b m : Int) (L : Nat → Bool) (vals : Nat → Value) (w : World) : Prop where
  c0 : L 0 = true → vals 0 = .pointer (some ⟨R, 0, none⟩)
  c1 : L 1 = true → vals 1 = .agg #[.int .i64 b, .int .u64 m]
  c3 : L 3 = true → vals 3 = .pointer (some ⟨S, 0, none⟩)
  c4 : L 4 = true → vals 4 = .agg #[.int .i64 b, .int .u64 m]
  c6 : L 6 = true → vals 6 = .bool true
  c7 : L 7 = true → vals 7 = .bool true
  pa : L 2 = false → L 5 = false → Inv base w0 (Star (BoxP g 47 #[.int .i64 b, .int .u64 m]) (SnE2 base B a len cap R S q s s)) w
  pb : L 2 = true → L 5 = false → Inv base w0 (Star (LsP csI 1 3 (vals 2) (snAkL s b m)) (Star (BoxP g 47 #[.int .i64 b, .int .u64 m]) (SnE2 base B a len cap R S q (s.ack b m) s))) w
  pc : L 5 = true → Inv base w0 (Star (LsP csI 1 3 (vals 5) (snAkL s b m)) (Star (LsP csI 1 3 (vals 2) (snAkL s b m)) (Star (BoxP g 47 #[.int .i64 b, .int .u64 m]) (SnE2 base B a len cap R S q (s.ack b m) (s.ack b m))))) w
section
variable {base : Nat} {w0 : World} {B : Nat} {a : Option Addr} {len cap R S q : Nat} {s : SnS} {g : Nat} {b m : Int} {L : Nat → Bool} {vals : Nat → Value} {w w' : World}
theorem SnAk.start (h : Inv base w0 (Star (BoxP g 47 #[.int .i64 b, .int .u64 m]) (SnE2 base B a len cap R S q s s)) w) : SnAk base w0 B a len cap R S q s g b m (fun _ => false) (fun _ => undef) w.drew :=
  ⟨(fun h => by cases h), (fun h => by cases h), (fun h => by cases h), (fun h => by cases h), (fun h => by cases h), (fun h => by cases h), fun _ _ => h.step (BoxP.frm.star SnE2.frm) (Below.refl _ _).drew, (fun h => by cases h), (fun h => by cases h)⟩
/-- One that is neither call has come up. -/
theorem SnAk.more (h : SnAk base w0 B a len cap R S q s g b m L vals w) {i : Nat} (h2 : 2 ≠ i) (h5 : 5 ≠ i) {v : Value} (hv : (i = 0 → v = .pointer (some ⟨R, 0, none⟩)) ∧ (i = 1 → v = .agg #[.int .i64 b, .int .u64 m]) ∧ (i = 3 → v = .pointer (some ⟨S, 0, none⟩)) ∧ (i = 4 → v = .agg #[.int .i64 b, .int .u64 m]) ∧ (i = 6 → v = .bool true) ∧ (i = 7 → v = .bool true)) : SnAk base w0 B a len cap R S q s g b m (setL L i) (setV vals i v) w := by
  obtain ⟨v0, v1, v3, v4, v6, v7⟩ := hv
  have key : ∀ j x, (L j = true → vals j = x) → (i = j → v = x) → (setL L i j = true → setV vals i v j = x) := by
    intro j x h1 h2 h3
    by_cases e : j = i
    · subst e; rw [setV_at]; exact h2 rfl
    · rw [setV_ne e]; rw [setL_ne e] at h3; exact h1 h3
  refine ⟨key 0 _ h.c0 v0, key 1 _ h.c1 v1, key 3 _ h.c3 v3, key 4 _ h.c4 v4, key 6 _ h.c6 v6, key 7 _ h.c7 v7, ?_, ?_, ?_⟩
  · rw [setL_ne h2, setL_ne h5]; exact h.pa
  · rw [setL_ne h2, setL_ne h5, setV_ne h2]; exact h.pb
  · rw [setL_ne h5, setV_ne h2, setV_ne h5]; exact h.pc
theorem SnAk.k0 (h : SnAk base w0 B a len cap R S q s g b m L vals w) : SnAk base w0 B a len cap R S q s g b m (setL L 0) (setV vals 0 (.pointer (some ⟨R, 0, none⟩))) w := h.more (by decide) (by decide) (by simp)
theorem SnAk.k1 (h : SnAk base w0 B a len cap R S q s g b m L vals w) : SnAk base w0 B a len cap R S q s g b m (setL L 1) (setV vals 1 (.agg #[.int .i64 b, .int .u64 m])) w := h.more (by decide) (by decide) (by simp)
theorem SnAk.k3 (h : SnAk base w0 B a len cap R S q s g b m L vals w) : SnAk base w0 B a len cap R S q s g b m (setL L 3) (setV vals 3 (.pointer (some ⟨S, 0, none⟩))) w := h.more (by decide) (by decide) (by simp)
theorem SnAk.k4 (h : SnAk base w0 B a len cap R S q s g b m L vals w) : SnAk base w0 B a len cap R S q s g b m (setL L 4) (setV vals 4 (.agg #[.int .i64 b, .int .u64 m])) w := h.more (by decide) (by decide) (by simp)
theorem SnAk.k7 (h : SnAk base w0 B a len cap R S q s g b m L vals w) : SnAk base w0 B a len cap R S q s g b m (setL L 7) (setV vals 7 (.bool true)) w := h.more (by decide) (by decide) (by simp)
theorem SnAk.cells (h : SnAk base w0 B a len cap R S q s g b m L vals w) : w.cell? ⟨g, 0, none⟩ = some (.int .i64 b) ∧ w.cell? ⟨g, 1, none⟩ = some (.int .u64 m) := by
  have hw : Whole w g 47 #[.int .i64 b, .int .u64 m] := by
    cases h5 : L 5
    · cases h2 : L 2
      · exact (h.pa h2 h5).boxed
      · exact (h.pb h2 h5).drop.boxed
    · exact (h.pc h5).drop.drop.boxed
  have g0 := hw.read 0
  have g1 := hw.read 1
  simp at g0 g1
  exact ⟨g0, g1⟩
theorem SnAk.callP (h : SnAk base w0 B a len cap R S q s g b m L vals w) (h2 : L 2 = false) (h5 : L 5 = false) (hn : s.l.length ≤ 9998) (hm : Wd m) :
    Calls Try.prog 21 #[.pointer (some ⟨R, 0, none⟩), .agg #[.int .i64 b, .int .u64 m]] w fun e w' => ∃ v, e = .returned v ∧ SnAk base w0 B a len cap R S q s g b m (setL L 2) (setV vals 2 v) w' := by
  refine (Inv.call (h.pa h2 h5) (Acts.right BoxP.frm (SnE2.pack (by omega) b m hm))).mono ?_
  rintro e w' ⟨v, e1, hi⟩
  have hi2 := hi.imp fun T => Star.pick2
  refine ⟨v, e1, ?_, ?_, ?_, ?_, ?_, ?_, (fun e => by rw [setL_at] at e; cases e), fun _ _ => by rw [setV_at]; exact hi2, (fun e => by rw [setL_ne (by decide), h5] at e; cases e)⟩
  · rw [setL_ne (by decide), setV_ne (by decide)]; exact h.c0
  · rw [setL_ne (by decide), setV_ne (by decide)]; exact h.c1
  · rw [setL_ne (by decide), setV_ne (by decide)]; exact h.c3
  · rw [setL_ne (by decide), setV_ne (by decide)]; exact h.c4
  · rw [setL_ne (by decide), setV_ne (by decide)]; exact h.c6
  · rw [setL_ne (by decide), setV_ne (by decide)]; exact h.c7
theorem SnAk.callR (h : SnAk base w0 B a len cap R S q s g b m L vals w) (h2 : L 2 = true) (h5 : L 5 = false) (hn : s.l.length ≤ 9998) (hm : Wd m) :
    Calls Try.prog 28 #[.pointer (some ⟨S, 0, none⟩), .agg #[.int .i64 b, .int .u64 m]] w fun e w' => ∃ v, e = .returned v ∧ SnAk base w0 B a len cap R S q s g b m (setL L 5) (setV vals 5 v) w' := by
  refine (Inv.call (h.pb h2 h5) (Acts.right LsP.frm (Acts.right BoxP.frm (SnE2.rack (by omega) b m hm)))).mono ?_
  rintro e w' ⟨v, e1, hi⟩
  have hi2 := hi.imp fun T => Star.pick3
  refine ⟨v, e1, ?_, ?_, ?_, ?_, ?_, ?_, (fun _ e => by rw [setL_at] at e; cases e), (fun _ e => by rw [setL_at] at e; cases e), fun _ => by rw [setV_at, setV_ne (by decide)]; exact hi2⟩
  · rw [setL_ne (by decide), setV_ne (by decide)]; exact h.c0
  · rw [setL_ne (by decide), setV_ne (by decide)]; exact h.c1
  · rw [setL_ne (by decide), setV_ne (by decide)]; exact h.c3
  · rw [setL_ne (by decide), setV_ne (by decide)]; exact h.c4
  · rw [setL_ne (by decide), setV_ne (by decide)]; exact h.c6
  · rw [setL_ne (by decide), setV_ne (by decide)]; exact h.c7
theorem akL_len (s : SnS) (b m : Int) : (snAkL s b m).length ≤ s.l.length := by
  unfold snAkL
  split
  · rw [List.length_map]; exact List.length_filter_le _ _
  · simp
theorem SnAk.callE (h : SnAk base w0 B a len cap R S q s g b m L vals w) (h5 : L 5 = true) (hn : s.l.length ≤ 9998) :
    Calls Try.prog 27 #[vals 2, vals 5] w fun e w' => e = .returned (.bool true) ∧ SnAk base w0 B a len cap R S q s g b m (setL L 6) (setV vals 6 (.bool true)) w' := by
  have hi := h.pc h5
  have hl := akL_len s b m
  refine (eqI_any (l := snAkL s b m) (by omega) (LsP.any hi.drop) (LsP.any hi)).mono ?_
  rintro e w' ⟨e1, hb⟩
  have hk := hi.step (LsP.frm.star (LsP.frm.star (BoxP.frm.star SnE2.frm))) hb
  refine ⟨e1, SnAk.more (w := w') ⟨h.c0, h.c1, h.c3, h.c4, h.c6, h.c7, (fun _ e => by rw [h5] at e; cases e), (fun _ e => by rw [h5] at e; cases e), fun _ => hk⟩ (by decide) (by decide) (by simp)⟩
end
set_option maxRecDepth 100000 in
set_option maxHeartbeats 16000000 in
theorem act_any {base : Nat} {w0 : World} {B : Nat} {a : Option Addr} {len cap R S q : Nat} {s : SnS} {w : World} (h : Inv base w0 (SnE2 base B a len cap R S q s s) w) (hq : q ≤ 100000000) (hn : s.l.length ≤ 9998) (id : Int) :
    Calls Try.prog 11 #[.pointer (some ⟨B, 0, none⟩), .pointer (some ⟨R, 0, none⟩), .pointer (some ⟨S, 0, none⟩), .int .i64 id] w fun e w' => e = .returned (.bool true) ∧ ∃ (q' : Nat) (s' : SnS), q' ≤ q + 6 ∧ s'.l.length ≤ s.l.length + 1 ∧ Inv base w0 (SnE2 base B a len cap R S q' s' s') w' := by
  have hbd := SnE2.bd h
  have HX := Lib.hid (SnE2.rbase h)
  clear h
  obtain ⟨ba, hba⟩ : ∃ ba, snBase s = ba := ⟨_, rfl⟩
  rw [hba] at HX hbd
  have HBA := Lib.hid hba
  clear hba
  go_enter Try.func11, Try.ntmps11
  go_wp2_with fail
  (with_reducible refine HX.out.mono ?_); rintro e w1 ⟨rfl, h1⟩
  have HX := Lib.hid (SnE2.nx1 h1 (n := 6) (by omega) (by omega) (by omega))
  clear h1
  go_wp2_with fail
  (with_reducible refine HX.out.mono ?_); rintro e w2 ⟨r1, r10, r11, rfl, h2⟩
  have wa1 : IntKind.i64.wrap (ba + r1) = ba + r1 := IntWalk.i64_in _ (by omega)
  have wa2 : Int.tmod (ba + r1) 65536 = (ba + r1) % 65536 := Int.tmod_eq_emod_of_nonneg (by omega)
  obtain ⟨sq, hsq⟩ : ∃ sq, (ba + r1) % 65536 = sq := ⟨_, rfl⟩
  rw [hsq] at wa2
  have wa3 : IntKind.i64.wrap sq = sq := IntWalk.i64_in _ (by omega)
  have HX := Lib.hid (SnE2.nx1 h2 (n := 8) (by omega) (by omega) (by omega))
  clear h2
  go_wp2_with fail
  (with_reducible refine HX.out.mono ?_); rintro e w2 ⟨r8, r80, r81, rfl, h2⟩
  clear HX wa1 wa2
  rcases (by omega : (r8 = 0 ∨ r8 = 1 ∨ r8 = 2) ∨ (r8 = 3 ∨ r8 = 4) ∨ (r8 = 5 ∨ r8 = 6) ∨ r8 = 7) with hr | hr | hr | hr
  · clear wa3 hsq hbd
    rcases hr with rfl | rfl | rfl
    all_goals
      have HX := Lib.hid (Inv.call1 h2 (SnE2.pasg (by omega) id))
      clear h2
      go_wp2_with fail
      (with_reducible refine HX.out.mono ?_); rintro e w3 ⟨rfl, h3⟩
      have HX := Lib.hid (Inv.call1 h3 (SnE2.rasg (by omega) id))
      have hln : (s.asg id).l.length ≤ s.l.length + 1 := by have := asg_len s id; omega
      clear h3
      generalize s.asg id = s' at *
      generalize snAsV s id = v9 at *
      generalize snAsE s id = e9 at *
      have hv9 : (v9 == v9) = true := by simp
      have he9 : (e9 == e9) = true := by simp
      go_wp2_with fail
      (with_reducible refine HX.out.mono ?_); rintro e w4 ⟨rfl, h4⟩
      have HF := Lib.hid (show ∃ (q' : Nat) (s' : SnS), q' ≤ q + 6 ∧ s'.l.length ≤ s.l.length + 1 ∧ Inv base w0 (SnE2 base B a len cap R S q' s' s') w4 from ⟨_, s', by omega, hln, h4⟩)
      clear h4 HX
      go_wp2
      go_ret
      exact ⟨rfl, HF.out⟩
  · clear hsq hbd
    rcases hr with rfl | rfl
    all_goals
      have HX := Lib.hid (Inv.call1 h2 (SnE2.psnd (by omega) sq))
      clear h2
      go_wp2_with fail
      (with_reducible refine HX.out.mono ?_); rintro e w3 ⟨rfl, h3⟩
      have HX := Lib.hid (Inv.call1 h3 (SnE2.rsnd (by omega) sq))
      have hln : (s.snd sq).l.length ≤ s.l.length + 1 := by have := snd_len s sq; omega
      clear h3
      generalize s.snd sq = s' at *
      generalize snSdV s sq = v9 at *
      generalize snSdE s sq = e9 at *
      have hv9 : (v9 == v9) = true := by simp
      have he9 : (e9 == e9) = true := by simp
      go_wp2_with fail
      (with_reducible refine HX.out.mono ?_); rintro e w4 ⟨rfl, h4⟩
      have HF := Lib.hid (show ∃ (q' : Nat) (s' : SnS), q' ≤ q + 6 ∧ s'.l.length ≤ s.l.length + 1 ∧ Inv base w0 (SnE2 base B a len cap R S q' s' s') w4 from ⟨_, s', by omega, hln, h4⟩)
      clear h4 HX
      go_wp2
      go_ret
      exact ⟨rfl, HF.out⟩
  · rcases hr with rfl | rfl
    all_goals
      have HX := Lib.hid (SnE2.rbase h2)
      clear h2 wa3 hsq
      rw [HBA.out] at HX
      go_wp2_with fail
      (with_reducible refine HX.out.mono ?_); rintro e w3 ⟨rfl, h3⟩
      have HX := Lib.hid (SnE2.nx1 h3 (n := 4) (by omega) (by omega) (by omega))
      clear h3
      go_wp2_with fail
      (with_reducible refine HX.out.mono ?_); rintro e w4 ⟨r4, r40, r41, rfl, h4⟩
      have wb1 : IntKind.i64.wrap (ba + r4) = ba + r4 := IntWalk.i64_in _ (by omega)
      have wb2 : Int.tmod (ba + r4) 65536 = (ba + r4) % 65536 := Int.tmod_eq_emod_of_nonneg (by omega)
      obtain ⟨b4, hb4⟩ : ∃ b4, (ba + r4) % 65536 = b4 := ⟨_, rfl⟩
      rw [hb4] at wb2
      have wb3 : IntKind.i64.wrap b4 = b4 := IntWalk.i64_in _ (by omega)
      have HX := Lib.hid (SnE2.nx1 h4 (n := 32) (by omega) (by omega) (by omega))
      clear h4 hb4
      go_wp2_with fail
      (with_reducible refine HX.out.mono ?_); rintro e w5 ⟨r5, r50, r51, rfl, h5⟩
      have wc : IntKind.u64.wrap r5 = r5 := by rw [IntKind.wrap_u64]; omega
      have HWD := Lib.hid (show Wd r5 from ⟨by omega, by omega⟩)
      have h6 := h5.box SnE2.frm 47 #[.int .i64 b4, .int .u64 r5]
      have HX := Lib.hid (SnE2.nxX BoxP.frm h6 (n := 12) (by omega) (by omega) (by omega))
      clear h5 h6
      go_wp2_with fail
      (with_reducible refine HX.out.mono ?_); rintro e w6 ⟨r6, r60, r61, rfl, h6⟩
      obtain ⟨g, hg⟩ : ∃ g, w5.heap.size = g := ⟨_, rfl⟩
      rw [hg] at h6 ⊢
      have hbx := h6.boxed
      have g0 := hbx.read 0
      have z0 := hbx.free 0
      simp at g0
      clear wb1 wb2 wb3 HX hbx hg
      rcases (by omega : r6 = 0 ∨ r6 = 1 ∨ r6 = 2 ∨ (¬ r6 = 0 ∧ ¬ r6 = 1 ∧ ¬ r6 = 2)) with rfl | rfl | rfl | ⟨n0, n1, n2⟩
      · have HB6 := Lib.hid (show Inv base w0 (Star (BoxP g 47 #[.int .i64 (-1), .int .u64 r5]) (SnE2 base B a len cap R S (q + 1 + 1 + 1 + 1 + 1) s s)) (w6.setCell ⟨g, 0, none⟩ (.int .i64 (-1))) from h6.boxput SnE2.frm 0 (.int .i64 (-1)))
        clear h6
        have hAL : SnAk base w0 B a len cap R S (q + 1 + 1 + 1 + 1 + 1) s g (-1) r5 (fun _ => false) (fun _ => undef) (w6.setCell ⟨g, 0, none⟩ (.int .i64 (-1))).drew := SnAk.start HB6.out
        have HAL := Lib.hid hAL
        clear hAL HB6
        go_wp2_with fail
        refine wp_region_looseS 138 (by kernel_rfl) (by kernel_rfl) (SnAk base w0 B a len cap R S (q + 1 + 1 + 1 + 1 + 1) s g (-1) r5) rfl HAL.out ?_ ?_
        · simp only [OblAllS]
          refine ⟨?_, ?_, ?_, ?_, ?_, ?_, ?_, ?_, trivial⟩
          · intro L wx vals hi hu hcl hC
            simp [ClosedL, UpL, predL, predE, Region.binds] at hcl
            have HCx := Lib.hid hC
            clear hC hcl hu hi
            simp only [fillA, if_true, Act.put]
            simp
            go_wp2
            exact ⟨rfl, HCx.out.k0⟩
          · intro L wx vals hi hu hcl hC
            simp [ClosedL, UpL, predL, predE, Region.binds] at hcl
            have hx := hC.cells
            obtain ⟨x0, x1⟩ := hx
            have HCx := Lib.hid hC
            clear hC hcl hu hi
            simp only [fillA, if_true, Act.put]
            simp
            go_wp2
            exact ⟨rfl, HCx.out.k1⟩
          · intro L wx vals hi hu hcl hC
            simp [ClosedL, UpL, predL, predE, Region.binds] at hcl
            simp [predL, predE, Region.binds, UpL] at hu
            have e0 : vals 0 = .pointer (some ⟨R, 0, none⟩) := hC.c0 (by simp [hu])
            have e1 : vals 1 = .agg #[.int .i64 (-1), .int .u64 r5] := hC.c1 (by simp [hu])
            have h5 : L 5 = false := by clear hC; cases h : L 5 with | false => rfl | true => exfalso; simp_all
            have HL := Lib.hid (hC.callP hi h5 hn HWD.out)
            clear hC hcl hu hi h5
            simp only [fillA, if_true, Act.put]
            simp
            simp only [e0, e1]
            clear e0 e1
            go_wp2_with fail
            (with_reducible refine HL.out.mono ?_); rintro e w9 ⟨v9, rfl, hX⟩
            have HX9 := Lib.hid hX
            clear hX HL
            go_wp2
            exact ⟨rfl, HX9.out⟩
          · intro L wx vals hi hu hcl hC
            simp [ClosedL, UpL, predL, predE, Region.binds] at hcl
            have HCx := Lib.hid hC
            clear hC hcl hu hi
            simp only [fillA, if_true, Act.put]
            simp
            go_wp2
            exact ⟨rfl, HCx.out.k3⟩
          · intro L wx vals hi hu hcl hC
            simp [ClosedL, UpL, predL, predE, Region.binds] at hcl
            have hx := hC.cells
            obtain ⟨x0, x1⟩ := hx
            have HCx := Lib.hid hC
            clear hC hcl hu hi
            simp only [fillA, if_true, Act.put]
            simp
            go_wp2
            exact ⟨rfl, HCx.out.k4⟩
          · intro L wx vals hi hu hcl hC
            simp [ClosedL, UpL, predL, predE, Region.binds] at hcl
            simp [predL, predE, Region.binds, UpL] at hu
            have e3 : vals 3 = .pointer (some ⟨S, 0, none⟩) := hC.c3 (by simp [hu])
            have e4 : vals 4 = .agg #[.int .i64 (-1), .int .u64 r5] := hC.c4 (by simp [hu])
            have HL := Lib.hid (hC.callR (by simp [hu]) hi hn HWD.out)
            clear hC hcl hi hu
            simp only [fillA, if_true, Act.put]
            simp
            simp only [e3, e4]
            clear e3 e4
            go_wp2_with fail
            (with_reducible refine HL.out.mono ?_); rintro e w9 ⟨v9, rfl, hX⟩
            have HX9 := Lib.hid hX
            clear hX HL
            go_wp2
            exact ⟨rfl, HX9.out⟩
          · intro L wx vals hi hu hcl hC
            simp [ClosedL, UpL, predL, predE, Region.binds] at hcl
            simp [predL, predE, Region.binds, UpL] at hu
            have HL := Lib.hid (hC.callE (by simp [hu]) hn)
            clear hC hcl hi hu
            simp only [fillA, if_true, Act.put]
            simp
            generalize vals 2 = v2 at *
            generalize vals 5 = v5 at *
            go_wp2_with fail
            (with_reducible refine HL.out.mono ?_); rintro e w9 ⟨rfl, hX⟩
            have HX9 := Lib.hid hX
            clear hX HL
            go_wp2
            exact ⟨rfl, HX9.out⟩
          · intro L wx vals hi hu hcl hC
            simp [ClosedL, UpL, predL, predE, Region.binds] at hcl
            simp [predL, predE, Region.binds, UpL] at hu
            have e6 : vals 6 = .bool true := hC.c6 (by simp [hu])
            have HCx := Lib.hid hC
            clear hC hcl hu hi
            simp only [fillA, if_true, Act.put]
            simp
            simp only [e6]
            clear e6
            go_wp2
            exact ⟨rfl, HCx.out.k7⟩
        · intro wz vals L hC hall
          have e7 : vals 7 = .bool true := hC.c7 (hall 7 (by simp))
          have HF := Lib.hid (show ∃ (q' : Nat) (s' : SnS), q' ≤ q + 6 ∧ s'.l.length ≤ s.l.length + 1 ∧ Inv base w0 (SnE2 base B a len cap R S q' s' s') wz from ⟨q + 1 + 1 + 1 + 1 + 1, s.ack (-1) r5, by omega, by have := ack_len s (-1) r5; omega, (hC.pc (hall 5 (by simp))).drop.drop.drop⟩)
          simp only [fillA, if_true, Act.put]
          simp
          simp only [e7]
          clear hC hall e7 HAL
          generalize vals 0 = t_0 at *
          generalize vals 1 = t_1 at *
          generalize vals 2 = t_2 at *
          generalize vals 3 = t_3 at *
          generalize vals 4 = t_4 at *
          generalize vals 5 = t_5 at *
          generalize vals 6 = t_6 at *
          go_wp2
          go_ret
          exact ⟨rfl, HF.out⟩
      · have HX := Lib.hid (SnE2.rbaseX BoxP.frm h6)
        clear h6
        rw [HBA.out] at HX
        have wd0 : IntKind.i64.wrap (ba + 65536) = ba + 65536 := IntWalk.i64_in _ (by omega)
        have wd1 : IntKind.i64.wrap (ba + 65536 - 1) = ba + 65536 - 1 := IntWalk.i64_in _ (by omega)
        have wd2 : Int.tmod (ba + 65536 - 1) 65536 = (ba + 65536 - 1) % 65536 := Int.tmod_eq_emod_of_nonneg (by omega)
        obtain ⟨b7, hb7⟩ : ∃ b7, (ba + 65536 - 1) % 65536 = b7 := ⟨_, rfl⟩
        rw [hb7] at wd2
        have wd3 : IntKind.i64.wrap b7 = b7 := IntWalk.i64_in _ (by omega)
        clear hb7 g0 z0
        go_wp2_with fail
        (with_reducible refine HX.out.mono ?_); rintro e w7 ⟨rfl, h7⟩
        have hbx := h7.boxed
        have g0 := hbx.read 0
        have z0 := hbx.free 0
        simp at g0
        have HB6 := Lib.hid (show Inv base w0 (Star (BoxP g 47 #[.int .i64 b7, .int .u64 r5]) (SnE2 base B a len cap R S (q + 1 + 1 + 1 + 1 + 1) s s)) (w7.setCell ⟨g, 0, none⟩ (.int .i64 b7)) from h7.boxput SnE2.frm 0 (.int .i64 b7))
        clear h7 hbx HX
        have hAL : SnAk base w0 B a len cap R S (q + 1 + 1 + 1 + 1 + 1) s g b7 r5 (fun _ => false) (fun _ => undef) (w7.setCell ⟨g, 0, none⟩ (.int .i64 b7)).drew := SnAk.start HB6.out
        have HAL := Lib.hid hAL
        clear hAL HB6
        go_wp2_with fail
        refine wp_region_looseS 138 (by kernel_rfl) (by kernel_rfl) (SnAk base w0 B a len cap R S (q + 1 + 1 + 1 + 1 + 1) s g b7 r5) rfl HAL.out ?_ ?_
        · simp only [OblAllS]
          refine ⟨?_, ?_, ?_, ?_, ?_, ?_, ?_, ?_, trivial⟩
          · intro L wx vals hi hu hcl hC
            simp [ClosedL, UpL, predL, predE, Region.binds] at hcl
            have HCx := Lib.hid hC
            clear hC hcl hu hi
            simp only [fillA, if_true, Act.put]
            simp
            go_wp2
            exact ⟨rfl, HCx.out.k0⟩
          · intro L wx vals hi hu hcl hC
            simp [ClosedL, UpL, predL, predE, Region.binds] at hcl
            have hx := hC.cells
            obtain ⟨x0, x1⟩ := hx
            have HCx := Lib.hid hC
            clear hC hcl hu hi
            simp only [fillA, if_true, Act.put]
            simp
            go_wp2
            exact ⟨rfl, HCx.out.k1⟩
          · intro L wx vals hi hu hcl hC
            simp [ClosedL, UpL, predL, predE, Region.binds] at hcl
            simp [predL, predE, Region.binds, UpL] at hu
            have e0 : vals 0 = .pointer (some ⟨R, 0, none⟩) := hC.c0 (by simp [hu])
            have e1 : vals 1 = .agg #[.int .i64 b7, .int .u64 r5] := hC.c1 (by simp [hu])
            have h5 : L 5 = false := by clear hC; cases h : L 5 with | false => rfl | true => exfalso; simp_all
            have HL := Lib.hid (hC.callP hi h5 hn HWD.out)
            clear hC hcl hu hi h5
            simp only [fillA, if_true, Act.put]
            simp
            simp only [e0, e1]
            clear e0 e1
            go_wp2_with fail
            (with_reducible refine HL.out.mono ?_); rintro e w9 ⟨v9, rfl, hX⟩
            have HX9 := Lib.hid hX
            clear hX HL
            go_wp2
            exact ⟨rfl, HX9.out⟩
          · intro L wx vals hi hu hcl hC
            simp [ClosedL, UpL, predL, predE, Region.binds] at hcl
            have HCx := Lib.hid hC
            clear hC hcl hu hi
            simp only [fillA, if_true, Act.put]
            simp
            go_wp2
            exact ⟨rfl, HCx.out.k3⟩
          · intro L wx vals hi hu hcl hC
            simp [ClosedL, UpL, predL, predE, Region.binds] at hcl
            have hx := hC.cells
            obtain ⟨x0, x1⟩ := hx
            have HCx := Lib.hid hC
            clear hC hcl hu hi
            simp only [fillA, if_true, Act.put]
            simp
            go_wp2
            exact ⟨rfl, HCx.out.k4⟩
          · intro L wx vals hi hu hcl hC
            simp [ClosedL, UpL, predL, predE, Region.binds] at hcl
            simp [predL, predE, Region.binds, UpL] at hu
            have e3 : vals 3 = .pointer (some ⟨S, 0, none⟩) := hC.c3 (by simp [hu])
            have e4 : vals 4 = .agg #[.int .i64 b7, .int .u64 r5] := hC.c4 (by simp [hu])
            have HL := Lib.hid (hC.callR (by simp [hu]) hi hn HWD.out)
            clear hC hcl hi hu
            simp only [fillA, if_true, Act.put]
            simp
            simp only [e3, e4]
            clear e3 e4
            go_wp2_with fail
            (with_reducible refine HL.out.mono ?_); rintro e w9 ⟨v9, rfl, hX⟩
            have HX9 := Lib.hid hX
            clear hX HL
            go_wp2
            exact ⟨rfl, HX9.out⟩
          · intro L wx vals hi hu hcl hC
            simp [ClosedL, UpL, predL, predE, Region.binds] at hcl
            simp [predL, predE, Region.binds, UpL] at hu
            have HL := Lib.hid (hC.callE (by simp [hu]) hn)
            clear hC hcl hi hu
            simp only [fillA, if_true, Act.put]
            simp
            generalize vals 2 = v2 at *
            generalize vals 5 = v5 at *
            go_wp2_with fail
            (with_reducible refine HL.out.mono ?_); rintro e w9 ⟨rfl, hX⟩
            have HX9 := Lib.hid hX
            clear hX HL
            go_wp2
            exact ⟨rfl, HX9.out⟩
          · intro L wx vals hi hu hcl hC
            simp [ClosedL, UpL, predL, predE, Region.binds] at hcl
            simp [predL, predE, Region.binds, UpL] at hu
            have e6 : vals 6 = .bool true := hC.c6 (by simp [hu])
            have HCx := Lib.hid hC
            clear hC hcl hu hi
            simp only [fillA, if_true, Act.put]
            simp
            simp only [e6]
            clear e6
            go_wp2
            exact ⟨rfl, HCx.out.k7⟩
        · intro wz vals L hC hall
          have e7 : vals 7 = .bool true := hC.c7 (hall 7 (by simp))
          have HF := Lib.hid (show ∃ (q' : Nat) (s' : SnS), q' ≤ q + 6 ∧ s'.l.length ≤ s.l.length + 1 ∧ Inv base w0 (SnE2 base B a len cap R S q' s' s') wz from ⟨q + 1 + 1 + 1 + 1 + 1, s.ack b7 r5, by omega, by have := ack_len s b7 r5; omega, (hC.pc (hall 5 (by simp))).drop.drop.drop⟩)
          simp only [fillA, if_true, Act.put]
          simp
          simp only [e7]
          clear hC hall e7 HAL
          generalize vals 0 = t_0 at *
          generalize vals 1 = t_1 at *
          generalize vals 2 = t_2 at *
          generalize vals 3 = t_3 at *
          generalize vals 4 = t_4 at *
          generalize vals 5 = t_5 at *
          generalize vals 6 = t_6 at *
          go_wp2
          go_ret
          exact ⟨rfl, HF.out⟩
      · have HX := Lib.hid (SnE2.rbaseX BoxP.frm h6)
        clear h6
        rw [HBA.out] at HX
        have wd0 : IntKind.i64.wrap (ba + 32768) = ba + 32768 := IntWalk.i64_in _ (by omega)
        have wd1 : IntKind.i64.wrap (ba + 32768) = ba + 32768 := IntWalk.i64_in _ (by omega)
        have wd2 : Int.tmod (ba + 32768) 65536 = (ba + 32768) % 65536 := Int.tmod_eq_emod_of_nonneg (by omega)
        obtain ⟨b7, hb7⟩ : ∃ b7, (ba + 32768) % 65536 = b7 := ⟨_, rfl⟩
        rw [hb7] at wd2
        have wd3 : IntKind.i64.wrap b7 = b7 := IntWalk.i64_in _ (by omega)
        clear hb7 g0 z0
        go_wp2_with fail
        (with_reducible refine HX.out.mono ?_); rintro e w7 ⟨rfl, h7⟩
        have hbx := h7.boxed
        have g0 := hbx.read 0
        have z0 := hbx.free 0
        simp at g0
        have HB6 := Lib.hid (show Inv base w0 (Star (BoxP g 47 #[.int .i64 b7, .int .u64 r5]) (SnE2 base B a len cap R S (q + 1 + 1 + 1 + 1 + 1) s s)) (w7.setCell ⟨g, 0, none⟩ (.int .i64 b7)) from h7.boxput SnE2.frm 0 (.int .i64 b7))
        clear h7 hbx HX
        have hAL : SnAk base w0 B a len cap R S (q + 1 + 1 + 1 + 1 + 1) s g b7 r5 (fun _ => false) (fun _ => undef) (w7.setCell ⟨g, 0, none⟩ (.int .i64 b7)).drew := SnAk.start HB6.out
        have HAL := Lib.hid hAL
        clear hAL HB6
        go_wp2_with fail
        refine wp_region_looseS 138 (by kernel_rfl) (by kernel_rfl) (SnAk base w0 B a len cap R S (q + 1 + 1 + 1 + 1 + 1) s g b7 r5) rfl HAL.out ?_ ?_
        · simp only [OblAllS]
          refine ⟨?_, ?_, ?_, ?_, ?_, ?_, ?_, ?_, trivial⟩
          · intro L wx vals hi hu hcl hC
            simp [ClosedL, UpL, predL, predE, Region.binds] at hcl
            have HCx := Lib.hid hC
            clear hC hcl hu hi
            simp only [fillA, if_true, Act.put]
            simp
            go_wp2
            exact ⟨rfl, HCx.out.k0⟩
          · intro L wx vals hi hu hcl hC
            simp [ClosedL, UpL, predL, predE, Region.binds] at hcl
            have hx := hC.cells
            obtain ⟨x0, x1⟩ := hx
            have HCx := Lib.hid hC
            clear hC hcl hu hi
            simp only [fillA, if_true, Act.put]
            simp
            go_wp2
            exact ⟨rfl, HCx.out.k1⟩
          · intro L wx vals hi hu hcl hC
            simp [ClosedL, UpL, predL, predE, Region.binds] at hcl
            simp [predL, predE, Region.binds, UpL] at hu
            have e0 : vals 0 = .pointer (some ⟨R, 0, none⟩) := hC.c0 (by simp [hu])
            have e1 : vals 1 = .agg #[.int .i64 b7, .int .u64 r5] := hC.c1 (by simp [hu])
            have h5 : L 5 = false := by clear hC; cases h : L 5 with | false => rfl | true => exfalso; simp_all
            have HL := Lib.hid (hC.callP hi h5 hn HWD.out)
            clear hC hcl hu hi h5
            simp only [fillA, if_true, Act.put]
            simp
            simp only [e0, e1]
            clear e0 e1
            go_wp2_with fail
            (with_reducible refine HL.out.mono ?_); rintro e w9 ⟨v9, rfl, hX⟩
            have HX9 := Lib.hid hX
            clear hX HL
            go_wp2
            exact ⟨rfl, HX9.out⟩
          · intro L wx vals hi hu hcl hC
            simp [ClosedL, UpL, predL, predE, Region.binds] at hcl
            have HCx := Lib.hid hC
            clear hC hcl hu hi
            simp only [fillA, if_true, Act.put]
            simp
            go_wp2
            exact ⟨rfl, HCx.out.k3⟩
          · intro L wx vals hi hu hcl hC
            simp [ClosedL, UpL, predL, predE, Region.binds] at hcl
            have hx := hC.cells
            obtain ⟨x0, x1⟩ := hx
            have HCx := Lib.hid hC
            clear hC hcl hu hi
            simp only [fillA, if_true, Act.put]
            simp
            go_wp2
            exact ⟨rfl, HCx.out.k4⟩
          · intro L wx vals hi hu hcl hC
            simp [ClosedL, UpL, predL, predE, Region.binds] at hcl
            simp [predL, predE, Region.binds, UpL] at hu
            have e3 : vals 3 = .pointer (some ⟨S, 0, none⟩) := hC.c3 (by simp [hu])
            have e4 : vals 4 = .agg #[.int .i64 b7, .int .u64 r5] := hC.c4 (by simp [hu])
            have HL := Lib.hid (hC.callR (by simp [hu]) hi hn HWD.out)
            clear hC hcl hi hu
            simp only [fillA, if_true, Act.put]
            simp
            simp only [e3, e4]
            clear e3 e4
            go_wp2_with fail
            (with_reducible refine HL.out.mono ?_); rintro e w9 ⟨v9, rfl, hX⟩
            have HX9 := Lib.hid hX
            clear hX HL
            go_wp2
            exact ⟨rfl, HX9.out⟩
          · intro L wx vals hi hu hcl hC
            simp [ClosedL, UpL, predL, predE, Region.binds] at hcl
            simp [predL, predE, Region.binds, UpL] at hu
            have HL := Lib.hid (hC.callE (by simp [hu]) hn)
            clear hC hcl hi hu
            simp only [fillA, if_true, Act.put]
            simp
            generalize vals 2 = v2 at *
            generalize vals 5 = v5 at *
            go_wp2_with fail
            (with_reducible refine HL.out.mono ?_); rintro e w9 ⟨rfl, hX⟩
            have HX9 := Lib.hid hX
            clear hX HL
            go_wp2
            exact ⟨rfl, HX9.out⟩
          · intro L wx vals hi hu hcl hC
            simp [ClosedL, UpL, predL, predE, Region.binds] at hcl
            simp [predL, predE, Region.binds, UpL] at hu
            have e6 : vals 6 = .bool true := hC.c6 (by simp [hu])
            have HCx := Lib.hid hC
            clear hC hcl hu hi
            simp only [fillA, if_true, Act.put]
            simp
            simp only [e6]
            clear e6
            go_wp2
            exact ⟨rfl, HCx.out.k7⟩
        · intro wz vals L hC hall
          have e7 : vals 7 = .bool true := hC.c7 (hall 7 (by simp))
          have HF := Lib.hid (show ∃ (q' : Nat) (s' : SnS), q' ≤ q + 6 ∧ s'.l.length ≤ s.l.length + 1 ∧ Inv base w0 (SnE2 base B a len cap R S q' s' s') wz from ⟨q + 1 + 1 + 1 + 1 + 1, s.ack b7 r5, by omega, by have := ack_len s b7 r5; omega, (hC.pc (hall 5 (by simp))).drop.drop.drop⟩)
          simp only [fillA, if_true, Act.put]
          simp
          simp only [e7]
          clear hC hall e7 HAL
          generalize vals 0 = t_0 at *
          generalize vals 1 = t_1 at *
          generalize vals 2 = t_2 at *
          generalize vals 3 = t_3 at *
          generalize vals 4 = t_4 at *
          generalize vals 5 = t_5 at *
          generalize vals 6 = t_6 at *
          go_wp2
          go_ret
          exact ⟨rfl, HF.out⟩
      · have hn0 : (r6 == 0) = false := by simpa using n0
        have hn1 : (r6 == 1) = false := by simpa using n1
        have hn2 : (r6 == 2) = false := by simpa using n2
        have HB6 := Lib.hid h6
        clear h6
        have hAL : SnAk base w0 B a len cap R S (q + 1 + 1 + 1 + 1 + 1) s g b4 r5 (fun _ => false) (fun _ => undef) w6.drew := SnAk.start HB6.out
        have HAL := Lib.hid hAL
        clear hAL HB6
        go_wp2_with fail
        refine wp_region_looseS 138 (by kernel_rfl) (by kernel_rfl) (SnAk base w0 B a len cap R S (q + 1 + 1 + 1 + 1 + 1) s g b4 r5) rfl HAL.out ?_ ?_
        · simp only [OblAllS]
          refine ⟨?_, ?_, ?_, ?_, ?_, ?_, ?_, ?_, trivial⟩
          · intro L wx vals hi hu hcl hC
            simp [ClosedL, UpL, predL, predE, Region.binds] at hcl
            have HCx := Lib.hid hC
            clear hC hcl hu hi
            simp only [fillA, if_true, Act.put]
            simp
            go_wp2
            exact ⟨rfl, HCx.out.k0⟩
          · intro L wx vals hi hu hcl hC
            simp [ClosedL, UpL, predL, predE, Region.binds] at hcl
            have hx := hC.cells
            obtain ⟨x0, x1⟩ := hx
            have HCx := Lib.hid hC
            clear hC hcl hu hi
            simp only [fillA, if_true, Act.put]
            simp
            go_wp2
            exact ⟨rfl, HCx.out.k1⟩
          · intro L wx vals hi hu hcl hC
            simp [ClosedL, UpL, predL, predE, Region.binds] at hcl
            simp [predL, predE, Region.binds, UpL] at hu
            have e0 : vals 0 = .pointer (some ⟨R, 0, none⟩) := hC.c0 (by simp [hu])
            have e1 : vals 1 = .agg #[.int .i64 b4, .int .u64 r5] := hC.c1 (by simp [hu])
            have h5 : L 5 = false := by clear hC; cases h : L 5 with | false => rfl | true => exfalso; simp_all
            have HL := Lib.hid (hC.callP hi h5 hn HWD.out)
            clear hC hcl hu hi h5
            simp only [fillA, if_true, Act.put]
            simp
            simp only [e0, e1]
            clear e0 e1
            go_wp2_with fail
            (with_reducible refine HL.out.mono ?_); rintro e w9 ⟨v9, rfl, hX⟩
            have HX9 := Lib.hid hX
            clear hX HL
            go_wp2
            exact ⟨rfl, HX9.out⟩
          · intro L wx vals hi hu hcl hC
            simp [ClosedL, UpL, predL, predE, Region.binds] at hcl
            have HCx := Lib.hid hC
            clear hC hcl hu hi
            simp only [fillA, if_true, Act.put]
            simp
            go_wp2
            exact ⟨rfl, HCx.out.k3⟩
          · intro L wx vals hi hu hcl hC
            simp [ClosedL, UpL, predL, predE, Region.binds] at hcl
            have hx := hC.cells
            obtain ⟨x0, x1⟩ := hx
            have HCx := Lib.hid hC
            clear hC hcl hu hi
            simp only [fillA, if_true, Act.put]
            simp
            go_wp2
            exact ⟨rfl, HCx.out.k4⟩
          · intro L wx vals hi hu hcl hC
            simp [ClosedL, UpL, predL, predE, Region.binds] at hcl
            simp [predL, predE, Region.binds, UpL] at hu
            have e3 : vals 3 = .pointer (some ⟨S, 0, none⟩) := hC.c3 (by simp [hu])
            have e4 : vals 4 = .agg #[.int .i64 b4, .int .u64 r5] := hC.c4 (by simp [hu])
            have HL := Lib.hid (hC.callR (by simp [hu]) hi hn HWD.out)
            clear hC hcl hi hu
            simp only [fillA, if_true, Act.put]
            simp
            simp only [e3, e4]
            clear e3 e4
            go_wp2_with fail
            (with_reducible refine HL.out.mono ?_); rintro e w9 ⟨v9, rfl, hX⟩
            have HX9 := Lib.hid hX
            clear hX HL
            go_wp2
            exact ⟨rfl, HX9.out⟩
          · intro L wx vals hi hu hcl hC
            simp [ClosedL, UpL, predL, predE, Region.binds] at hcl
            simp [predL, predE, Region.binds, UpL] at hu
            have HL := Lib.hid (hC.callE (by simp [hu]) hn)
            clear hC hcl hi hu
            simp only [fillA, if_true, Act.put]
            simp
            generalize vals 2 = v2 at *
            generalize vals 5 = v5 at *
            go_wp2_with fail
            (with_reducible refine HL.out.mono ?_); rintro e w9 ⟨rfl, hX⟩
            have HX9 := Lib.hid hX
            clear hX HL
            go_wp2
            exact ⟨rfl, HX9.out⟩
          · intro L wx vals hi hu hcl hC
            simp [ClosedL, UpL, predL, predE, Region.binds] at hcl
            simp [predL, predE, Region.binds, UpL] at hu
            have e6 : vals 6 = .bool true := hC.c6 (by simp [hu])
            have HCx := Lib.hid hC
            clear hC hcl hu hi
            simp only [fillA, if_true, Act.put]
            simp
            simp only [e6]
            clear e6
            go_wp2
            exact ⟨rfl, HCx.out.k7⟩
        · intro wz vals L hC hall
          have e7 : vals 7 = .bool true := hC.c7 (hall 7 (by simp))
          have HF := Lib.hid (show ∃ (q' : Nat) (s' : SnS), q' ≤ q + 6 ∧ s'.l.length ≤ s.l.length + 1 ∧ Inv base w0 (SnE2 base B a len cap R S q' s' s') wz from ⟨q + 1 + 1 + 1 + 1 + 1, s.ack b4 r5, by omega, by have := ack_len s b4 r5; omega, (hC.pc (hall 5 (by simp))).drop.drop.drop⟩)
          simp only [fillA, if_true, Act.put]
          simp
          simp only [e7]
          clear hC hall e7 HAL
          generalize vals 0 = t_0 at *
          generalize vals 1 = t_1 at *
          generalize vals 2 = t_2 at *
          generalize vals 3 = t_3 at *
          generalize vals 4 = t_4 at *
          generalize vals 5 = t_5 at *
          generalize vals 6 = t_6 at *
          go_wp2
          go_ret
          exact ⟨rfl, HF.out⟩
  · subst hr
    clear hsq hbd
    have HX := Lib.hid (Inv.call1 h2 (SnE2.pdrp (by omega) sq))
    clear h2
    go_wp2_with fail
    (with_reducible refine HX.out.mono ?_); rintro e w3 ⟨rfl, h3⟩
    have HX := Lib.hid (Inv.call1 h3 (SnE2.rdrp (by omega) sq))
    have hln : (s.drp sq).l.length ≤ s.l.length + 1 := by have := drp_len s sq; omega
    clear h3
    generalize s.drp sq = s' at *
    generalize snDrV s sq = v9 at *
    generalize snDrE s sq = e9 at *
    have hv9 : (v9 == v9) = true := by simp
    have he9 : (e9 == e9) = true := by simp
    go_wp2_with fail
    (with_reducible refine HX.out.mono ?_); rintro e w4 ⟨rfl, h4⟩
    have HF := Lib.hid (show ∃ (q' : Nat) (s' : SnS), q' ≤ q + 6 ∧ s'.l.length ≤ s.l.length + 1 ∧ Inv base w0 (SnE2 base B a len cap R S q' s' s') w4 from ⟨_, s', by omega, hln, h4⟩)
    clear h4 HX
    go_wp2
    go_ret
    exact ⟨rfl, HF.out⟩
end Go.Proofs.Ytglhaclehdkagaa

