/-
  Layer 18: the choices and both tables side by side; one call on both (act). Written by gen_lfact.py.
-/
import Derived.Test.YtkhngfadhfomoaaLfEnv
import Derived.Test.YtkhngfadhfomoaaLenGen
import Derived.Test.YtkhngfadhfomoaaPv
import Derived.Deep.CutBlock
import Derived.Deep.DeepCutAuto
import Derived.Deep.LoopGhost
import Derived.LoopTactic
namespace Go.Proofs.Ytkhngfadhfomoaa
open Go.ChangeShapes Go.WideShapes Go.ChangeAt Go.RowKit
set_option linter.unusedVariables false

theorem GenP.length {base B : Nat} {a : Option Addr} {len cap q : Nat} (hq : q ≤ 1000000000) :
    Acts 29 #[.pointer (some ⟨B, 0, none⟩)] base (GenP base B a len cap q) (fun r : { r : Int // 1 ≤ r ∧ r ≤ 4096 } => .int .i64 r.1) fun _ => GenP base B a len cap (q + 1) := by
  intro T w ⟨h1, h2, h3, h4⟩ hb hs
  refine (length_any B a len cap q w h2 hq).mono ?_
  rintro e w' ⟨r, r0, r1, e1, hg, ho⟩
  have hbl : Below base w w' := ho.below (by have := h2.lt; omega) |>.mono h4
  exact ⟨⟨r, r0, r1⟩, e1, ⟨T, ⟨h1, hg, h3.kept hbl, h4⟩, fun k hk => .inl hk⟩, Chg.of_only ho ((h1 B).2 rfl)⟩
/-- X: what stands beside the choices and the two tables. -/
def LfE2 (X : RP) (base B : Nat) (a : Option Addr) (len cap R S : Nat) (q : Nat) (s t : LfS) : RP := Star X (Star (LtP S t) (Star (LfW R s) (GenP base B a len cap q)))
section
variable {X : RP} {base B : Nat} {a : Option Addr} {len cap R S q : Nat} {s t : LfS} {w w0 w' : World}
theorem LfE2.frm (hX : Frm base X) : Frm base (LfE2 X base B a len cap R S q s t) := hX.star (LtP.frm.star (LfW.frm.star GenP.frm))
theorem LfE2.nD (hX : Frm base X) (h : Inv base w0 (LfE2 X base B a len cap R S q s t) w) {n : Int} (n0 : 1 ≤ n) (n1 : n ≤ 1000000000) (hq : q ≤ 1000000000) :
    Calls Try.prog 21 #[.pointer (some ⟨B, 0, none⟩), .int .i64 n] w fun e w' => ∃ r : Int, 0 ≤ r ∧ r < n ∧ e = .returned (.int .i64 r) ∧ Inv base w0 (LfE2 X base B a len cap R S (q + 1) s t) w' ∧ DrR B w w' :=
  (Inv.nextD (h.imp fun T h => Star.unassoc (Star.unassoc h)) ((hX.star LtP.frm).star LfW.frm) n0 n1 hq).mono fun e w' ⟨r, r0, r1, e1, h2, h3⟩ => ⟨r, r0, r1, e1, h2.imp fun T h => Star.assoc (Star.assoc h), h3⟩
theorem LfE2.len_ (hX : Frm base X) (h : Inv base w0 (LfE2 X base B a len cap R S q s t) w) (hq : q ≤ 1000000000) :
    Calls Try.prog 29 #[.pointer (some ⟨B, 0, none⟩)] w fun e w' => ∃ r : Int, 1 ≤ r ∧ r ≤ 4096 ∧ e = .returned (.int .i64 r) ∧ Inv base w0 (LfE2 X base B a len cap R S (q + 1) s t) w' :=
  (Inv.call h (Acts.right hX (Acts.right LtP.frm (Acts.right LfW.frm (GenP.length hq))))).mono fun e w' ⟨r, e1, h2⟩ => ⟨r.1, r.2.1, r.2.2, e1, h2⟩
theorem LfE2.p (hX : Frm base X) {f : FuncId} {args : Array Value} {x : Value} {s' : LfS} (hc : Acts f args base (LfW R s) (fun _ : Unit => x) fun _ => LfW R s') : Acts f args base (LfE2 X base B a len cap R S q s t) (fun _ : Unit => x) fun _ => LfE2 X base B a len cap R S q s' t := Acts.right hX (Acts.right LtP.frm (hc.star GenP.frm))
theorem LfE2.r (hX : Frm base X) {f : FuncId} {args : Array Value} {x : Value} {t' : LfS} (hc : Acts f args base (LtP S t) (fun _ : Unit => x) fun _ => LtP S t') : Acts f args base (LfE2 X base B a len cap R S q s t) (fun _ : Unit => x) fun _ => LfE2 X base B a len cap R S q s t' := Acts.right hX (hc.star (LfW.frm.star GenP.frm))
theorem LfE2.pget (h : Inv base w0 (LfE2 X base B a len cap R S q s t) w) : ∃ T, LfW R s T w := h.drop.drop.getL
theorem LfE2.rget (h : Inv base w0 (LfE2 X base B a len cap R S q s t) w) : ∃ T, LtP S t T w := h.drop.getL
theorem LfE2.lt (h : Inv base w0 (LfE2 X base B a len cap R S q s t) w) : B < w.heap.size := by
  obtain ⟨T, hg⟩ := h.drop.drop.drop.get
  exact hg.2.1.lt
theorem LfE2.l0 (h : Inv base w0 (LfE2 X base B a len cap R S q s t) w) : ∃ A c, w.cell? ⟨S, 0, none⟩ = some (.slice A t.l.length c) := by
  obtain ⟨T, ht⟩ := LfE2.rget h
  obtain ⟨_, _, ⟨A, c, h2, _⟩, _, _⟩ := ht.rd
  exact ⟨A, c, h2⟩
/-- The environment while numbers are drawn. -/
def LfC (X : RP) (base B : Nat) (a : Option Addr) (len cap R S K : Nat) (s : LfS) (w0 : World) (fu : Nat) (w : World) : Prop := ∃ q, q + fu ≤ K ∧ Inv base w0 (LfE2 X base B a len cap R S q s s) w
theorem LfC.step {K fu : Nat} (h : LfC X base B a len cap R S K s w0 (fu + 1) w) : LfC X base B a len cap R S K s w0 fu w := by
  obtain ⟨q, hq, h1⟩ := h; exact ⟨q, by omega, h1⟩
theorem LfC.below (hX : Frm base X) {K fu : Nat} (h : LfC X base B a len cap R S K s w0 (fu + 1) w) (hb : Below w.heap.size w w') : LfC X base B a len cap R S K s w0 fu w' := by
  obtain ⟨q, hq, h1⟩ := h; exact ⟨q, by omega, h1.step (LfE2.frm hX) hb⟩
end
def LfV1 (B S n : Nat) (i : Nat) (v : Value) (w : World) : Prop :=
  match i with
  | 0 => v = .pointer (some ⟨B, 0, none⟩)
  | 1 => InV 0 2 v
  | 2 => v = .pointer (some ⟨B, 0, none⟩)
  | 3 => v = .pointer (some ⟨S, 0, none⟩)
  | 4 => v = .pointer (some ⟨S, 0, none⟩)
  | 5 => v = .pointer (some ⟨S, 0, none⟩)
  | 6 => ∃ A c, v = .slice A n c
  | 7 => v = .int .i64 (n : Nat)
  | 8 => v = .int .i64 ((n : Int) + 2)
  | 9 => InV 0 ((n : Int) + 1) v
  | 10 => InV 1 ((n : Int) + 2) v
  | 11 => InV 0 2 v
  | 12 => InV 1 ((n : Int) + 2) v
  | _ => True
theorem LfV1.keep {B S n : Nat} (i : Nat) (v : Value) (w w' : World) (h : DrR B w w') (hv : LfV1 B S n i v w) : LfV1 B S n i v w' := by
  unfold LfV1 at *
  split at hv <;> first | exact hv | trivial
def LfV2 (B : Nat) (i : Nat) (v : Value) (w : World) : Prop :=
  match i with
  | 0 => RwV B (-1) 32 2 v w
  | 1 => v = .pointer (some ⟨B, 0, none⟩)
  | 2 => InV 0 1 v
  | 3 => PtV B (-1) 32 v w
  | 4 => InV (-1) 32 v
  | 5 => RwV B (-1) 32 2 v w
  | 6 => v = .pointer (some ⟨B, 0, none⟩)
  | 7 => InV 0 1 v
  | 8 => PtV B (-1) 32 v w
  | 9 => InV (-1) 32 v
  | 10 => InV (-1) 32 v
  | 11 => InV (-1) 32 v
  | _ => True
theorem LfV2.keep {B : Nat} (i : Nat) (v : Value) (w w' : World) (h : DrR B w w') (hv : LfV2 B i v w) : LfV2 B i v w' := by
  unfold LfV2 at *
  split at hv <;> first | exact hv | exact h.row hv | exact h.ptr hv | trivial
/-- What a call leaves: nothing has grown by more than one, and no count of refused packets falls. -/
def LfNx (s s' : LfS) (N : Nat) : Prop := LfB s' (N + 1) ∧ ∀ k, s.r k ≤ s'.r k
theorem lfr_acc (s : LfS) (f n : Int) : ∀ k, s.r k ≤ (s.acc f n).r k := fun k => by unfold LfS.acc; split <;> simp
theorem lfr_snd (s : LfS) (id : Int) : ∀ k, s.r k ≤ (s.snd id).r k := fun k => by unfold LfS.snd; split <;> simp
theorem lfr_dlv (s : LfS) (id : Int) : ∀ k, s.r k ≤ (s.dlv id).r k := fun k => by unfold LfS.dlv; split <;> simp
theorem lfr_drp (s : LfS) (id y : Int) : ∀ k, s.r k ≤ (s.drp id y).r k := fun k => by unfold LfS.drp; split <;> simp
theorem lfr_rfs (s : LfS) (f : Int) : ∀ k, s.r k ≤ (s.rfs f).r k := fun k => by
  unfold LfS.rfs
  split
  · simp only
    split
    · rename_i e; rw [e]; omega
    · omega
  · exact Int.le_refl _
set_option maxRecDepth 100000 in
set_option maxHeartbeats 16000000 in
theorem act18_any {X : RP} {base : Nat} (hX : Frm base X) {w0 : World} {B : Nat} {a : Option Addr} {len cap R S q N : Nat} {s : LfS} {w : World} (h : Inv base w0 (LfE2 X base B a len cap R S q s s) w) (hq : q ≤ 100000000) (hB : LfB s N) (hN : N ≤ 9998) :
    Calls Try.prog 9 #[.pointer (some ⟨B, 0, none⟩), .pointer (some ⟨R, 0, none⟩), .pointer (some ⟨S, 0, none⟩)] w fun e w' => e = .returned (.bool true) ∧ ∃ (q' : Nat) (s' : LfS), q' ≤ q + 40 ∧ LfNx s s' N ∧ Inv base w0 (LfE2 X base B a len cap R S q' s' s') w' := by
  have hB9 := hB.up (M := 9999) (by omega)
  have hln := hB9.l
  have HB := Lib.hid hB
  have HB9 := Lib.hid hB9
  obtain ⟨n, hn⟩ : ∃ n, s.l.length = n := ⟨_, rfl⟩
  have HL0 := Lib.hid (fun (q : Nat) (w : World) (h : Inv base w0 (LfE2 X base B a len cap R S q s s) w) => (by
    obtain ⟨A, c, h1⟩ := LfE2.l0 h
    rw [hn] at h1
    exact ⟨A, c, h1⟩ : ∃ A c, w.cell? ⟨S, 0, none⟩ = some (.slice A n c)))
  rw [hn] at hln
  have HC0 := Lib.hid (show LfC X base B a len cap R S (q + 13) s w0 13 w.drew from ⟨q, by omega, h.step (LfE2.frm hX) (Below.refl _ _).drew⟩)
  clear h hB hB9 hn
  go_enter Try.func9, Try.ntmps9
  go_wp2_with fail
  refine wp_region_loose 117 (by kernel_rfl) (by kernel_rfl) (LfC X base B a len cap R S (q + 13) s w0) (DrR B) (LfV1 B S n) rfl (fun i v w w' h hv => LfV1.keep i v w w' h hv) HC0.out ?_ ?_
  · simp only [OblAll]
    refine ⟨?_, ?_, ?_, ?_, ?_, ?_, ?_, ?_, ?_, ?_, ?_, ?_, ?_, trivial⟩
    all_goals
      intro fu wx vals hC hp
      simp [predL, predE, Region.binds, PreV, LfV1] at hp
      simp only [fillA, if_true, Act.put]
      simp
      have HCx := Lib.hid hC
    · clear hp
      go_wp2
      exact ⟨rfl, HCx.out.step, DrR.refl _ _, rfl⟩
    · simp only [hp]
      clear hp
      obtain ⟨qq, hqq, hI⟩ := hC
      have HX := Lib.hid (LfE2.nD hX hI (n := 3) (by omega) (by omega) (by omega))
      clear hI
      go_wp2_with fail
      (with_reducible refine HX.out.mono ?_)
      rintro e w' ⟨r, r0, r1, rfl, hs, ho⟩
      have HF := Lib.hid (And.intro (show LfC X base B a len cap R S (q + 13) s w0 fu w' from ⟨qq + 1, by omega, hs⟩) ho)
      clear hs ho
      go_wp2
      exact ⟨rfl, HF.out.1, HF.out.2, r, ⟨r0, by omega⟩, rfl⟩
    · clear hp
      go_wp2
      exact ⟨rfl, HCx.out.step, DrR.refl _ _, rfl⟩
    · clear hp
      go_wp2
      exact ⟨rfl, HCx.out.step, DrR.refl _ _, rfl⟩
    · simp only [hp]
      clear hp
      go_wp2
      exact ⟨rfl, HCx.out.step, DrR.refl _ _, rfl⟩
    · simp only [hp]
      clear hp
      go_wp2
      exact ⟨rfl, HCx.out.step, DrR.refl _ _, rfl⟩
    · obtain ⟨qq, hqq, hI⟩ := hC
      obtain ⟨AA, cc, hcx⟩ := HL0.out _ _ hI
      simp only [hp]
      clear hp hI hqq
      go_wp2
      exact ⟨rfl, HCx.out.step, DrR.refl _ _, AA, cc, rfl⟩
    · obtain ⟨AA, cc, e1⟩ := hp
      simp only [e1]
      clear e1 hC
      go_wp2
      exact ⟨rfl, HCx.out.step, DrR.refl _ _, rfl⟩
    · simp only [hp]
      clear hp
      have hw1 : IntKind.i64.wrap ((n : Int) + 2) = (n : Int) + 2 := IntWalk.i64_in _ (by omega)
      go_wp2
      exact ⟨rfl, HCx.out.step, DrR.refl _ _, rfl⟩
    · simp only [hp.1, hp.2]
      clear hp
      obtain ⟨qq, hqq, hI⟩ := hC
      have HX := Lib.hid (LfE2.nD hX hI (n := (n : Int) + 2) (by omega) (by omega) (by omega))
      clear hI
      go_wp2_with fail
      (with_reducible refine HX.out.mono ?_)
      rintro e w' ⟨r, r0, r1, rfl, hs, ho⟩
      have HF := Lib.hid (And.intro (show LfC X base B a len cap R S (q + 13) s w0 fu w' from ⟨qq + 1, by omega, hs⟩) ho)
      clear hs ho
      go_wp2
      exact ⟨rfl, HF.out.1, HF.out.2, r, ⟨r0, by omega⟩, rfl⟩
    · obtain ⟨z, hz, e1⟩ := hp
      have HX := Lib.hid (show 1 ≤ 1 + z ∧ 1 + z ≤ (n : Int) + 2 by omega)
      have hw1 : IntKind.i64.wrap (1 + z) = 1 + z := IntWalk.i64_in _ (by omega)
      simp only [e1]
      clear e1 hC hz
      go_wp2
      exact ⟨rfl, HCx.out.step, DrR.refl _ _, 1 + z, HX.out, rfl⟩
    · obtain ⟨z, hz, e1⟩ := hp.1
      have HX := Lib.hid hz
      simp only [e1]
      clear e1 hC hz
      go_wp2
      exact ⟨rfl, HCx.out.step, DrR.refl _ _, z, HX.out, rfl⟩
    · obtain ⟨z, hz, e1⟩ := hp.1
      have HX := Lib.hid hz
      simp only [e1]
      clear e1 hC hz
      go_wp2
      exact ⟨rfl, HCx.out.step, DrR.refl _ _, z, HX.out, rfl⟩
  · intro wz vals hC hV
    have e11 := hV 11 (by simp)
    have e12 := hV 12 (by simp)
    simp only [LfV1] at e11 e12
    obtain ⟨f0, hf0, e11⟩ := e11
    obtain ⟨id0, hid0, e12⟩ := e12
    obtain ⟨q1, hq1, h1⟩ := hC
    have HX := Lib.hid (LfE2.nD hX h1 (n := 20) (by omega) (by omega) (by omega))
    simp only [fillA, if_true, Act.put]
    simp
    simp only [e11, e12]
    clear e11 e12 hV h1 HC0
    generalize vals 0 = u_0 at *
    generalize vals 1 = u_1 at *
    generalize vals 2 = u_2 at *
    generalize vals 3 = u_3 at *
    generalize vals 4 = u_4 at *
    generalize vals 5 = u_5 at *
    generalize vals 6 = u_6 at *
    generalize vals 7 = u_7 at *
    generalize vals 8 = u_8 at *
    generalize vals 9 = u_9 at *
    generalize vals 10 = u_10 at *
    go_wp2_with fail
    (with_reducible refine HX.out.mono ?_); rintro e w1 ⟨r1, r10, r11, rfl, h1, _⟩
    have HS := Lib.hid h1
    clear h1 HX
    go_upto_if 28 with fail
    go_cut [7, 8] (fun s7 s8 wx => ∃ (q2 : Nat) (f id : Int), q2 ≤ q + 26 ∧ s7 = .int .i64 f ∧ s8 = .int .i64 id ∧ Hid (Inv base w0 (LfE2 X base B a len cap R S q2 s s) wx))
    case first =>
      by_cases hr : r1 = 0
      · subst hr
        have HC0 := Lib.hid (show LfC X base B a len cap R S (q + 26) s w0 12 w1.drew from ⟨q1 + 1, by omega, HS.out.step (LfE2.frm hX) (Below.refl _ _).drew⟩)
        clear HS
        go_wp2_with fail
        refine wp_region_loose 117 (by kernel_rfl) (by kernel_rfl) (LfC X base B a len cap R S (q + 26) s w0) (DrR B) (LfV2 B) rfl (fun i v w w' h hv => LfV2.keep i v w w' h hv) HC0.out ?_ ?_
        · simp only [OblAll]
          refine ⟨?_, ?_, ?_, ?_, ?_, ?_, ?_, ?_, ?_, ?_, ?_, ?_, trivial⟩
          all_goals
            intro fu wx vals hC hp
            simp [predL, predE, Region.binds, PreV, LfV2] at hp
            simp only [fillA, if_true, Act.put]
            simp
            have HCx := Lib.hid hC
          · have hB : B < wx.heap.size := by
              obtain ⟨qq, hqq, hI⟩ := hC
              exact LfE2.lt hI
            clear hp
            go_wp2
            exact ⟨rfl, HCx.out.below hX ((Below.refl _ _).alloc (Nat.le_refl _) _), DrR.below ((Below.refl _ _).alloc (Nat.le_refl _) _), RwV.new hB (L := [-1, 32]) rfl (by decide) rfl _⟩
          · clear hp
            go_wp2
            exact ⟨rfl, HCx.out.step, DrR.refl _ _, rfl⟩
          · simp only [hp]
            clear hp
            obtain ⟨qq, hqq, hI⟩ := hC
            have HX := Lib.hid (LfE2.nD hX hI (n := 2) (by omega) (by omega) (by omega))
            clear hI
            go_wp2_with fail
            (with_reducible refine HX.out.mono ?_)
            rintro e w' ⟨r, r0, r1, rfl, hs, ho⟩
            have HF := Lib.hid (And.intro (show LfC X base B a len cap R S (q + 26) s w0 fu w' from ⟨qq + 1, by omega, hs⟩) ho)
            clear hs ho
            go_wp2
            exact ⟨rfl, HF.out.1, HF.out.2, r, ⟨r0, by omega⟩, rfl⟩
          · obtain ⟨hrow, r, hr, e3⟩ := hp
            obtain ⟨k, rfl⟩ := Int.eq_ofNat_of_zero_le hr.1
            have hk' : k ≤ 1 := by omega
            obtain ⟨g, g1, g2, e1, hpt⟩ := hrow.at_ (i := k) (by omega)
            have HX := Lib.hid hpt
            simp only [e1, e3]
            clear e1 e3 hC hrow hpt hr
            go_wp2
            exact ⟨rfl, HCx.out.step, DrR.refl _ _, HX.out⟩
          · obtain ⟨g, o, g1, g2, e1, z, hz, hc⟩ := hp
            have HX := Lib.hid hz
            simp only [e1]
            clear e1 hC hz
            go_wp2
            exact ⟨rfl, HCx.out.step, DrR.refl _ _, z, HX.out, rfl⟩
          · have hB : B < wx.heap.size := by
              obtain ⟨qq, hqq, hI⟩ := hC
              exact LfE2.lt hI
            clear hp
            go_wp2
            exact ⟨rfl, HCx.out.below hX ((Below.refl _ _).alloc (Nat.le_refl _) _), DrR.below ((Below.refl _ _).alloc (Nat.le_refl _) _), RwV.new hB (L := [0, -1]) rfl (by decide) rfl _⟩
          · clear hp
            go_wp2
            exact ⟨rfl, HCx.out.step, DrR.refl _ _, rfl⟩
          · simp only [hp]
            clear hp
            obtain ⟨qq, hqq, hI⟩ := hC
            have HX := Lib.hid (LfE2.nD hX hI (n := 2) (by omega) (by omega) (by omega))
            clear hI
            go_wp2_with fail
            (with_reducible refine HX.out.mono ?_)
            rintro e w' ⟨r, r0, r1, rfl, hs, ho⟩
            have HF := Lib.hid (And.intro (show LfC X base B a len cap R S (q + 26) s w0 fu w' from ⟨qq + 1, by omega, hs⟩) ho)
            clear hs ho
            go_wp2
            exact ⟨rfl, HF.out.1, HF.out.2, r, ⟨r0, by omega⟩, rfl⟩
          · obtain ⟨hrow, r, hr, e3⟩ := hp
            obtain ⟨k, rfl⟩ := Int.eq_ofNat_of_zero_le hr.1
            have hk' : k ≤ 1 := by omega
            obtain ⟨g, g1, g2, e1, hpt⟩ := hrow.at_ (i := k) (by omega)
            have HX := Lib.hid hpt
            simp only [e1, e3]
            clear e1 e3 hC hrow hpt hr
            go_wp2
            exact ⟨rfl, HCx.out.step, DrR.refl _ _, HX.out⟩
          · obtain ⟨g, o, g1, g2, e1, z, hz, hc⟩ := hp
            have HX := Lib.hid hz
            simp only [e1]
            clear e1 hC hz
            go_wp2
            exact ⟨rfl, HCx.out.step, DrR.refl _ _, z, HX.out, rfl⟩
          · obtain ⟨z, hz, e1⟩ := hp.1
            have HX := Lib.hid hz
            simp only [e1]
            clear e1 hC hz
            go_wp2
            exact ⟨rfl, HCx.out.step, DrR.refl _ _, z, HX.out, rfl⟩
          · obtain ⟨z, hz, e1⟩ := hp.1
            have HX := Lib.hid hz
            simp only [e1]
            clear e1 hC hz
            go_wp2
            exact ⟨rfl, HCx.out.step, DrR.refl _ _, z, HX.out, rfl⟩
        · intro wz2 vals hC hV
          have e10 := hV 10 (by simp)
          have e11 := hV 11 (by simp)
          simp only [LfV2] at e10 e11
          obtain ⟨f1, hf1, e10⟩ := e10
          obtain ⟨id1, hid1, e11⟩ := e11
          obtain ⟨q3, hq3, h3⟩ := hC
          have HF := Lib.hid h3
          simp only [fillA, if_true, Act.put]
          simp
          simp only [e10, e11]
          clear e10 e11 hV h3 HC0
          generalize vals 0 = u_0 at *
          generalize vals 1 = u_1 at *
          generalize vals 2 = u_2 at *
          generalize vals 3 = u_3 at *
          generalize vals 4 = u_4 at *
          generalize vals 5 = u_5 at *
          generalize vals 6 = u_6 at *
          generalize vals 7 = u_7 at *
          generalize vals 8 = u_8 at *
          generalize vals 9 = u_9 at *
          go_wp2
          go_meet
          case rel => exact ⟨q3, f1, id1, by omega, rfl, rfl, HF⟩
      · have hr0 : (r1 == 0) = false := by simpa using hr
        go_wp2
        go_meet
        case rel => exact ⟨q1 + 1, f0, id0, by omega, rfl, rfl, HS⟩
    case rest =>
      obtain ⟨q2, f, id, hq2, rfl, rfl, HS2⟩ := hcut
      clear HS r10 r11 hf0 hid0 hq1 hln
      have HX := Lib.hid (LfE2.nD hX HS2.out (n := 9) (by omega) (by omega) (by omega))
      clear HS2
      go_wp2_with fail
      (with_reducible refine HX.out.mono ?_); rintro e w2 ⟨r9, r90, r91, rfl, h1, _⟩
      have HS := Lib.hid h1
      clear h1 HX
      rcases (by omega : (r9 = 0 ∨ r9 = 1 ∨ r9 = 2) ∨ r9 = 3 ∨ (r9 = 4 ∨ r9 = 5) ∨ (r9 = 6 ∨ r9 = 7) ∨ r9 = 8) with hr | rfl | hr | hr | rfl
      · rcases hr with rfl | rfl | rfl
        all_goals
          have HX := Lib.hid (LfE2.len_ hX HS.out (by omega))
          clear HS r90 r91
          go_wp2_with fail
          (with_reducible refine HX.out.mono ?_); rintro e w3 ⟨l0, l00, l01, rfl, h1⟩
          have HX := Lib.hid (LfE2.nD hX h1 (n := 20) (by omega) (by omega) (by omega))
          clear h1
          go_wp2_with fail
          (with_reducible refine HX.out.mono ?_); rintro e w4 ⟨r4, r40, r41, rfl, h1, _⟩
          have HS := Lib.hid h1
          clear h1 HX
          go_upto_if 49 with fail
          go_cut [9] (fun s9 wx => ∃ (q3 : Nat) (l : Int), q3 ≤ q + 32 ∧ s9 = .int .i64 l ∧ Hid (Inv base w0 (LfE2 X base B a len cap R S q3 s s) wx))
          case first =>
            by_cases hr : r4 = 0
            · subst hr
              have h2 := HS.out.box (LfE2.frm hX) 3 #[.int .i64 0, .int .i64 4097]
              have hx := Inv.callD (h2.imp fun T h => Star.unassoc (Star.unassoc (Star.unassoc h))) (((BoxP.frm.star hX).star LtP.frm).star LfW.frm) (GenP.next (n := 2) (by omega) (by omega) (by omega))
              have HX := Lib.hid hx
              clear hx h2 HS
              go_wp2_with fail
              (with_reducible refine HX.out.mono ?_); rintro e w5 ⟨⟨r, r0, r1⟩, rfl, h1, _⟩
              have h3 := h1.imp fun T h => Star.assoc (Star.assoc (Star.assoc h))
              obtain ⟨k, rfl⟩ := Int.eq_ofNat_of_zero_le r0
              have hbx := h3.boxed
              have HF := Lib.hid h3.drop
              obtain ⟨z, hc⟩ : ∃ z : Int, w5.cell? ⟨w4.heap.size, k, none⟩ = some (.int .i64 z) := by
                rcases (by omega : k = 0 ∨ k = 1) with rfl | rfl
                · exact ⟨0, (hbx.read 0).trans rfl⟩
                · exact ⟨4097, (hbx.read 1).trans rfl⟩
              have hk2 : (k : Int) < 2 := r1
              clear h1 h3 hbx HX
              go_wp2
              go_meet
              case rel => exact ⟨_, z, by omega, rfl, HF⟩
            · have hr0 : (r4 == 0) = false := by simpa using hr
              go_wp2
              go_meet
              case rel => exact ⟨_, l0, by omega, rfl, HS⟩
          case rest =>
            obtain ⟨q3, l, hq3, rfl, HS3⟩ := hcut
            clear HS
            have HS := HS3
            clear HS3 l00 l01 r40 r41
            have HX := Lib.hid (Inv.call1 HS.out (LfE2.p hX (pfacc_any HB9.out f l)))
            clear HS
            go_wp2_with fail
            (with_reducible refine HX.out.mono ?_); rintro e w8 ⟨rfl, h1⟩
            have HX := Lib.hid (Inv.call1 h1 (LfE2.r hX (racc_any HB9.out f l)))
            clear h1
            have HNX := Lib.hid (show LfNx s (s.acc f l) N from ⟨HB.out.acc f l, lfr_acc s f l⟩)
            generalize lfAcV s f l = v9 at *
            generalize lfAcE f l = e9 at *
            have hv9 : (v9 == v9) = true := by simp
            have he9 : (e9 == e9) = true := by simp
            go_wp2_with fail
            (with_reducible refine HX.out.mono ?_); rintro e w9 ⟨rfl, h1⟩
            have HF := Lib.hid (show ∃ (q' : Nat) (s' : LfS), q' ≤ q + 40 ∧ LfNx s s' N ∧ Inv base w0 (LfE2 X base B a len cap R S q' s' s') w9 from ⟨_, _, by omega, HNX.out, h1⟩)
            clear h1 HX
            go_wp2
            go_ret
            exact ⟨rfl, HF.out⟩
      · clear r90 r91
        have HX := Lib.hid (Inv.call1 HS.out (LfE2.p hX (pfrfs_any HB9.out f)))
        clear HS
        go_wp2_with fail
        (with_reducible refine HX.out.mono ?_); rintro e w8 ⟨rfl, h1⟩
        have HX := Lib.hid (Inv.call1 h1 (LfE2.r hX (rrfs_any HB9.out f)))
        clear h1
        have HNX := Lib.hid (show LfNx s (s.rfs f) N from ⟨HB.out.rfs f, lfr_rfs s f⟩)
        generalize lfRfE f = e9 at *
        have he9 : (e9 == e9) = true := by simp
        go_wp2_with fail
        (with_reducible refine HX.out.mono ?_); rintro e w9 ⟨rfl, h1⟩
        have HF := Lib.hid (show ∃ (q' : Nat) (s' : LfS), q' ≤ q + 40 ∧ LfNx s s' N ∧ Inv base w0 (LfE2 X base B a len cap R S q' s' s') w9 from ⟨_, _, by omega, HNX.out, h1⟩)
        clear h1 HX
        go_wp2
        go_ret
        exact ⟨rfl, HF.out⟩
      · clear r90 r91
        rcases hr with rfl | rfl
        all_goals
          have HX := Lib.hid (Inv.call1 HS.out (LfE2.p hX (pfsnd_any HB9.out id)))
          clear HS
          go_wp2_with fail
          (with_reducible refine HX.out.mono ?_); rintro e w8 ⟨rfl, h1⟩
          have HX := Lib.hid (Inv.call1 h1 (LfE2.r hX (rsnd_any HB9.out id)))
          clear h1
          have HNX := Lib.hid (show LfNx s (s.snd id) N from ⟨HB.out.snd id, lfr_snd s id⟩)
          generalize lfSdE s id = e9 at *
          have he9 : (e9 == e9) = true := by simp
          go_wp2_with fail
          (with_reducible refine HX.out.mono ?_); rintro e w9 ⟨rfl, h1⟩
          have HF := Lib.hid (show ∃ (q' : Nat) (s' : LfS), q' ≤ q + 40 ∧ LfNx s s' N ∧ Inv base w0 (LfE2 X base B a len cap R S q' s' s') w9 from ⟨_, _, by omega, HNX.out, h1⟩)
          clear h1 HX
          go_wp2
          go_ret
          exact ⟨rfl, HF.out⟩
      · clear r90 r91
        rcases hr with rfl | rfl
        all_goals
          have HX := Lib.hid (Inv.call1 HS.out (LfE2.p hX (pfdlv_any HB9.out id)))
          clear HS
          go_wp2_with fail
          (with_reducible refine HX.out.mono ?_); rintro e w8 ⟨rfl, h1⟩
          have HX := Lib.hid (Inv.call1 h1 (LfE2.r hX (rdlv_any HB9.out id)))
          clear h1
          have HNX := Lib.hid (show LfNx s (s.dlv id) N from ⟨HB.out.dlv id, lfr_dlv s id⟩)
          generalize lfDvE s id = e9 at *
          have he9 : (e9 == e9) = true := by simp
          go_wp2_with fail
          (with_reducible refine HX.out.mono ?_); rintro e w9 ⟨rfl, h1⟩
          have HF := Lib.hid (show ∃ (q' : Nat) (s' : LfS), q' ≤ q + 40 ∧ LfNx s s' N ∧ Inv base w0 (LfE2 X base B a len cap R S q' s' s') w9 from ⟨_, _, by omega, HNX.out, h1⟩)
          clear h1 HX
          go_wp2
          go_ret
          exact ⟨rfl, HF.out⟩
      · clear r90 r91
        have HX := Lib.hid (LfE2.nD hX HS.out (n := 6) (by omega) (by omega) (by omega))
        clear HS
        go_wp2_with fail
        (with_reducible refine HX.out.mono ?_); rintro e w3 ⟨y, y0, y1, rfl, h1, _⟩
        have HS := Lib.hid h1
        clear h1 HX y0 y1
        have HX := Lib.hid (Inv.call1 HS.out (LfE2.p hX (pfdrp_any HB9.out id y)))
        clear HS
        go_wp2_with fail
        (with_reducible refine HX.out.mono ?_); rintro e w8 ⟨rfl, h1⟩
        have HX := Lib.hid (Inv.call1 h1 (LfE2.r hX (rdrp_any HB9.out id y)))
        clear h1
        have HNX := Lib.hid (show LfNx s (s.drp id y) N from ⟨HB.out.drp id y, lfr_drp s id y⟩)
        generalize lfDpE s id y = e9 at *
        have he9 : (e9 == e9) = true := by simp
        go_wp2_with fail
        (with_reducible refine HX.out.mono ?_); rintro e w9 ⟨rfl, h1⟩
        have HF := Lib.hid (show ∃ (q' : Nat) (s' : LfS), q' ≤ q + 40 ∧ LfNx s s' N ∧ Inv base w0 (LfE2 X base B a len cap R S q' s' s') w9 from ⟨_, _, by omega, HNX.out, h1⟩)
        clear h1 HX
        go_wp2
        go_ret
        exact ⟨rfl, HF.out⟩
end Go.Proofs.Ytkhngfadhfomoaa

