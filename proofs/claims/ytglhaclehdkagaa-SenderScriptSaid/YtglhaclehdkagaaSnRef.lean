/-
  Layer 16: the reference's sender in memory; contracts of NewSender, Base, Room, Open, at. Written by gen_snref.py.
-/
import Derived.Test.YtglhaclehdkagaaSnPlain
import Derived.Test.YtglhaclehdkagaaBmOps
import Derived.Test.YtglhaclehdkagaaElt
import Derived.Test.YtglhaclehdkagaaSep
import Derived.Test.YtglhaclehdkagaaStA
import Derived.Deep.LoopGhost
import Derived.Deep.QuietTactic
import Derived.BigQuiet
import Derived.LoopTactic
namespace Go.Proofs.Ytglhaclehdkagaa
open Go.ChangeShapes Go.WideShapes Go.ChangeAt Go.RowKit
set_option linter.unusedVariables false

def csN (x : SnE) : List Value := [.int .i64 x.q, .int .i64 x.i, .int .i64 x.t]
theorem snElt : Elt csN 3 38 39 :=
  ⟨fun _ => rfl, fun a u hu => by simp [csN] at hu; rcases hu with rfl | rfl | rfl <;> rfl, by decide, Try.underlying39, .agg #[.int .i64 0, .int .i64 0, .int .i64 0], 24, by decide, by decide, by kernel_rfl⟩
def csI (x : Int) : List Value := [.int .i64 x]
theorem intElt : Elt csI 1 3 22 :=
  ⟨fun _ => rfl, fun a u hu => by simp [csI] at hu; subst hu; rfl, by decide, Try.underlying22, .int .i64 0, 8, by decide, by decide, by kernel_rfl⟩
def snC (s : SnS) (vL : Value) : Array Value := #[.int .i64 s.w, .int .i64 s.t, .int .i64 s.nx, vL]
/-- The reference's sender in block S. -/
def RsP (S : Nat) (s : SnS) : RP := fun T w => SnOk s ∧ (∀ k, T k → k < w.heap.size) ∧ T S ∧ ∃ vL, Whole w S 42 (snC s vL) ∧ LsG csN 3 38 w T vL s.l
theorem RsP.frm {base S : Nat} {s : SnS} : Frm base (RsP S s) := by
  refine ⟨fun ⟨_, h1, _⟩ => h1, fun {T U w w'} ⟨h0, h1, h2, vL, h3, h4⟩ hc hb hs => ?_⟩
  exact ⟨h0, fun k hk => by have := h1 k hk; have := hc.size; omega, h2, vL, h3.carry (hc.block S (h1 S h2) (hs S h2)), h4.keep fun b hb => hc.block b (h1 b hb) (hs b hb)⟩
theorem RsP.later {S : Nat} {s : SnS} {T : Nat → Prop} {w w' : World} (h : RsP S s T w) (hb : Below w.heap.size w w') : RsP S s T w' :=
  (RsP.frm (base := 0)).chg (S := fun _ => False) h (Chg.of_below hb) (fun _ h => h.elim) (fun _ _ h => h)
/-- Its list lies elsewhere than it. -/
theorem RsP.list {S : Nat} {T : Nat → Prop} {w : World} {vL : Value} {cs : Array Value} {l : List SnE} (h3 : Whole w S 42 cs) (h4 : LsG csN 3 38 w T vL l) : LsG csN 3 38 w (fun b => T b ∧ b ≠ S) vL l := by
  refine h4.typed fun b hb cur hcur => ⟨hb, fun e => ?_⟩
  subst e
  have h5 : some (Obj.cells cur 38 (0, 0)) = some (Obj.cells cs 42 (0, 0)) := Eq.trans (Eq.symm hcur) h3
  simp at h5
/-- Element k of the list: its three cells. -/
theorem LsG.sn {w : World} {T : Nat → Prop} {v : Value} {l : List SnE} (h : LsG csN 3 38 w T v l) {k : Nat} (hk : k < l.length) :
    ∃ b off c, v = .slice (some ⟨b, off, none⟩) l.length c ∧ l.length ≤ c ∧ T b ∧ b < w.heap.size ∧ w.cell? ⟨b, off + k * 3, none⟩ = some (.int .i64 l[k].q) ∧ w.cell? ⟨b, off + k * 3 + 1, none⟩ = some (.int .i64 l[k].i) ∧ w.cell? ⟨b, off + k * 3 + 2, none⟩ = some (.int .i64 l[k].t) := by
  obtain ⟨b, off, c, e1, e2, e3, e4, _, e5⟩ := h.el hk
  exact ⟨b, off, c, e1, e2, e3, e4, (e5 k hk 0 (by omega)).trans rfl, (e5 k hk 1 (by omega)).trans rfl, (e5 k hk 2 (by omega)).trans rfl⟩
theorem SnOk.few {s : SnS} (h : SnOk s) : 1 ≤ s.w ∧ s.w ≤ 64 ∧ 1 ≤ s.t ∧ s.t ≤ 16 := snB_yes h.b
/-! ### NewSender -/
def SnNewR (w t : Int) (w0 : World) (e : Ending) (w' : World) : Prop := ∃ S, e = .returned (.tuple #[.pointer (some ⟨S, 0, none⟩), .int .i64 0]) ∧ w0.heap.size ≤ S
set_option maxHeartbeats 4000000 in
theorem rsnew_any {wi tr : Int} (hp : snB wi tr = true) {base : Nat} : Acts 10 #[.int .i64 wi, .int .i64 tr] base Emp (fun S : Nat => .tuple #[.pointer (some ⟨S, 0, none⟩), .int .i64 0]) fun S => RsP S (SnS.new wi tr) := by
  intro T w hT hb hs
  have hb4 := snB_yes hp
  have hok := SnOk.new hp
  have HF := Lib.hid (show ∃ i : Nat, Ending.returned (.tuple #[.pointer (some ⟨w.heap.size, 0, none⟩), .int .i64 0]) = .returned (.tuple #[.pointer (some ⟨i, 0, none⟩), .int .i64 0]) ∧ (∃ T', RsP i (SnS.new wi tr) T' (w.alloc (.cells #[.int .i64 wi, .int .i64 tr, .int .i64 0, .slice none 0 0] 42)) ∧ ∀ j, T' j → T j ∨ w.heap.size ≤ j) ∧ Chg T w (w.alloc (.cells #[.int .i64 wi, .int .i64 tr, .int .i64 0, .slice none 0 0] 42)) from
    ⟨w.heap.size, rfl, ⟨fun j => j = w.heap.size, ⟨hok, fun j hj => by rw [hj]; simp, rfl, _, Whole.fresh w _ _, LsG.nil _ _⟩, fun j hj => .inr (by rw [hj]; exact Nat.le_refl _)⟩, (Chg.refl T w).alloc _⟩)
  obtain ⟨a1, a2, a3, a4⟩ := hb4
  clear hok hp
  go_enter Try.func10, Try.ntmps10
  go_wp2
  go_ret2
  exact HF.out
set_option maxHeartbeats 4000000 in
theorem rsnew_no {wi tr : Int} (hp : snB wi tr = false) (w : World) : Calls Try.prog 10 #[.int .i64 wi, .int .i64 tr] w (Calm (.tuple #[.pointer none, .int .i64 1]) w) := by
  have hc : wi < 1 ∨ (1 ≤ wi ∧ 64 < wi) ∨ (1 ≤ wi ∧ wi ≤ 64 ∧ tr < 1) ∨ (1 ≤ wi ∧ wi ≤ 64 ∧ 1 ≤ tr ∧ 16 < tr) := by
    by_cases h : 1 ≤ wi ∧ wi ≤ 64 ∧ 1 ≤ tr ∧ tr ≤ 16
    · rw [snB_of h] at hp; cases hp
    · omega
  clear hp
  unfold Calm
  rcases hc with h1 | ⟨h1, h2⟩ | ⟨h1, h2, h3⟩ | ⟨h1, h2, h3, h4⟩
  all_goals
    go_enter Try.func10, Try.ntmps10
    go_wp2
    go_ret2
    exact ⟨rfl, Below.refl _ _⟩
/-! ### Base -/
set_option maxHeartbeats 4000000 in
theorem rsbase_any {S : Nat} {s : SnS} {T : Nat → Prop} {w : World} (h : RsP S s T w) : Calls Try.prog 15 #[.pointer (some ⟨S, 0, none⟩)] w (Calm (.int .i64 (snBase s)) w) := by
  obtain ⟨h0, h1, h2, vL, h3, h4⟩ := h
  have d2 := h3.read 2
  have d3 := h3.read 3
  simp [snC] at d2 d3
  unfold Calm
  rcases Nat.eq_zero_or_pos s.l.length with hz | hz
  · have hl : s.l = [] := List.eq_nil_of_length_eq_zero hz
    have e : snBase s = s.nx := by unfold snBase; rw [hl]
    rw [e]
    obtain ⟨A, c, rfl, _⟩ := h4.shape
    rw [hz] at d3
    clear h0 h1 h2 h3 h4 hl e hz
    go_enter Try.func15, Try.ntmps15
    go_wp2
    go_ret
    exact ⟨rfl, Below.refl _ _⟩
  · obtain ⟨b, off, c, rfl, hc, _, _, q0, _, _⟩ := h4.sn hz
    have e : snBase s = s.l[0].q := by
      obtain ⟨_, _, _, l⟩ := s
      cases l with
      | nil => simp at hz
      | cons x l => rfl
    rw [e]
    rw [Nat.zero_mul, Nat.add_zero] at q0
    generalize s.l[0].q = g at *
    obtain ⟨n, hn⟩ : ∃ n, s.l.length = n := ⟨_, rfl⟩
    rw [hn] at d3 hz
    have hz' : (0 : Int) < (n : Int) := by omega
    have hz2 : ((n : Int) == 0) = false := by simp; omega
    clear h0 h1 h2 h3 h4 e hn hc
    go_enter Try.func15, Try.ntmps15
    go_wp2
    go_ret
    exact ⟨rfl, Below.refl _ _⟩
theorem SnOk.dist {s : SnS} (h : SnOk s) : 0 ≤ snD s ∧ snD s < 65536 := by
  have h1 := h.base
  have h2 := h.nx
  unfold snD
  rw [(ds_yes (both_yes (isNum_yes h1.1 h1.2) (isNum_yes h2.1 h2.2))).1]
  omega
set_option maxRecDepth 100000 in
set_option maxHeartbeats 4000000 in
theorem rsroom_any {S : Nat} {s : SnS} {T : Nat → Prop} {w : World} (h : RsP S s T w) : Calls Try.prog 31 #[.pointer (some ⟨S, 0, none⟩)] w (Calm (.int .i64 (s.w - snD s)) w) := by
  have HB1 := Lib.hid (fun (W : World) (hw : Below w.drew.heap.size w.drew W) => rsbase_any (h.later ((Below.refl _ w).drew.trans hw)))
  have hd := h.1.dist
  have hf := h.1.few
  obtain ⟨h0, h1, h2, vL, h3, h4⟩ := h
  have d0 := h3.read 0
  have d2 := h3.read 2
  simp [snC] at d0 d2
  have hS := h1 S h2
  have HC4 := Lib.hid (fun (W : World) (hw : Below w.drew.heap.size w.drew W) => (((Below.refl _ w).drew.trans hw).cell (p := ⟨S, 2, none⟩) hS).trans d2)
  have HC0 := Lib.hid (fun (W : World) (hw : Below w.drew.heap.size w.drew W) => (((Below.refl _ w).drew.trans hw).cell (p := ⟨S, 0, none⟩) hS).trans d0)
  clear h0 h1 h2 h3 h4 d0 d2
  unfold snD at hd ⊢
  generalize snBase s = b at *
  generalize s.nx = nx at *
  have HD1 := Lib.hid (fun (W : World) (hw : Below w.drew.heap.size w.drew W) => (refDist_any b nx W).mono fun e w' k => Calm.same k)
  generalize dsV b nx = d at *
  generalize dsE b nx = de at *
  generalize s.w = wi at *
  have hwr : IntKind.i64.wrap (wi - d) = wi - d := IntWalk.i64_in _ (by omega)
  clear hd hf hS
  unfold Calm at *
  go_enter Try.func31, Try.ntmps31
  go_wp2_with fail
  refine wp_region_looseS 21 (by kernel_rfl) (by kernel_rfl) (StB w.drew (fun vI => [.pointer (some ⟨S, 0, none⟩), .int .i64 b, .pointer (some ⟨S, 0, none⟩), .pointer (some ⟨S, 0, none⟩), .pointer (some ⟨S, 2, none⟩), .int .i64 nx, .tuple #[.int .i64 d, .int .i64 de], .tuple #[.int .i64 d, .int .i64 de], .int .i64 d, .int .i64 de, .int .i64 d, .int .i64 de].getD vI undef)) rfl StB.start ?_ ?_
  · simp only [OblAllS]
    refine ⟨?_, ?_, ?_, ?_, ?_, ?_, ?_, ?_, ?_, ?_, ?_, ?_, trivial⟩
    · intro L wx vals hi hu hcl hC
      have HCx := Lib.hid hC
      clear hC hcl hu hi
      simp only [fillA, if_true, Act.put]
      simp
      go_wp2
      exact ⟨rfl, HCx.out.quiet 0 rfl⟩
    · intro L wx vals hi hu hcl hC
      simp [predL, predE, Region.binds, UpL] at hu
      have e0 : vals 0 = .pointer (some ⟨S, 0, none⟩) := hC.v 0 (by simp [hu])
      have HL := Lib.hid (HB1.out wx hC.b)
      have HCx := Lib.hid hC
      clear hC hcl hu hi
      simp only [fillA, if_true, Act.put]
      simp
      simp only [e0]
      clear e0
      go_wp2_with fail
      (with_reducible refine HL.out.mono ?_); rintro e w9 ⟨rfl, hb⟩
      have HX := Lib.hid (HCx.out.step 1 (x := .int .i64 b) rfl (HCx.out.b.trans (hb.mono HCx.out.b.size)))
      clear hb
      go_wp2
      exact ⟨rfl, HX.out⟩
    · intro L wx vals hi hu hcl hC
      have HCx := Lib.hid hC
      clear hC hcl hu hi
      simp only [fillA, if_true, Act.put]
      simp
      go_wp2
      exact ⟨rfl, HCx.out.quiet 2 rfl⟩
    · intro L wx vals hi hu hcl hC
      simp [predL, predE, Region.binds, UpL] at hu
      have e2 : vals 2 = .pointer (some ⟨S, 0, none⟩) := hC.v 2 (by simp [hu])
      have HCx := Lib.hid hC
      clear hC hcl hu hi
      simp only [fillA, if_true, Act.put]
      simp
      simp only [e2]
      clear e2
      go_wp2
      exact ⟨rfl, HCx.out.quiet 3 rfl⟩
    · intro L wx vals hi hu hcl hC
      simp [predL, predE, Region.binds, UpL] at hu
      have e3 : vals 3 = .pointer (some ⟨S, 0, none⟩) := hC.v 3 (by simp [hu])
      have HCx := Lib.hid hC
      clear hC hcl hu hi
      simp only [fillA, if_true, Act.put]
      simp
      simp only [e3]
      clear e3
      go_wp2
      exact ⟨rfl, HCx.out.quiet 4 rfl⟩
    · intro L wx vals hi hu hcl hC
      simp [predL, predE, Region.binds, UpL] at hu
      have e4 : vals 4 = .pointer (some ⟨S, 2, none⟩) := hC.v 4 (by simp [hu])
      have h0 := (HC4.out wx hC.b)
      have HCx := Lib.hid hC
      clear hC hcl hu hi
      simp only [fillA, if_true, Act.put]
      simp
      simp only [e4]
      clear e4
      go_wp2
      exact ⟨rfl, HCx.out.quiet 5 rfl⟩
    · intro L wx vals hi hu hcl hC
      simp [predL, predE, Region.binds, UpL] at hu
      have e1 : vals 1 = .int .i64 b := hC.v 1 (by simp [hu])
      have e5 : vals 5 = .int .i64 nx := hC.v 5 (by simp [hu])
      have HL := Lib.hid (HD1.out wx hC.b)
      have HCx := Lib.hid hC
      clear hC hcl hu hi
      simp only [fillA, if_true, Act.put]
      simp
      simp only [e1, e5]
      clear e1 e5
      go_wp2_with fail
      (with_reducible refine HL.out.mono ?_); rintro e w9 ⟨rfl, hb⟩
      have HX := Lib.hid (HCx.out.step 6 (x := .tuple #[.int .i64 d, .int .i64 de]) rfl (HCx.out.b.trans (hb.mono HCx.out.b.size)))
      clear hb
      go_wp2
      exact ⟨rfl, HX.out⟩
    · intro L wx vals hi hu hcl hC
      simp [predL, predE, Region.binds, UpL] at hu
      have e6 : vals 6 = .tuple #[.int .i64 d, .int .i64 de] := hC.v 6 (by simp [hu])
      have HCx := Lib.hid hC
      clear hC hcl hu hi
      simp only [fillA, if_true, Act.put]
      simp
      simp only [e6]
      clear e6
      go_wp2
      exact ⟨rfl, HCx.out.quiet 7 rfl⟩
    · intro L wx vals hi hu hcl hC
      simp [predL, predE, Region.binds, UpL] at hu
      have e7 : vals 7 = .tuple #[.int .i64 d, .int .i64 de] := hC.v 7 (by simp [hu])
      have HCx := Lib.hid hC
      clear hC hcl hu hi
      simp only [fillA, if_true, Act.put]
      simp
      simp only [e7]
      clear e7
      go_wp2
      exact ⟨rfl, HCx.out.quiet 8 rfl⟩
    · intro L wx vals hi hu hcl hC
      simp [predL, predE, Region.binds, UpL] at hu
      have e7 : vals 7 = .tuple #[.int .i64 d, .int .i64 de] := hC.v 7 (by simp [hu])
      have HCx := Lib.hid hC
      clear hC hcl hu hi
      simp only [fillA, if_true, Act.put]
      simp
      simp only [e7]
      clear e7
      go_wp2
      exact ⟨rfl, HCx.out.quiet 9 rfl⟩
    · intro L wx vals hi hu hcl hC
      simp [predL, predE, Region.binds, UpL] at hu
      have e8 : vals 8 = .int .i64 d := hC.v 8 (by simp [hu])
      have HCx := Lib.hid hC
      clear hC hcl hu hi
      simp only [fillA, if_true, Act.put]
      simp
      simp only [e8]
      clear e8
      go_wp2
      exact ⟨rfl, HCx.out.quiet 10 rfl⟩
    · intro L wx vals hi hu hcl hC
      simp [predL, predE, Region.binds, UpL] at hu
      have e9 : vals 9 = .int .i64 de := hC.v 9 (by simp [hu])
      have HCx := Lib.hid hC
      clear hC hcl hu hi
      simp only [fillA, if_true, Act.put]
      simp
      simp only [e9]
      clear e9
      go_wp2
      exact ⟨rfl, HCx.out.quiet 11 rfl⟩
  · intro wz vals U hC hall
    have e10 : vals 10 = .int .i64 d := hC.v 10 (hall 10 (by simp))
    have e11 : vals 11 = .int .i64 de := hC.v 11 (hall 11 (by simp))
    have c0 := HC0.out wz hC.b
    have HF := Lib.hid ((Below.refl _ w).drew.trans hC.b)
    simp only [fillA, if_true, Act.put]
    simp
    simp only [e10, e11]
    clear hC hall e10 e11 HC4 HC0 HB1 HD1
    generalize vals 0 = t0 at *
    generalize vals 1 = t1 at *
    generalize vals 2 = t2 at *
    generalize vals 3 = t3 at *
    generalize vals 4 = t4 at *
    generalize vals 5 = t5 at *
    generalize vals 6 = t6 at *
    generalize vals 7 = t7 at *
    generalize vals 8 = t8 at *
    generalize vals 9 = t9 at *
    go_wp2
    go_ret
    exact ⟨rfl, HF.out⟩
set_option maxHeartbeats 4000000 in
theorem rsopen_any {S : Nat} {s : SnS} {T : Nat → Prop} {w : World} (h : RsP S s T w) : Calls Try.prog 13 #[.pointer (some ⟨S, 0, none⟩)] w (Calm (.bool (snOpen s)) w) := by
  have HR := Lib.hid (rsroom_any h)
  unfold snOpen
  clear h
  generalize s.w - snD s = r at *
  unfold Calm at *
  go_enter Try.func13, Try.ntmps13
  go_wp2_with fail
  (with_reducible refine HR.out.mono ?_); rintro e w1 ⟨rfl, hb⟩
  have HF := Lib.hid hb
  clear hb HR
  go_wp2
  go_ret
  exact ⟨rfl, HF.out⟩
/-! ### at -/
set_option maxRecDepth 100000 in
set_option maxHeartbeats 4000000 in
theorem rsat_any {S : Nat} {s : SnS} {T : Nat → Prop} {w : World} (hn : s.l.length ≤ 100000) (h : RsP S s T w) (q : Int) : Calls Try.prog 39 #[.pointer (some ⟨S, 0, none⟩), .int .i64 q] w fun e w' => e = .returned (.int .i64 (snAt s.l q)) ∧ w = w' := by
  obtain ⟨h0, h1, h2, vL, h3, h4⟩ := h
  have d3 := h3.read 3
  simp [snC] at d3
  have HL := Lib.hid (fun k (hk : k < s.l.length) => h4.sn hk)
  obtain ⟨A, c, rfl, hcl, _⟩ := h4.shape
  clear h0 h1 h2 h3 h4
  obtain ⟨s1, s2, s3, l⟩ := s
  simp only at hn d3 HL hcl ⊢
  have HNO := Lib.hid (fun (h : ∀ j (hj : j < l.length), l[j].q ≠ q) => (by unfold snAt; rw [snK_none h, if_neg (by omega)] : snAt l q = -1))
  have HYES := Lib.hid (fun k (hk : k < l.length) (h : l[k].q = q) (h2 : ∀ j (hj : j < l.length), j < k → l[j].q ≠ q) => (by unfold snAt; rw [snK_is hk h h2, if_pos hk] : snAt l q = k))
  generalize snAt l q = r at *
  go_enter Try.func39, Try.ntmps39
  go_wp2_with fail
  go_loopw [5] (fun s5 wr => ∃ k : Nat, k ≤ l.length ∧ s5 = .int .i64 k ∧ Hid (∀ j (hj : j < l.length), j < k → l[j].q ≠ q) ∧ Hid (wr = w)) (fun s5 _ => l.length - (intOf s5).toNat)
  case atStart => exact ⟨0, Nat.zero_le _, rfl, Lib.hid (fun j _ hj => by omega), Lib.hid rfl⟩
  case round =>
    obtain ⟨k, hk, rfl, HN, HWW⟩ := hrel
    obtain rfl := HWW.out
    by_cases hlt : k < l.length
    · have hlt' : (k : Int) < l.length := by omega
      obtain ⟨b, off, c', e1, _, _, _, q0, _, _⟩ := HL.out k hlt
      obtain ⟨rfl, rfl⟩ : A = some ⟨b, off, none⟩ ∧ c = c' := by simpa using e1
      have HN2 := Lib.hid (fun (h : l[k].q ≠ q) j (hj : j < l.length) (hjk : j < k + 1) => (by
        rcases Nat.lt_or_ge j k with h1 | h1
        · exact HN.out j hj h1
        · obtain rfl : j = k := by omega
          exact h : l[j].q ≠ q))
      have HY2 := Lib.hid (fun (h : l[k].q = q) => HYES.out k hlt h HN.out)
      generalize l[k].q = g at *
      have hn2 : l.length ≤ 100000 := hn
      clear HL HNO HYES e1
      by_cases hq : g = q
      · subst hq
        have hr := HY2.out rfl
        subst hr
        have hgg : (g == g) = true := by simp
        clear HN2 HY2
        go_wp2
        go_ret
        first | exact ⟨rfl, rfl⟩ | exact rfl
      · have HN3 := Lib.hid (HN2.out hq)
        have hqq : (g == q) = false := by simpa using hq
        clear HN2 HY2 HN
        go_wp2
        go_roundw
        case rel => exact ⟨k + 1, by omega, by go_num, HN3, by first | exact Lib.hid rfl | exact Lib.hid trivial⟩
        case measure => simp [intOf]; omega
    · obtain rfl : k = l.length := by omega
      have hr := HNO.out (fun j hj => HN.out j hj hj)
      subst hr
      clear HL HNO HYES HN
      go_wp2
      go_ret
      exact ⟨rfl, rfl⟩
end Go.Proofs.Ytglhaclehdkagaa

