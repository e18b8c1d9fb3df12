/-
  Layer 14's law: a sample is drawn. Written by gen_fasmp.py.
-/
import Derived.Test.YtcdeecigiijabaaFaHelp
import Derived.Test.YtcdeecigiijabaaLenGen
import Derived.Test.YtcdeecigiijabaaDrw
import Derived.Test.YtcdeecigiijabaaLoose
import Derived.Deep.CutBlock
import Derived.Deep.DeepCutAuto
namespace Go.Proofs.Ytcdeecigiijabaa
open Go.ChangeShapes Go.WideShapes Go.ChangeAt Go.RowKit
set_option linter.unusedVariables false

def InZ (v : Value) : Prop := ∃ z : Int, v = .int .i64 z
/-- A row of n numbers in a block of its own. -/
def RwT (B : Nat) (t : TypeId) (n : Nat) (v : Value) (w : World) : Prop := ∃ (L : List Int) (g : Nat), L.length = n ∧ g ≠ B ∧ v = .slice (some ⟨g, 0, none⟩) n n ∧ Whole w g t (L.map (Value.int .i64)).toArray
/-- The address of a number in such a row. -/
def PtT (B : Nat) (t : TypeId) (v : Value) (w : World) : Prop := ∃ (L : List Int) (g i : Nat), i < L.length ∧ g ≠ B ∧ v = .pointer (some ⟨g, i, none⟩) ∧ Whole w g t (L.map (Value.int .i64)).toArray
/-- The address of a sample. -/
def SmT (B base : Nat) (v : Value) (w : World) : Prop := ∃ (g : Nat) (s : Sp), base ≤ g ∧ g ≠ B ∧ v = .pointer (some ⟨g, 0, none⟩) ∧ Whole w g 24 (spC s)
/-- What an operation may do: blocks but B stay, and samples from base on stay samples. -/
def SmR (B base : Nat) (w w' : World) : Prop := w.heap.size ≤ w'.heap.size ∧ ∀ b, b < w.heap.size → b ≠ B → w'.heap[b]? = w.heap[b]? ∨ (base ≤ b ∧ (∃ s, Whole w b 24 (spC s)) ∧ ∃ s, Whole w' b 24 (spC s))
def SmC (B : Nat) (a : Option Addr) (len cap K : Nat) (wS : World) (fu : Nat) (w : World) : Prop := ∃ k, k + fu ≤ K ∧ Gen B a len cap k w ∧ Only B wS w
def SmV (B base : Nat) (i : Nat) (v : Value) (w : World) : Prop :=
  match i with
  | 0 => v = .pointer (some ⟨B, 0, none⟩)
  | 1 => InZ v
  | 2 => RwT B 2 6 v w
  | 3 => v = .pointer (some ⟨B, 0, none⟩)
  | 4 => InV 0 5 v
  | 5 => PtT B 2 v w
  | 6 => InZ v
  | 7 => RwT B 3 4 v w
  | 8 => v = .pointer (some ⟨B, 0, none⟩)
  | 9 => InV 0 3 v
  | 10 => PtT B 3 v w
  | 11 => InZ v
  | 12 => ∃ s, v = aggSp s
  | 13 => SmT B base v w
  | _ => True
section
variable {B base : Nat} {w w' : World} {v : Value} {t : TypeId}
theorem whole_at {L : List Int} {g i : Nat} (hw : Whole w g t (L.map (Value.int .i64)).toArray) (hi : i < L.length) : w.cell? ⟨g, i, none⟩ = some (.int .i64 L[i]) := by
  rw [hw.read, List.getElem?_toArray, List.getElem?_map, List.getElem?_eq_getElem hi]; rfl
theorem SmR.refl (B base : Nat) (w : World) : SmR B base w w := ⟨Nat.le_refl _, fun _ _ _ => .inl rfl⟩
theorem SmR.only (h : Only B w w') : SmR B base w w' := ⟨h.size, fun b hb hn => .inl (h.block b hb hn)⟩
theorem SmR.whole (h : SmR B base w w') {g : Nat} {cs : Array Value} (hw : Whole w g t cs) (hg : g ≠ B) (ht : t ≠ 24) : Whole w' g t cs := by
  rcases h.2 g hw.size_lt hg with e | ⟨_, ⟨s, hs⟩, _⟩
  · exact hw.carry e
  · exfalso
    have h2 : some (Obj.cells cs t (0, 0)) = some (Obj.cells (spC s) 24 (0, 0)) := Eq.trans (Eq.symm hw) hs
    simp at h2
    exact ht h2.2
theorem SmR.row (h : SmR B base w w') (ht : t ≠ 24) {n : Nat} (hv : RwT B t n v w) : RwT B t n v w' := by
  obtain ⟨L, g, h1, h2, h3, h4⟩ := hv
  exact ⟨L, g, h1, h2, h3, h.whole h4 h2 ht⟩
theorem SmR.ptr (h : SmR B base w w') (ht : t ≠ 24) (hv : PtT B t v w) : PtT B t v w' := by
  obtain ⟨L, g, i, h1, h2, h3, h4⟩ := hv
  exact ⟨L, g, i, h1, h2, h3, h.whole h4 h2 ht⟩
theorem SmR.smp (h : SmR B base w w') (hv : SmT B base v w) : SmT B base v w' := by
  obtain ⟨g, s, h1, h2, h3, h4⟩ := hv
  rcases h.2 g h4.size_lt h2 with e | ⟨_, _, s', hs⟩
  · exact ⟨g, s, h1, h2, h3, h4.carry e⟩
  · exact ⟨g, s', h1, h2, h3, hs⟩
theorem SmV.keep (i : Nat) (v : Value) (w w' : World) (h : SmR B base w w') (hv : SmV B base i v w) : SmV B base i v w' := by
  unfold SmV at *
  split at hv <;> first | exact hv | exact h.row (by decide) hv | exact h.ptr (by decide) hv | exact h.smp hv | trivial
theorem RwT.new (hB : B < w.heap.size) (L : List Int) {n : Nat} (hL : L.length = n) {cs : Array Value} (hcs : cs = (L.map (Value.int .i64)).toArray) (t : TypeId) : RwT B t n (.slice (some ⟨w.heap.size, 0, none⟩) n n) (w.alloc (.cells cs t)) := by
  subst hcs
  exact ⟨L, w.heap.size, hL, by omega, rfl, Whole.fresh w t _⟩
theorem SmT.new (hB : B < w.heap.size) (hb : base ≤ w.heap.size) : SmT B base (.pointer (some ⟨w.heap.size, 0, none⟩)) (w.alloc (.cells #[.int .i64 0, .int .i64 0, .int .i64 0] 24)) :=
  ⟨w.heap.size, ⟨0, 0, 0⟩, hb, by omega, rfl, Whole.fresh w _ _⟩
/-- Three values stored. -/
def put3 (w : World) (g : Nat) (x b m : Int) : World := ((w.setCell ⟨g, 0, none⟩ (.int .i64 x)).setCell ⟨g, 1, none⟩ (.int .i64 b)).setCell ⟨g, 2, none⟩ (.int .i64 m)
theorem Whole.put3 {g : Nat} {s0 : Sp} (h : Whole w g t (spC s0)) (s : Sp) : Whole (put3 w g s.w s.b s.m) g t (spC s) := ((h.put 0 (.int .i64 s.w)).put 1 (.int .i64 s.b)).put 2 (.int .i64 s.m)
theorem put3_far {g k : Nat} {x b m : Int} (hn : k ≠ g) : (put3 w g x b m).heap[k]? = w.heap[k]? := by
  unfold put3
  rw [Below.heap_setCell _ _ _ _ hn, Below.heap_setCell _ _ _ _ hn, Below.heap_setCell _ _ _ _ hn]
theorem put3_size {g : Nat} {x b m : Int} : (put3 w g x b m).heap.size = w.heap.size := by simp [put3, World.setCell]
theorem put3_below {g C : Nat} {x b m : Int} (h : C ≤ g) : Below C w (put3 w g x b m) :=
  ((((Below.refl C w).setCell (p := ⟨g, 0, none⟩) h _).setCell (p := ⟨g, 1, none⟩) h _).setCell (p := ⟨g, 2, none⟩) h _)
/-- No old block but B has turned, where a block that is not old is written. -/
theorem only_put3 {wS : World} {g : Nat} {x b m : Int} (ho : Only B wS w) (hg : wS.heap.size ≤ g) : Only B wS (put3 w g x b m) := by
  have hb := put3_below (w := w) (g := g) (x := x) (b := b) (m := m) hg
  exact ⟨hb.os.trans ho.os, hb.tape.trans ho.tape, hb.output.trans ho.output, by rw [put3_size]; exact ho.size, fun j hj hn => (put3_far (by omega)).trans (ho.block j hj hn)⟩
theorem only_put1 {wS : World} {g o : Nat} {u : Value} (ho : Only B wS w) (hg : wS.heap.size ≤ g) : Only B wS (w.setCell ⟨g, o, none⟩ u) := by
  have hb := (Below.refl wS.heap.size w).setCell (p := ⟨g, o, none⟩) hg u
  exact ⟨hb.os.trans ho.os, hb.tape.trans ho.tape, hb.output.trans ho.output, by have := ho.size; simpa [World.setCell] using this, fun j hj hn => (hb.block j hj).trans (ho.block j hj hn)⟩
variable {a : Option Addr} {len cap K fu k : Nat} {wS : World}
/-- The choices stay where another block of after is written. -/
theorem gen_put3 {g : Nat} {x b m : Int} (h : Gen B a len cap k w) (hg : B < g) : Gen B a len cap k (put3 w g x b m) := h.kept (put3_below (by omega))
theorem gen_put1 {g o : Nat} {u : Value} (h : Gen B a len cap k w) (hg : B < g) : Gen B a len cap k (w.setCell ⟨g, o, none⟩ u) := h.kept ((Below.refl _ w).setCell (p := ⟨g, o, none⟩) (by show B + 1 ≤ g; omega) u)
theorem SmC.step (h : SmC B a len cap K wS (fu + 1) w) : SmC B a len cap K wS fu w := by
  obtain ⟨k, hk, h1⟩ := h; exact ⟨k, by omega, h1⟩
theorem SmC.call (h : SmC B a len cap K wS (fu + 1) w) (hk : k + 1 + fu ≤ K) (hg : Gen B a len cap (k + 1) w') (ho : Only B w w') : SmC B a len cap K wS fu w' := by
  obtain ⟨_, _, _, h2⟩ := h; exact ⟨k + 1, hk, hg, h2.trans ho⟩
theorem SmC.alloc (h : SmC B a len cap K wS (fu + 1) w) (o : Obj) : SmC B a len cap K wS fu (w.alloc o) := by
  obtain ⟨k, hk, hg, h2⟩ := h; exact ⟨k, by omega, hg.alloc o, h2.trans (Only.alloc B w o)⟩
theorem SmC.store {g : Nat} {s0 : Sp} (h : SmC B a len cap K wS (fu + 1) w) (hBS : B < wS.heap.size) (he : wS.heap.size = base) (hB : g ≠ B) (hbg : base ≤ g) (hw : Whole w g 24 (spC s0)) (s : Sp) :
    SmC B a len cap K wS fu (put3 w g s.w s.b s.m) ∧ SmR B base w (put3 w g s.w s.b s.m) := by
  subst he
  obtain ⟨k, hk, hg, h2⟩ := h
  refine ⟨⟨k, by omega, gen_put3 hg (by omega), only_put3 h2 hbg⟩, by rw [put3_size]; exact Nat.le_refl _, fun b hb hn => ?_⟩
  by_cases e : b = g
  · subst e; exact .inr ⟨hbg, ⟨s0, hw⟩, s, hw.put3 s⟩
  · exact .inl (put3_far e)
end
/-- What Has and Only say behind the store of the result. -/
theorem smp_end {B : Nat} {a : Option Addr} {len cap k : Nat} {w0 w wS w1 : World} {s : Sp} (hb0 : Below B w0 w) (hBw : B < w.heap.size) (hoS : Only B w wS) (ho : Only B wS w1) (hg : Gen B a len cap k w1) (hz : Whole w1 w.heap.size 24 (spC ⟨0, 0, 0⟩)) :
    (Has B a len cap k w0 (put3 w1 w.heap.size s.w s.b s.m) ∧ Only B w (put3 w1 w.heap.size s.w s.b s.m)) ∧ Whole (put3 w1 w.heap.size s.w s.b s.m) w.heap.size 24 (spC s) := by
  have h1 := only_put3 (g := w.heap.size) (x := s.w) (b := s.b) (m := s.m) (hoS.trans ho) (Nat.le_refl _)
  exact ⟨⟨⟨gen_put3 hg hBw, hb0.trans (h1.below (by omega))⟩, h1⟩, hz.put3 s⟩
/-- What a drawn sample answers. -/
def GaveSp (B : Nat) (a : Option Addr) (len cap k : Nat) (w0 w : World) (e : Ending) (w' : World) : Prop :=
  ∃ (s : Sp) (k' : Nat), e = .returned (aggSp s) ∧ k' ≤ k + 20 ∧ Has B a len cap k' w0 w' ∧ Only B w w'
set_option maxRecDepth 100000 in
set_option maxHeartbeats 8000000 in
theorem sample_any (B : Nat) (a : Option Addr) (len cap k : Nat) (w0 w : World) (h : Has B a len cap k w0 w) (hk : k ≤ 100000000) :
    Calls Try.prog 10 #[.pointer (some ⟨B, 0, none⟩)] w (GaveSp B a len cap k w0 w) := by
  have hBw := h.1.lt
  have HB0 := Lib.hid h.2
  have hg := h.1
  clear h
  obtain ⟨wS, hwS⟩ : ∃ wS, w.alloc (.cells #[.int .i64 0, .int .i64 0, .int .i64 0] 24) = wS := ⟨_, rfl⟩
  have hsz : wS.heap.size = w.heap.size + 1 := by rw [← hwS]; simp
  have hgS : Gen B a len cap k wS := by rw [← hwS]; exact hg.alloc _
  have hoS : Only B w wS := by rw [← hwS]; exact Only.alloc B w _
  have hwz : Whole wS w.heap.size 24 (spC ⟨0, 0, 0⟩) := by rw [← hwS]; exact Whole.fresh w _ _
  obtain ⟨base, hbase⟩ : ∃ base, wS.heap.size = base := ⟨_, rfl⟩
  have HC0 := Lib.hid (show SmC B a len cap (k + 15) wS 15 wS.drew from ⟨k, by omega, hgS.drew, (Only.refl B wS).drew⟩)
  have HO := Lib.hid hoS
  have HW := Lib.hid hwz
  have HSZ := Lib.hid hsz
  have HBA := Lib.hid hbase
  clear hg hgS hoS hwz hsz hbase
  go_enter Try.func10, Try.ntmps10
  go_wp2_with fail

  refine wp_region_loose 44 (by kernel_rfl) (by kernel_rfl) (SmC B a len cap (k + 15) wS) (SmR B base) (SmV B base) rfl (fun i v w w' h hv => SmV.keep i v w w' h hv) HC0.out ?_ ?_
  · simp only [OblAll]
    refine ⟨?_, ?_, ?_, ?_, ?_, ?_, ?_, ?_, ?_, ?_, ?_, ?_, ?_, ?_, ?_, trivial⟩
    all_goals
      intro fu wx vals hC hp
      simp [predL, predE, Region.binds, PreV, SmV] at hp
      simp only [fillA, if_true, Act.put]
      simp
      have HC := Lib.hid hC
    · clear hp
      go_wp2
      exact ⟨rfl, HC.out.step, SmR.refl _ _ _, rfl⟩
    · skip
      simp only [hp]
      clear hp
      obtain ⟨kk, hkk, hg', _⟩ := hC
      have HX := Lib.hid (weight_any B a len cap kk wx wx ⟨hg', Below.refl _ _⟩ (by omega))
      clear hg'
      go_wp2_with fail
      (with_reducible refine HX.out.mono ?_)
      rintro e w' ⟨r, r0, r1, rfl, hg2, ho⟩
      have HF := Lib.hid (And.intro (HC.out.call (by omega) hg2.1 ho) (SmR.only (base := base) ho))
      clear hg2 ho HX
      go_wp2
      exact ⟨rfl, HF.out.1, HF.out.2, r, rfl⟩
    · have hlt := hC.choose_spec.2.1.lt
      clear hp
      go_wp2
      exact ⟨rfl, HC.out.alloc _, SmR.only (Only.alloc B wx _), RwT.new hlt [0, 100, 200, 2147483648, 12345, 1500] rfl rfl _⟩
    · clear hp
      go_wp2
      exact ⟨rfl, HC.out.step, SmR.refl _ _ _, rfl⟩
    · replace hp := hp.1
      simp only [hp]
      clear hp
      obtain ⟨kk, hkk, hg', _⟩ := hC
      have HX := Lib.hid (next_any B a len cap kk 6 wx (by decide) (by decide) (by omega) hg')
      clear hg'
      go_wp2_with fail
      (with_reducible refine HX.out.mono ?_)
      rintro e w' ⟨r, r0, r1, rfl, hg2, ho⟩
      have HF := Lib.hid (And.intro (HC.out.call (by omega) hg2 ho) (SmR.only (base := base) ho))
      have HZ := Lib.hid (show 0 ≤ r ∧ r ≤ 5 by omega)
      clear hg2 ho HX
      go_wp2
      exact ⟨rfl, HF.out.1, HF.out.2, r, HZ.out, rfl⟩
    · obtain ⟨⟨L, g, hL, g1, e1, hw⟩, r, hr, e3⟩ := hp
      obtain ⟨m, rfl⟩ := Int.eq_ofNat_of_zero_le hr.1
      have hn' : m ≤ 5 := by omega
      have HX := Lib.hid (show PtT B _ (.pointer (some ⟨g, m, none⟩)) wx from ⟨L, g, m, by omega, g1, rfl, hw⟩)
      simp only [e1, e3]
      clear e1 e3 hC hw hr hL
      go_wp2
      exact ⟨rfl, HC.out.step, SmR.refl _ _ _, HX.out⟩
    · obtain ⟨L, g, i, hi, g1, e1, hw⟩ := hp
      have hc := whole_at hw hi
      generalize L[i] = z at *
      simp only [e1]
      clear e1 hC hw hi
      go_wp2
      exact ⟨rfl, HC.out.step, SmR.refl _ _ _, z, rfl⟩
    · have hlt := hC.choose_spec.2.1.lt
      clear hp
      go_wp2
      exact ⟨rfl, HC.out.alloc _, SmR.only (Only.alloc B wx _), RwT.new hlt [0, 1, 100, 4096] rfl rfl _⟩
    · clear hp
      go_wp2
      exact ⟨rfl, HC.out.step, SmR.refl _ _ _, rfl⟩
    · replace hp := hp.1
      simp only [hp]
      clear hp
      obtain ⟨kk, hkk, hg', _⟩ := hC
      have HX := Lib.hid (next_any B a len cap kk 4 wx (by decide) (by decide) (by omega) hg')
      clear hg'
      go_wp2_with fail
      (with_reducible refine HX.out.mono ?_)
      rintro e w' ⟨r, r0, r1, rfl, hg2, ho⟩
      have HF := Lib.hid (And.intro (HC.out.call (by omega) hg2 ho) (SmR.only (base := base) ho))
      have HZ := Lib.hid (show 0 ≤ r ∧ r ≤ 3 by omega)
      clear hg2 ho HX
      go_wp2
      exact ⟨rfl, HF.out.1, HF.out.2, r, HZ.out, rfl⟩
    · obtain ⟨⟨L, g, hL, g1, e1, hw⟩, r, hr, e3⟩ := hp
      obtain ⟨m, rfl⟩ := Int.eq_ofNat_of_zero_le hr.1
      have hn' : m ≤ 3 := by omega
      have HX := Lib.hid (show PtT B _ (.pointer (some ⟨g, m, none⟩)) wx from ⟨L, g, m, by omega, g1, rfl, hw⟩)
      simp only [e1, e3]
      clear e1 e3 hC hw hr hL
      go_wp2
      exact ⟨rfl, HC.out.step, SmR.refl _ _ _, HX.out⟩
    · obtain ⟨L, g, i, hi, g1, e1, hw⟩ := hp
      have hc := whole_at hw hi
      generalize L[i] = z at *
      simp only [e1]
      clear e1 hC hw hi
      go_wp2
      exact ⟨rfl, HC.out.step, SmR.refl _ _ _, z, rfl⟩
    · obtain ⟨⟨x, e1⟩, ⟨y, e2⟩, ⟨z, e3⟩⟩ := hp
      simp only [e1, e2, e3]
      clear e1 e2 e3 hC
      go_wp2
      exact ⟨rfl, HC.out.step, SmR.refl _ _ _, ⟨x, y, z⟩, rfl⟩
    · have hlt := hC.choose_spec.2.1.lt
      have hbs := hC.choose_spec.2.2.size
      clear hp
      go_wp2
      exact ⟨rfl, HC.out.alloc _, SmR.only (Only.alloc B wx _), SmT.new hlt (by have := HBA.out; omega)⟩
    · obtain ⟨⟨g, s0, hbg, g1, e1, hw⟩, ⟨s, e2⟩, _⟩ := hp
      have HS := Lib.hid (HC.out.store (by have := HSZ.out; omega) HBA.out g1 hbg hw s)
      have d0 := hw.read 0
      have d1 := hw.read 1
      have d2 := hw.read 2
      have z0 := hw.free 0
      have z1 := hw.free 1
      have z2 := hw.free 2
      simp [spC] at d0 d1 d2
      unfold aggSp at e2
      unfold put3 at HS
      simp only [e1, e2]
      clear e1 e2 hC hw hbg
      go_wp2
      exact ⟨rfl, HS.out.1, HS.out.2, trivial⟩
  · intro wz vals hC hV
    have e13 := hV 13 (by simp)
    simp only [SmV] at e13
    obtain ⟨g, s, hbg, hgB, e13, hw⟩ := e13
    obtain ⟨k1, hk1, hg1, ho1⟩ := hC
    simp only [fillA, if_true, Act.put]
    simp
    simp only [e13]
    have HX := Lib.hid (next_any B a len cap k1 20 wz (by decide) (by decide) (by omega) hg1)
    have HO1 := Lib.hid ho1
    have HW1 := Lib.hid hw
    clear e13 hV hg1 ho1 hw HC0
    generalize vals 0 = u0 at *
    generalize vals 1 = u1 at *
    generalize vals 2 = u2 at *
    generalize vals 3 = u3 at *
    generalize vals 4 = u4 at *
    generalize vals 5 = u5 at *
    generalize vals 6 = u6 at *
    generalize vals 7 = u7 at *
    generalize vals 8 = u8 at *
    generalize vals 9 = u9 at *
    generalize vals 10 = u10 at *
    generalize vals 11 = u11 at *
    generalize vals 12 = u12 at *
    go_wp2_with fail
    (with_reducible refine HX.out.mono ?_)
    rintro e w1 ⟨r, r0, r1, rfl, hg2, ho2⟩
    clear HX
    have HG2 := Lib.hid hg2
    have HO2 := Lib.hid (HO1.out.trans ho2)
    have HW2 := Lib.hid (HW1.out.carry (ho2.block g HW1.out.size_lt hgB))
    clear hg2 ho2 HO1 HW1
    have hsz := HSZ.out
    have hba := HBA.out
    have hgB2 : g ≠ w.heap.size := by omega
    have hwB : w.heap.size ≠ B := by omega
    have HZ2 := Lib.hid (HW.out.carry (HO2.out.block w.heap.size (by omega) hwB))
    have hgb : wS.heap.size ≤ g := by omega
    have HGB := Lib.hid hgb
    clear hsz hba hgb hbg
    obtain ⟨x, y, z⟩ := s
    rcases (by omega : r = 0 ∨ r = 1 ∨ r = 2 ∨ (¬ r = 0 ∧ ¬ r = 1 ∧ ¬ r = 2)) with rfl | rfl | rfl | ⟨n0, n1, n2⟩
    · have HX := Lib.hid (next_any B a len cap (k1 + 1) 2 (w1.alloc (.cells #[.int .i64 0, .int .i64 17] 3)) (by decide) (by decide) (by omega) (HG2.out.alloc _))
      have hlb := HG2.out.lt
      go_wp2_with fail
      (with_reducible refine HX.out.mono ?_)
      rintro e w2 ⟨r, r0, r1, rfl, hg3, ho3⟩
      obtain ⟨n, rfl⟩ := Int.eq_ofNat_of_zero_le r0
      have hn' : (n : Int) < 2 := by omega
      obtain ⟨f, _, hc⟩ := pickN (L := [0, 17]) rfl ho3 hlb (n := n) (by show n < 2; omega)
      have ho4 := (Only.alloc B w1 _).trans ho3
      have hw3 := HW2.out.carry (ho4.block g HW2.out.size_lt hgB)
      have hz3 := HZ2.out.carry (ho4.block w.heap.size HZ2.out.size_lt hwB)
      have hput : Whole (w2.setCell ⟨g, 0, none⟩ (.int .i64 f)) g 24 (spC ⟨f, y, z⟩) := hw3.put 0 (.int .i64 f)
      have HEND := Lib.hid (smp_end (s := ⟨f, y, z⟩) HB0.out (by omega) HO.out (only_put1 (o := 0) (u := .int .i64 f) (HO2.out.trans ho4) HGB.out) (gen_put1 (o := 0) (u := .int .i64 f) hg3 (by have := HGB.out; have := HSZ.out; omega)) (hz3.other (Ne.symm hgB2) 0 (.int .i64 f)))
      have d0 := hw3.free 0
      have j0 := hw3.read 0
      have j1 := hw3.read 1
      have j2 := hw3.read 2
      have q0 := hz3.free 0
      have q1 := hz3.free 1
      have q2 := hz3.free 2
      have p0 := hz3.read 0
      have p1 := hz3.read 1
      have p2 := hz3.read 2
      simp [spC] at j0 j1 j2 p0 p1 p2
      unfold put3 at HEND
      have hne1 : w.heap.size ≠ g := Ne.symm hgB2
      clear HX HG2 HO2 HW2 HZ2 hg3 ho3 ho4 hw3 hz3 hput hlb
      go_wp2
      obtain ⟨⟨hH, hO⟩, hWh⟩ := HEND.out
      clear HEND
      generalize (((w2.setCell ⟨g, 0, none⟩ (.int .i64 f)).setCell ⟨w.heap.size, 0, none⟩ (.int .i64 f)).setCell ⟨w.heap.size, 1, none⟩ (.int .i64 y)).setCell ⟨w.heap.size, 2, none⟩ (.int .i64 z) = wE at *
      have r0 := hWh.read 0
      have r1 := hWh.read 1
      have r2 := hWh.read 2
      simp [spC] at r0 r1 r2
      exact bodyPost_ret (v := aggSp ⟨f, y, z⟩) (by simp [results, Try.results10, go_sem, r0, r1, r2, aggSp]) rfl ⟨_, _, rfl, by omega, hH, hO⟩
    · have HX := Lib.hid (next_any B a len cap (k1 + 1) 2 (w1.alloc (.cells #[.int .i64 (-1), .int .i64 2147483649] 2)) (by decide) (by decide) (by omega) (HG2.out.alloc _))
      have hlb := HG2.out.lt
      go_wp2_with fail
      (with_reducible refine HX.out.mono ?_)
      rintro e w2 ⟨r, r0, r1, rfl, hg3, ho3⟩
      obtain ⟨n, rfl⟩ := Int.eq_ofNat_of_zero_le r0
      have hn' : (n : Int) < 2 := by omega
      obtain ⟨f, _, hc⟩ := pickN (L := [-1, 2147483649]) rfl ho3 hlb (n := n) (by show n < 2; omega)
      have ho4 := (Only.alloc B w1 _).trans ho3
      have hw3 := HW2.out.carry (ho4.block g HW2.out.size_lt hgB)
      have hz3 := HZ2.out.carry (ho4.block w.heap.size HZ2.out.size_lt hwB)
      have hput : Whole (w2.setCell ⟨g, 1, none⟩ (.int .i64 f)) g 24 (spC ⟨x, f, z⟩) := hw3.put 1 (.int .i64 f)
      have HEND := Lib.hid (smp_end (s := ⟨x, f, z⟩) HB0.out (by omega) HO.out (only_put1 (o := 1) (u := .int .i64 f) (HO2.out.trans ho4) HGB.out) (gen_put1 (o := 1) (u := .int .i64 f) hg3 (by have := HGB.out; have := HSZ.out; omega)) (hz3.other (Ne.symm hgB2) 1 (.int .i64 f)))
      have d1 := hw3.free 1
      have j0 := hw3.read 0
      have j1 := hw3.read 1
      have j2 := hw3.read 2
      have q0 := hz3.free 0
      have q1 := hz3.free 1
      have q2 := hz3.free 2
      have p0 := hz3.read 0
      have p1 := hz3.read 1
      have p2 := hz3.read 2
      simp [spC] at j0 j1 j2 p0 p1 p2
      unfold put3 at HEND
      have hne1 : w.heap.size ≠ g := Ne.symm hgB2
      clear HX HG2 HO2 HW2 HZ2 hg3 ho3 ho4 hw3 hz3 hput hlb
      go_wp2
      obtain ⟨⟨hH, hO⟩, hWh⟩ := HEND.out
      clear HEND
      generalize (((w2.setCell ⟨g, 1, none⟩ (.int .i64 f)).setCell ⟨w.heap.size, 0, none⟩ (.int .i64 x)).setCell ⟨w.heap.size, 1, none⟩ (.int .i64 f)).setCell ⟨w.heap.size, 2, none⟩ (.int .i64 z) = wE at *
      have r0 := hWh.read 0
      have r1 := hWh.read 1
      have r2 := hWh.read 2
      simp [spC] at r0 r1 r2
      exact bodyPost_ret (v := aggSp ⟨x, f, z⟩) (by simp [results, Try.results10, go_sem, r0, r1, r2, aggSp]) rfl ⟨_, _, rfl, by omega, hH, hO⟩
    · have HX := Lib.hid (next_any B a len cap (k1 + 1) 2 (w1.alloc (.cells #[.int .i64 (-1), .int .i64 4097] 3)) (by decide) (by decide) (by omega) (HG2.out.alloc _))
      have hlb := HG2.out.lt
      go_wp2_with fail
      (with_reducible refine HX.out.mono ?_)
      rintro e w2 ⟨r, r0, r1, rfl, hg3, ho3⟩
      obtain ⟨n, rfl⟩ := Int.eq_ofNat_of_zero_le r0
      have hn' : (n : Int) < 2 := by omega
      obtain ⟨f, _, hc⟩ := pickN (L := [-1, 4097]) rfl ho3 hlb (n := n) (by show n < 2; omega)
      have ho4 := (Only.alloc B w1 _).trans ho3
      have hw3 := HW2.out.carry (ho4.block g HW2.out.size_lt hgB)
      have hz3 := HZ2.out.carry (ho4.block w.heap.size HZ2.out.size_lt hwB)
      have hput : Whole (w2.setCell ⟨g, 2, none⟩ (.int .i64 f)) g 24 (spC ⟨x, y, f⟩) := hw3.put 2 (.int .i64 f)
      have HEND := Lib.hid (smp_end (s := ⟨x, y, f⟩) HB0.out (by omega) HO.out (only_put1 (o := 2) (u := .int .i64 f) (HO2.out.trans ho4) HGB.out) (gen_put1 (o := 2) (u := .int .i64 f) hg3 (by have := HGB.out; have := HSZ.out; omega)) (hz3.other (Ne.symm hgB2) 2 (.int .i64 f)))
      have d2 := hw3.free 2
      have j0 := hw3.read 0
      have j1 := hw3.read 1
      have j2 := hw3.read 2
      have q0 := hz3.free 0
      have q1 := hz3.free 1
      have q2 := hz3.free 2
      have p0 := hz3.read 0
      have p1 := hz3.read 1
      have p2 := hz3.read 2
      simp [spC] at j0 j1 j2 p0 p1 p2
      unfold put3 at HEND
      have hne1 : w.heap.size ≠ g := Ne.symm hgB2
      clear HX HG2 HO2 HW2 HZ2 hg3 ho3 ho4 hw3 hz3 hput hlb
      go_wp2
      obtain ⟨⟨hH, hO⟩, hWh⟩ := HEND.out
      clear HEND
      generalize (((w2.setCell ⟨g, 2, none⟩ (.int .i64 f)).setCell ⟨w.heap.size, 0, none⟩ (.int .i64 x)).setCell ⟨w.heap.size, 1, none⟩ (.int .i64 y)).setCell ⟨w.heap.size, 2, none⟩ (.int .i64 f) = wE at *
      have r0 := hWh.read 0
      have r1 := hWh.read 1
      have r2 := hWh.read 2
      simp [spC] at r0 r1 r2
      exact bodyPost_ret (v := aggSp ⟨x, y, f⟩) (by simp [results, Try.results10, go_sem, r0, r1, r2, aggSp]) rfl ⟨_, _, rfl, by omega, hH, hO⟩
    · have HEND := Lib.hid (smp_end (s := ⟨x, y, z⟩) HB0.out (by omega) HO.out HO2.out HG2.out HZ2.out)
      have j0 := HW2.out.read 0
      have j1 := HW2.out.read 1
      have j2 := HW2.out.read 2
      have q0 := HZ2.out.free 0
      have q1 := HZ2.out.free 1
      have q2 := HZ2.out.free 2
      have p0 := HZ2.out.read 0
      have p1 := HZ2.out.read 1
      have p2 := HZ2.out.read 2
      simp [spC] at j0 j1 j2 p0 p1 p2
      unfold put3 at HEND
      clear HG2 HO2 HW2 HZ2
      go_wp2
      obtain ⟨⟨hH, hO⟩, hWh⟩ := HEND.out
      clear HEND
      generalize (((w1).setCell ⟨w.heap.size, 0, none⟩ (.int .i64 x)).setCell ⟨w.heap.size, 1, none⟩ (.int .i64 y)).setCell ⟨w.heap.size, 2, none⟩ (.int .i64 z) = wE at *
      have r0 := hWh.read 0
      have r1 := hWh.read 1
      have r2 := hWh.read 2
      simp [spC] at r0 r1 r2
      exact bodyPost_ret (v := aggSp ⟨x, y, z⟩) (by simp [results, Try.results10, go_sem, r0, r1, r2, aggSp]) rfl ⟨_, _, rfl, by omega, hH, hO⟩
end Go.Proofs.Ytcdeecigiijabaa

