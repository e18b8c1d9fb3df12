/-
  Layer 20: the generator's Caps. Written by gen_aggen.py.
-/
import Derived.Test.YtcnpmbgeafkmlaaAgPlain
import Derived.Test.YtcnpmbgeafkmlaaIntL
import Derived.Test.YtcnpmbgeafkmlaaLenGen
import Derived.Test.YtcnpmbgeafkmlaaLoose
namespace Go.Proofs.Ytcnpmbgeafkmlaa
open Go.ChangeShapes Go.WideShapes Go.ChangeAt Go.RowKit
set_option linter.unusedVariables false

/-- A row of n numbers between lo and hi in a block of its own. -/
def RwC (B H : Nat) (t : TypeId) (lo hi : Int) (n : Nat) (v : Value) (w : World) : Prop := ∃ (L : List Int) (g : Nat), L.length = n ∧ (∀ x ∈ L, lo ≤ x ∧ x ≤ hi) ∧ g ≠ B ∧ g ≠ H ∧ v = .slice (some ⟨g, 0, none⟩) n n ∧ Whole w g t (L.map (Value.int .i64)).toArray
/-- The address of a number in such a row. -/
def PtC (B H : Nat) (t : TypeId) (lo hi : Int) (v : Value) (w : World) : Prop := ∃ (L : List Int) (g i : Nat), i < L.length ∧ (∀ x ∈ L, lo ≤ x ∧ x ≤ hi) ∧ g ≠ B ∧ g ≠ H ∧ v = .pointer (some ⟨g, i, none⟩) ∧ Whole w g t (L.map (Value.int .i64)).toArray
/-- Valid caps lie in block H. -/
def CpW (H : Nat) (w : World) : Prop := ∃ p b t, agV p b t = true ∧ Whole w H 24 #[.int .i64 p, .int .i64 b, .int .i64 t]
/-- What an operation may do: blocks but B and H stay; H stays or holds valid caps. -/
def CpR (B H : Nat) (w w' : World) : Prop := w.heap.size ≤ w'.heap.size ∧ (∀ b, b < w.heap.size → b ≠ B → b ≠ H → w'.heap[b]? = w.heap[b]?) ∧ ((H < w.heap.size → H ≠ B → w'.heap[H]? = w.heap[H]?) ∨ CpW H w')
def CpC (B : Nat) (a : Option Addr) (len cap K : Nat) (w0 : World) (H fu : Nat) (w : World) : Prop := ∃ k, k + fu ≤ K ∧ Gen B a len cap k w ∧ Only B w0 w ∧ ∃ p b t, Whole w H 24 #[.int .i64 p, .int .i64 b, .int .i64 t]
def CpV (B H : Nat) (i : Nat) (v : Value) (w : World) : Prop :=
  match i with
  | 0 => RwC B H 3 1 32 4 v w
  | 1 => v = .pointer (some ⟨B, 0, none⟩)
  | 2 => InV 0 3 v
  | 3 => PtC B H 3 1 32 v w
  | 4 => InV 1 32 v
  | 5 => RwC B H 3 1 262144 4 v w
  | 6 => v = .pointer (some ⟨B, 0, none⟩)
  | 7 => InV 0 3 v
  | 8 => PtC B H 3 1 262144 v w
  | 9 => InV 1 262144 v
  | 10 => RwC B H 2 1 1048576 4 v w
  | 11 => v = .pointer (some ⟨B, 0, none⟩)
  | 12 => InV 0 3 v
  | 13 => PtC B H 2 1 1048576 v w
  | 14 => InV 1 1048576 v
  | 15 => ∃ p b t, v = .agg #[.int .i64 p, .int .i64 b, .int .i64 t] ∧ agV p b t = true
  | 16 => CpW H w
  | _ => True
section
variable {B H : Nat} {w w' : World} {v : Value} {t : TypeId}
theorem whole_atC {L : List Int} {g i : Nat} (hw : Whole w g t (L.map (Value.int .i64)).toArray) (hi : i < L.length) : w.cell? ⟨g, i, none⟩ = some (.int .i64 L[i]) := by
  rw [hw.read, List.getElem?_toArray, List.getElem?_map, List.getElem?_eq_getElem hi]; rfl
theorem CpR.refl (B H : Nat) (w : World) : CpR B H w w := ⟨Nat.le_refl _, fun _ _ _ _ => rfl, .inl fun _ _ => rfl⟩
theorem CpR.only (h : Only B w w') : CpR B H w w' := ⟨h.size, fun b hb hn _ => h.block b hb hn, .inl fun h1 h2 => h.block H h1 h2⟩
theorem CpR.row (h : CpR B H w w') {n : Nat} {lo hi : Int} (hv : RwC B H t lo hi n v w) : RwC B H t lo hi n v w' := by
  obtain ⟨L, g, h1, h2, h3, h4, h5, h6⟩ := hv
  exact ⟨L, g, h1, h2, h3, h4, h5, h6.carry (h.2.1 g h6.size_lt h3 h4)⟩
theorem CpR.ptr (h : CpR B H w w') {lo hi : Int} (hv : PtC B H t lo hi v w) : PtC B H t lo hi v w' := by
  obtain ⟨L, g, i, h1, h2, h3, h4, h5, h6⟩ := hv
  exact ⟨L, g, i, h1, h2, h3, h4, h5, h6.carry (h.2.1 g h6.size_lt h3 h4)⟩
theorem CpR.cap (h : CpR B H w w') (hB : H ≠ B) (hv : CpW H w) : CpW H w' := by
  obtain ⟨p, b, t, h1, h2⟩ := hv
  rcases h.2.2 with e | e
  · exact ⟨p, b, t, h1, h2.carry (e h2.size_lt hB)⟩
  · exact e
theorem CpV.keep (hB : H ≠ B) (i : Nat) (v : Value) (w w' : World) (h : CpR B H w w') (hv : CpV B H i v w) : CpV B H i v w' := by
  unfold CpV at *
  split at hv <;> first | exact hv | exact h.row hv | exact h.ptr hv | exact h.cap hB hv | trivial
theorem RwC.new (hB : B < w.heap.size) (hH : H < w.heap.size) (L : List Int) {n : Nat} {lo hi : Int} (hL : L.length = n) (hb : ∀ x ∈ L, lo ≤ x ∧ x ≤ hi) {cs : Array Value} (hcs : cs = (L.map (Value.int .i64)).toArray) (t : TypeId) : RwC B H t lo hi n (.slice (some ⟨w.heap.size, 0, none⟩) n n) (w.alloc (.cells cs t)) := by
  subst hcs
  exact ⟨L, w.heap.size, hL, hb, by omega, by omega, rfl, Whole.fresh w t _⟩
/-- Three values stored. -/
def putC (w : World) (g : Nat) (x b m : Int) : World := ((w.setCell ⟨g, 0, none⟩ (.int .i64 x)).setCell ⟨g, 1, none⟩ (.int .i64 b)).setCell ⟨g, 2, none⟩ (.int .i64 m)
theorem Whole.putC {g : Nat} {p b m : Value} (h : Whole w g t #[p, b, m]) (x y z : Int) : Whole (putC w g x y z) g t #[.int .i64 x, .int .i64 y, .int .i64 z] := ((h.put 0 (.int .i64 x)).put 1 (.int .i64 y)).put 2 (.int .i64 z)
theorem putC_far {g k : Nat} {x b m : Int} (hn : k ≠ g) : (putC w g x b m).heap[k]? = w.heap[k]? := by
  unfold Go.Proofs.Ytcnpmbgeafkmlaa.putC
  rw [Below.heap_setCell _ _ _ _ hn, Below.heap_setCell _ _ _ _ hn, Below.heap_setCell _ _ _ _ hn]
theorem putC_size {g : Nat} {x b m : Int} : (putC w g x b m).heap.size = w.heap.size := by simp [Go.Proofs.Ytcnpmbgeafkmlaa.putC, World.setCell]
theorem putC_below {g C : Nat} {x b m : Int} (h : C ≤ g) : Below C w (putC w g x b m) :=
  ((((Below.refl C w).setCell (p := ⟨g, 0, none⟩) h _).setCell (p := ⟨g, 1, none⟩) h _).setCell (p := ⟨g, 2, none⟩) h _)
theorem only_putC {wS : World} {g : Nat} {x b m : Int} (ho : Only B wS w) (hg : wS.heap.size ≤ g) : Only B wS (putC w g x b m) := by
  have hb := putC_below (w := w) (g := g) (x := x) (b := b) (m := m) hg
  exact ⟨hb.os.trans ho.os, hb.tape.trans ho.tape, hb.output.trans ho.output, by rw [putC_size]; exact ho.size, fun j hj hn => (putC_far (by omega)).trans (ho.block j hj hn)⟩
variable {a : Option Addr} {len cap K fu k : Nat} {w0 : World}
theorem gen_putC {g : Nat} {x b m : Int} (h : Gen B a len cap k w) (hg : B < g) : Gen B a len cap k (putC w g x b m) := h.kept (putC_below (by omega))
theorem CpC.lt (h : CpC B a len cap K w0 H fu w) : B < w.heap.size ∧ H < w.heap.size := by
  obtain ⟨k, _, hg, _, _, _, _, hw⟩ := h
  exact ⟨hg.lt, hw.size_lt⟩
theorem CpC.step (h : CpC B a len cap K w0 H (fu + 1) w) : CpC B a len cap K w0 H fu w := by
  obtain ⟨k, hk, h1⟩ := h; exact ⟨k, by omega, h1⟩
theorem CpC.call (h : CpC B a len cap K w0 H (fu + 1) w) (hB : H ≠ B) (hk : k + 1 + fu ≤ K) (hg : Gen B a len cap (k + 1) w') (ho : Only B w w') : CpC B a len cap K w0 H fu w' := by
  obtain ⟨_, _, _, h2, p, b, t, h3⟩ := h; exact ⟨k + 1, hk, hg, h2.trans ho, p, b, t, h3.carry (ho.block H h3.size_lt hB)⟩
theorem CpC.alloc (h : CpC B a len cap K w0 H (fu + 1) w) (o : Obj) : CpC B a len cap K w0 H fu (w.alloc o) := by
  obtain ⟨k, hk, hg, h2, p, b, t, h3⟩ := h; exact ⟨k, by omega, hg.alloc o, h2.trans (Only.alloc B w o), p, b, t, h3.alloc o⟩
theorem CpC.store (h : CpC B a len cap K w0 H (fu + 1) w) (hB : H ≠ B) (hH : w0.heap.size ≤ H ∧ B < H) {x y z : Int} (hv : agV x y z = true) : CpC B a len cap K w0 H fu (putC w H x y z) ∧ CpR B H w (putC w H x y z) ∧ CpW H (putC w H x y z) := by
  obtain ⟨k, hk, hg, h2, p, b, t, h3⟩ := h
  have hw := h3.putC x y z
  refine ⟨⟨k, by omega, gen_putC hg hH.2, only_putC h2 hH.1, x, y, z, hw⟩, ⟨by rw [putC_size]; exact Nat.le_refl _, fun b _ _ hn => putC_far hn, .inr ⟨x, y, z, hv, hw⟩⟩, x, y, z, hv, hw⟩
end
abbrev Cp := Int × Int × Int
def aggC (x : Cp) : Value := .agg #[.int .i64 x.1, .int .i64 x.2.1, .int .i64 x.2.2]
/-- What drawn caps answer. -/
def GaveC (ok : Cp → Prop) (m : Nat) (B : Nat) (a : Option Addr) (len cap k : Nat) (w : World) (e : Ending) (w' : World) : Prop :=
  ∃ (x : Cp) (k' : Nat), ok x ∧ e = .returned (aggC x) ∧ k' ≤ k + m ∧ Gen B a len cap k' w' ∧ Only B w w'
set_option maxRecDepth 100000 in
set_option maxHeartbeats 8000000 in
theorem gcaps_any (B : Nat) (a : Option Addr) (len cap k : Nat) (w : World) (hg : Gen B a len cap k w) (hk : k ≤ 100000000) :
    Calls Try.prog 17 #[.pointer (some ⟨B, 0, none⟩)] w (GaveC (fun x => agV x.1 x.2.1 x.2.2 = true) 17 B a len cap k w) := by
  have hBw := hg.lt
  obtain ⟨H, hH⟩ : ∃ H, w.heap.size = H := ⟨_, rfl⟩
  have HBH := Lib.hid (show H ≠ B by omega)
  have HH := Lib.hid (show w.heap.size ≤ H ∧ B < H by omega)
  have HC0 := Lib.hid (show CpC B a len cap (k + 17) w H 17 (w.alloc (.cells #[.int .i64 0, .int .i64 0, .int .i64 0] 24)).drew from ⟨k, by omega, (hg.alloc _).drew, (Only.alloc B w _).drew, 0, 0, 0, by rw [← hH]; exact Whole.fresh w _ _⟩)
  have HHW := Lib.hid hH
  clear hg hH
  go_enter Try.func17, Try.ntmps17
  go_wp2_with fail
  rw [HHW.out]
  refine wp_region_loose 19 (by kernel_rfl) (by kernel_rfl) (CpC B a len cap (k + 17) w H) (CpR B H) (CpV B H) rfl (fun i v w w' h hv => CpV.keep HBH.out i v w w' h hv) HC0.out ?_ ?_
  · simp only [OblAll]
    refine ⟨?_, ?_, ?_, ?_, ?_, ?_, ?_, ?_, ?_, ?_, ?_, ?_, ?_, ?_, ?_, ?_, ?_, trivial⟩
    all_goals
      intro fu wx vals hC hp
      simp [predL, predE, Region.binds, PreV, CpV] at hp
      simp only [fillA, if_true, Act.put]
      simp
      have HC := Lib.hid hC
    · have hlt := hC.lt
      clear hp
      go_wp2
      exact ⟨rfl, HC.out.alloc _, CpR.only (Only.alloc B wx _), RwC.new hlt.1 hlt.2 [1, 2, 4, 32] rfl (by decide) rfl _⟩
    · clear hp
      go_wp2
      exact ⟨rfl, HC.out.step, CpR.refl _ _ _, rfl⟩
    · simp only [hp]
      clear hp
      obtain ⟨kk, hkk, hg', _⟩ := hC
      have HX := Lib.hid (next_any B a len cap kk 4 wx (by decide) (by decide) (by omega) hg')
      clear hg'
      go_wp2_with fail
      (with_reducible refine HX.out.mono ?_)
      rintro e w' ⟨r, r0, r1, rfl, hg2, ho⟩
      have HF := Lib.hid (And.intro (HC.out.call HBH.out (by omega) hg2 ho) (CpR.only (H := H) ho))
      have HZ := Lib.hid (show 0 ≤ r ∧ r ≤ 3 by omega)
      clear hg2 ho HX
      go_wp2
      exact ⟨rfl, HF.out.1, HF.out.2, r, HZ.out, rfl⟩
    · obtain ⟨⟨L, g, hL, hb, g1, g2, e1, hw⟩, r, hr, e3⟩ := hp
      obtain ⟨m, rfl⟩ := Int.eq_ofNat_of_zero_le hr.1
      have hn' : m ≤ 3 := by omega
      have HX := Lib.hid (show PtC B H _ _ _ (.pointer (some ⟨g, m, none⟩)) wx from ⟨L, g, m, by omega, hb, g1, g2, rfl, hw⟩)
      simp only [e1, e3]
      clear e1 e3 hC hw hr hL
      go_wp2
      exact ⟨rfl, HC.out.step, CpR.refl _ _ _, HX.out⟩
    · obtain ⟨L, g, i, hi, hb, g1, g2, e1, hw⟩ := hp
      have hc := whole_atC hw hi
      have hz := hb _ (List.getElem_mem hi)
      generalize L[i] = z at *
      have HZ := Lib.hid hz
      simp only [e1]
      clear e1 hC hw hi hz
      go_wp2
      exact ⟨rfl, HC.out.step, CpR.refl _ _ _, z, HZ.out, rfl⟩
    · have hlt := hC.lt
      clear hp
      go_wp2
      exact ⟨rfl, HC.out.alloc _, CpR.only (Only.alloc B wx _), RwC.new hlt.1 hlt.2 [1, 350, 5000, 262144] rfl (by decide) rfl _⟩
    · clear hp
      go_wp2
      exact ⟨rfl, HC.out.step, CpR.refl _ _ _, rfl⟩
    · simp only [hp]
      clear hp
      obtain ⟨kk, hkk, hg', _⟩ := hC
      have HX := Lib.hid (next_any B a len cap kk 4 wx (by decide) (by decide) (by omega) hg')
      clear hg'
      go_wp2_with fail
      (with_reducible refine HX.out.mono ?_)
      rintro e w' ⟨r, r0, r1, rfl, hg2, ho⟩
      have HF := Lib.hid (And.intro (HC.out.call HBH.out (by omega) hg2 ho) (CpR.only (H := H) ho))
      have HZ := Lib.hid (show 0 ≤ r ∧ r ≤ 3 by omega)
      clear hg2 ho HX
      go_wp2
      exact ⟨rfl, HF.out.1, HF.out.2, r, HZ.out, rfl⟩
    · obtain ⟨⟨L, g, hL, hb, g1, g2, e1, hw⟩, r, hr, e3⟩ := hp
      obtain ⟨m, rfl⟩ := Int.eq_ofNat_of_zero_le hr.1
      have hn' : m ≤ 3 := by omega
      have HX := Lib.hid (show PtC B H _ _ _ (.pointer (some ⟨g, m, none⟩)) wx from ⟨L, g, m, by omega, hb, g1, g2, rfl, hw⟩)
      simp only [e1, e3]
      clear e1 e3 hC hw hr hL
      go_wp2
      exact ⟨rfl, HC.out.step, CpR.refl _ _ _, HX.out⟩
    · obtain ⟨L, g, i, hi, hb, g1, g2, e1, hw⟩ := hp
      have hc := whole_atC hw hi
      have hz := hb _ (List.getElem_mem hi)
      generalize L[i] = z at *
      have HZ := Lib.hid hz
      simp only [e1]
      clear e1 hC hw hi hz
      go_wp2
      exact ⟨rfl, HC.out.step, CpR.refl _ _ _, z, HZ.out, rfl⟩
    · have hlt := hC.lt
      clear hp
      go_wp2
      exact ⟨rfl, HC.out.alloc _, CpR.only (Only.alloc B wx _), RwC.new hlt.1 hlt.2 [1, 400, 4000, 1048576] rfl (by decide) rfl _⟩
    · clear hp
      go_wp2
      exact ⟨rfl, HC.out.step, CpR.refl _ _ _, rfl⟩
    · simp only [hp]
      clear hp
      obtain ⟨kk, hkk, hg', _⟩ := hC
      have HX := Lib.hid (next_any B a len cap kk 4 wx (by decide) (by decide) (by omega) hg')
      clear hg'
      go_wp2_with fail
      (with_reducible refine HX.out.mono ?_)
      rintro e w' ⟨r, r0, r1, rfl, hg2, ho⟩
      have HF := Lib.hid (And.intro (HC.out.call HBH.out (by omega) hg2 ho) (CpR.only (H := H) ho))
      have HZ := Lib.hid (show 0 ≤ r ∧ r ≤ 3 by omega)
      clear hg2 ho HX
      go_wp2
      exact ⟨rfl, HF.out.1, HF.out.2, r, HZ.out, rfl⟩
    · obtain ⟨⟨L, g, hL, hb, g1, g2, e1, hw⟩, r, hr, e3⟩ := hp
      obtain ⟨m, rfl⟩ := Int.eq_ofNat_of_zero_le hr.1
      have hn' : m ≤ 3 := by omega
      have HX := Lib.hid (show PtC B H _ _ _ (.pointer (some ⟨g, m, none⟩)) wx from ⟨L, g, m, by omega, hb, g1, g2, rfl, hw⟩)
      simp only [e1, e3]
      clear e1 e3 hC hw hr hL
      go_wp2
      exact ⟨rfl, HC.out.step, CpR.refl _ _ _, HX.out⟩
    · obtain ⟨L, g, i, hi, hb, g1, g2, e1, hw⟩ := hp
      have hc := whole_atC hw hi
      have hz := hb _ (List.getElem_mem hi)
      generalize L[i] = z at *
      have HZ := Lib.hid hz
      simp only [e1]
      clear e1 hC hw hi hz
      go_wp2
      exact ⟨rfl, HC.out.step, CpR.refl _ _ _, z, HZ.out, rfl⟩
    · obtain ⟨⟨x, hx, e1⟩, ⟨y, hy, e2⟩, ⟨z, hz, e3⟩⟩ := hp
      have HV := Lib.hid (show agV x y z = true from decide_eq_true ⟨hx.1, hx.2, hy.1, hy.2, hz.1, hz.2⟩)
      simp only [e1, e2, e3]
      clear e1 e2 e3 hC
      go_wp2
      exact ⟨rfl, HC.out.step, CpR.refl _ _ _, x, y, z, rfl, HV.out⟩
    · obtain ⟨⟨x, y, z, e1, hv⟩, _⟩ := hp
      obtain ⟨k', hk', hg', ho', p0, b0, t0, hw⟩ := hC
      have d0 := hw.read 0
      have d1 := hw.read 1
      have d2 := hw.read 2
      have z0 := hw.free 0
      have z1 := hw.free 1
      have z2 := hw.free 2
      simp at d0 d1 d2
      have HS := Lib.hid (HC.out.store HBH.out HH.out hv)
      unfold putC at HS
      simp only [e1]
      clear e1 hw hg' ho'
      go_wp2
      exact ⟨rfl, HS.out.1, HS.out.2.1, HS.out.2.2⟩
  · intro wz vals hC hV
    have e16 := hV 16 (by simp)
    simp only [CpV] at e16
    obtain ⟨x, y, z, hv, hw⟩ := e16
    obtain ⟨k1, hk1, hg1, ho1, _⟩ := hC
    have HF := Lib.hid (show GaveC (fun x => agV x.1 x.2.1 x.2.2 = true) 17 B a len cap k w (.returned (aggC (x, y, z))) wz from ⟨(x, y, z), k1, hv, rfl, by omega, hg1, ho1⟩)
    have d0 := hw.read 0
    have d1 := hw.read 1
    have d2 := hw.read 2
    simp at d0 d1 d2
    simp only [fillA, if_true, Act.put]
    simp
    clear hV hg1 ho1 hw HC0
    go_wp2
    exact bodyPost_ret (v := aggC (x, y, z)) (by simp [results, Try.results17, go_sem, d0, d1, d2, aggC]) rfl HF.out
/-! ### the law's caps -/
def CpF (x : Cp) : Prop := (0 ≤ x.1 ∧ x.1 ≤ 33) ∧ (0 ≤ x.2.1 ∧ x.2.1 ≤ 262145) ∧ 0 ≤ x.2.2 ∧ x.2.2 ≤ 1048577
theorem CpF.of {p b t : Int} (h : agV p b t = true) : CpF (p, b, t) := by have := agV_cases h; unfold CpF; simp only; omega
section
variable {B g o : Nat} {a : Option Addr} {len cap k K : Nat} {w w0 wS wP : World} {u : Value}
theorem only_put1C (ho : Only B wS w) (hg : wS.heap.size ≤ g) : Only B wS (w.setCell ⟨g, o, none⟩ u) := by
  have hb := (Below.refl wS.heap.size w).setCell (p := ⟨g, o, none⟩) hg u
  exact ⟨hb.os.trans ho.os, hb.tape.trans ho.tape, hb.output.trans ho.output, by have := ho.size; simpa [World.setCell] using this, fun j hj hn => (hb.block j hj).trans (ho.block j hj hn)⟩
theorem gen_put1C (h : Gen B a len cap k w) (hg : B < g) : Gen B a len cap k (w.setCell ⟨g, o, none⟩ u) := h.kept ((Below.refl _ w).setCell (p := ⟨g, o, none⟩) (by show B + 1 ≤ g; omega) u)
theorem lcaps_end {x : Cp} (hk : k ≤ K + 19) (hBw : B < w.heap.size) (hz : Whole wP w.heap.size 24 #[.int .i64 0, .int .i64 0, .int .i64 0]) (ho : Only B w wP) (hg : Gen B a len cap k wP) (hx : CpF x) :
    GaveC CpF 19 B a len cap K w (.returned (aggC x)) (putC wP w.heap.size x.1 x.2.1 x.2.2) ∧ Whole (putC wP w.heap.size x.1 x.2.1 x.2.2) w.heap.size 24 #[.int .i64 x.1, .int .i64 x.2.1, .int .i64 x.2.2] :=
  ⟨⟨x, k, hx, rfl, hk, gen_putC hg hBw, only_putC ho (Nat.le_refl _)⟩, hz.putC x.1 x.2.1 x.2.2⟩
end
set_option maxRecDepth 100000 in
set_option maxHeartbeats 8000000 in
theorem lcaps_any (B : Nat) (a : Option Addr) (len cap k : Nat) (w : World) (hg : Gen B a len cap k w) (hk : k ≤ 10000000) :
    Calls Try.prog 8 #[.pointer (some ⟨B, 0, none⟩)] w (GaveC CpF 19 B a len cap k w) := by
  have hBw := hg.lt
  have HW := Lib.hid (Whole.fresh w 24 #[.int .i64 0, .int .i64 0, .int .i64 0])
  have HR := Lib.hid (gcaps_any B a len cap k (w.alloc (.cells #[.int .i64 0, .int .i64 0, .int .i64 0] 24)) (hg.alloc _) (by omega))
  clear hg
  go_enter Try.func8, Try.ntmps8
  go_wp2_with fail
  (with_reducible refine HR.out.mono ?_); rintro e w1 ⟨⟨x, y, z⟩, k1, hv, rfl, hk1, hg1, ho1⟩
  simp only at hv
  unfold aggC
  have hz1 := HW.out.carry (ho1.block _ HW.out.size_lt (by omega))
  have hs1 := hz1.size_lt
  obtain ⟨g, hgq⟩ : ∃ g, w1.heap.size = g := ⟨_, rfl⟩
  have hgg : w.heap.size < g := by omega
  have hO1 : Only B w w1 := (Only.alloc B w _).trans ho1
  obtain ⟨w2, hw2⟩ : ∃ w2, w1.alloc (.cells #[.int .i64 x, .int .i64 y, .int .i64 z] 24) = w2 := ⟨_, rfl⟩
  have hp2 : Whole w2 g 24 #[.int .i64 x, .int .i64 y, .int .i64 z] := by rw [← hw2, ← hgq]; exact Whole.fresh w1 _ _
  have hz2 : Whole w2 w.heap.size 24 #[.int .i64 0, .int .i64 0, .int .i64 0] := hw2 ▸ hz1.alloc _
  have hg2 : Gen B a len cap k1 w2 := hw2 ▸ hg1.alloc _
  have hO2 : Only B w w2 := hw2 ▸ hO1.trans (Only.alloc B w1 _)
  have HV := Lib.hid (CpF.of hv)
  have HN := Lib.hid (next_any B a len cap k1 18 _ (by decide) (by decide) (by omega) hg2)
  have H2 := Lib.hid (And.intro hp2 (And.intro hz2 hO2))
  clear hp2 hz2 hO2 hg2 hO1 hz1 ho1 hg1 hv HR HW
  go_wp2_with fail
  (with_reducible refine HN.out.mono ?_); rintro e w3 ⟨r, r0, r1, rfl, hg3, ho3⟩
  obtain ⟨hp2, hz2, hO2⟩ := H2.out
  have HP := Lib.hid (hp2.carry (ho3.block g hp2.size_lt (by omega)))
  have HZ := Lib.hid (hz2.carry (ho3.block w.heap.size hz2.size_lt (by omega)))
  have HO := Lib.hid (hO2.trans ho3)
  have HG := Lib.hid hg3
  clear hp2 hz2 hO2 H2 HN hw2 hg3 ho3 hgq hs1
  rcases (by omega : r = 0 ∨ r = 1 ∨ r = 2 ∨ (¬ r = 0 ∧ ¬ r = 1 ∧ ¬ r = 2)) with rfl | rfl | rfl | ⟨n0, n1, n2⟩
  · have HX := Lib.hid (next_any B a len cap (k1 + 1) 2 (w3.alloc (.cells #[.int .i64 0, .int .i64 33] 3)) (by decide) (by decide) (by omega) (HG.out.alloc _))
    have hlb := HG.out.lt
    go_wp2_with fail
    (with_reducible refine HX.out.mono ?_)
    rintro e w4 ⟨r, r0, r1, rfl, hg4, ho4⟩
    obtain ⟨n, rfl⟩ := Int.eq_ofNat_of_zero_le r0
    have hn' : (n : Int) < 2 := by omega
    obtain ⟨f, hf, hc⟩ := pickN (L := [0, 33]) rfl ho4 hlb (n := n) (by show n < 2; omega)
    have hf2 : CpF (f, y, z) := by
      simp only [List.mem_cons, List.not_mem_nil, or_false] at hf
      have h9 := HV.out
      unfold CpF at h9 ⊢
      simp only at h9 ⊢
      omega
    have ho5 := (Only.alloc B w3 _).trans ho4
    have hp4 := HP.out.carry (ho5.block g HP.out.size_lt (by omega))
    have hz4 := HZ.out.carry (ho5.block w.heap.size HZ.out.size_lt (by omega))
    have hput : Whole (w4.setCell ⟨g, 0, none⟩ (.int .i64 f)) g 24 #[.int .i64 f, .int .i64 y, .int .i64 z] := hp4.put 0 (.int .i64 f)
    have HEND := Lib.hid (lcaps_end (K := k) (x := (f, y, z)) (by omega) hBw (hz4.other (g' := g) (by omega) 0 (.int .i64 f)) (only_put1C (o := 0) (u := .int .i64 f) (HO.out.trans ho5) (by omega)) (gen_put1C (o := 0) (u := .int .i64 f) hg4 (by omega)) hf2)
    have d0 := hp4.free 0
    have j0 := hp4.read 0
    have j1 := hp4.read 1
    have j2 := hp4.read 2
    have q0 := hz4.free 0
    have q1 := hz4.free 1
    have q2 := hz4.free 2
    have p0 := hz4.read 0
    have p1 := hz4.read 1
    have p2 := hz4.read 2
    simp at j0 j1 j2 p0 p1 p2
    unfold putC at HEND
    simp only at HEND
    have hne1 : w.heap.size ≠ g := by omega
    clear HX HG HO HP HZ hg4 ho4 ho5 hp4 hz4 hput hlb hf hf2 HV
    go_wp2
    obtain ⟨hGV, hWh⟩ := HEND.out
    clear HEND
    generalize (((w4.setCell ⟨g, 0, none⟩ (.int .i64 f)).setCell ⟨w.heap.size, 0, none⟩ (.int .i64 f)).setCell ⟨w.heap.size, 1, none⟩ (.int .i64 y)).setCell ⟨w.heap.size, 2, none⟩ (.int .i64 z) = wE at *
    have r0 := hWh.read 0
    have r1 := hWh.read 1
    have r2 := hWh.read 2
    simp at r0 r1 r2
    exact bodyPost_ret (v := aggC (f, y, z)) (by simp [results, Try.results8, go_sem, r0, r1, r2, aggC]) rfl hGV
  · have HX := Lib.hid (next_any B a len cap (k1 + 1) 2 (w3.alloc (.cells #[.int .i64 0, .int .i64 262145] 3)) (by decide) (by decide) (by omega) (HG.out.alloc _))
    have hlb := HG.out.lt
    go_wp2_with fail
    (with_reducible refine HX.out.mono ?_)
    rintro e w4 ⟨r, r0, r1, rfl, hg4, ho4⟩
    obtain ⟨n, rfl⟩ := Int.eq_ofNat_of_zero_le r0
    have hn' : (n : Int) < 2 := by omega
    obtain ⟨f, hf, hc⟩ := pickN (L := [0, 262145]) rfl ho4 hlb (n := n) (by show n < 2; omega)
    have hf2 : CpF (x, f, z) := by
      simp only [List.mem_cons, List.not_mem_nil, or_false] at hf
      have h9 := HV.out
      unfold CpF at h9 ⊢
      simp only at h9 ⊢
      omega
    have ho5 := (Only.alloc B w3 _).trans ho4
    have hp4 := HP.out.carry (ho5.block g HP.out.size_lt (by omega))
    have hz4 := HZ.out.carry (ho5.block w.heap.size HZ.out.size_lt (by omega))
    have hput : Whole (w4.setCell ⟨g, 1, none⟩ (.int .i64 f)) g 24 #[.int .i64 x, .int .i64 f, .int .i64 z] := hp4.put 1 (.int .i64 f)
    have HEND := Lib.hid (lcaps_end (K := k) (x := (x, f, z)) (by omega) hBw (hz4.other (g' := g) (by omega) 1 (.int .i64 f)) (only_put1C (o := 1) (u := .int .i64 f) (HO.out.trans ho5) (by omega)) (gen_put1C (o := 1) (u := .int .i64 f) hg4 (by omega)) hf2)
    have d0 := hp4.free 1
    have j0 := hp4.read 0
    have j1 := hp4.read 1
    have j2 := hp4.read 2
    have q0 := hz4.free 0
    have q1 := hz4.free 1
    have q2 := hz4.free 2
    have p0 := hz4.read 0
    have p1 := hz4.read 1
    have p2 := hz4.read 2
    simp at j0 j1 j2 p0 p1 p2
    unfold putC at HEND
    simp only at HEND
    have hne1 : w.heap.size ≠ g := by omega
    clear HX HG HO HP HZ hg4 ho4 ho5 hp4 hz4 hput hlb hf hf2 HV
    go_wp2
    obtain ⟨hGV, hWh⟩ := HEND.out
    clear HEND
    generalize (((w4.setCell ⟨g, 1, none⟩ (.int .i64 f)).setCell ⟨w.heap.size, 0, none⟩ (.int .i64 x)).setCell ⟨w.heap.size, 1, none⟩ (.int .i64 f)).setCell ⟨w.heap.size, 2, none⟩ (.int .i64 z) = wE at *
    have r0 := hWh.read 0
    have r1 := hWh.read 1
    have r2 := hWh.read 2
    simp at r0 r1 r2
    exact bodyPost_ret (v := aggC (x, f, z)) (by simp [results, Try.results8, go_sem, r0, r1, r2, aggC]) rfl hGV
  · have HX := Lib.hid (next_any B a len cap (k1 + 1) 2 (w3.alloc (.cells #[.int .i64 0, .int .i64 1048577] 2)) (by decide) (by decide) (by omega) (HG.out.alloc _))
    have hlb := HG.out.lt
    go_wp2_with fail
    (with_reducible refine HX.out.mono ?_)
    rintro e w4 ⟨r, r0, r1, rfl, hg4, ho4⟩
    obtain ⟨n, rfl⟩ := Int.eq_ofNat_of_zero_le r0
    have hn' : (n : Int) < 2 := by omega
    obtain ⟨f, hf, hc⟩ := pickN (L := [0, 1048577]) rfl ho4 hlb (n := n) (by show n < 2; omega)
    have hf2 : CpF (x, y, f) := by
      simp only [List.mem_cons, List.not_mem_nil, or_false] at hf
      have h9 := HV.out
      unfold CpF at h9 ⊢
      simp only at h9 ⊢
      omega
    have ho5 := (Only.alloc B w3 _).trans ho4
    have hp4 := HP.out.carry (ho5.block g HP.out.size_lt (by omega))
    have hz4 := HZ.out.carry (ho5.block w.heap.size HZ.out.size_lt (by omega))
    have hput : Whole (w4.setCell ⟨g, 2, none⟩ (.int .i64 f)) g 24 #[.int .i64 x, .int .i64 y, .int .i64 f] := hp4.put 2 (.int .i64 f)
    have HEND := Lib.hid (lcaps_end (K := k) (x := (x, y, f)) (by omega) hBw (hz4.other (g' := g) (by omega) 2 (.int .i64 f)) (only_put1C (o := 2) (u := .int .i64 f) (HO.out.trans ho5) (by omega)) (gen_put1C (o := 2) (u := .int .i64 f) hg4 (by omega)) hf2)
    have d0 := hp4.free 2
    have j0 := hp4.read 0
    have j1 := hp4.read 1
    have j2 := hp4.read 2
    have q0 := hz4.free 0
    have q1 := hz4.free 1
    have q2 := hz4.free 2
    have p0 := hz4.read 0
    have p1 := hz4.read 1
    have p2 := hz4.read 2
    simp at j0 j1 j2 p0 p1 p2
    unfold putC at HEND
    simp only at HEND
    have hne1 : w.heap.size ≠ g := by omega
    clear HX HG HO HP HZ hg4 ho4 ho5 hp4 hz4 hput hlb hf hf2 HV
    go_wp2
    obtain ⟨hGV, hWh⟩ := HEND.out
    clear HEND
    generalize (((w4.setCell ⟨g, 2, none⟩ (.int .i64 f)).setCell ⟨w.heap.size, 0, none⟩ (.int .i64 x)).setCell ⟨w.heap.size, 1, none⟩ (.int .i64 y)).setCell ⟨w.heap.size, 2, none⟩ (.int .i64 f) = wE at *
    have r0 := hWh.read 0
    have r1 := hWh.read 1
    have r2 := hWh.read 2
    simp at r0 r1 r2
    exact bodyPost_ret (v := aggC (x, y, f)) (by simp [results, Try.results8, go_sem, r0, r1, r2, aggC]) rfl hGV
  · have HEND := Lib.hid (lcaps_end (K := k) (x := (x, y, z)) (by omega) hBw HZ.out HO.out HG.out HV.out)
    have j0 := HP.out.read 0
    have j1 := HP.out.read 1
    have j2 := HP.out.read 2
    have q0 := HZ.out.free 0
    have q1 := HZ.out.free 1
    have q2 := HZ.out.free 2
    have p0 := HZ.out.read 0
    have p1 := HZ.out.read 1
    have p2 := HZ.out.read 2
    simp at j0 j1 j2 p0 p1 p2
    unfold putC at HEND
    simp only at HEND
    have hne1 : w.heap.size ≠ g := by omega
    have e0 : (r == 0) = false := by simpa using n0
    have e1 : (r == 1) = false := by simpa using n1
    have e2 : (r == 2) = false := by simpa using n2
    clear HG HO HP HZ HV n0 n1 n2
    go_wp2
    obtain ⟨hGV, hWh⟩ := HEND.out
    clear HEND
    generalize ((w3.setCell ⟨w.heap.size, 0, none⟩ (.int .i64 x)).setCell ⟨w.heap.size, 1, none⟩ (.int .i64 y)).setCell ⟨w.heap.size, 2, none⟩ (.int .i64 z) = wE at *
    have r0 := hWh.read 0
    have r1 := hWh.read 1
    have r2 := hWh.read 2
    simp at r0 r1 r2
    exact bodyPost_ret (v := aggC (x, y, z)) (by simp [results, Try.results8, go_sem, r0, r1, r2, aggC]) rfl hGV
section
variable {base B : Nat} {a : Option Addr} {len cap q : Nat}
theorem GenP.of_gave {f : FuncId} {ok : Cp → Prop} {m : Nat} (h : ∀ w, Gen B a len cap q w → Calls Try.prog f #[.pointer (some ⟨B, 0, none⟩)] w (GaveC ok m B a len cap q w)) : Acts f #[.pointer (some ⟨B, 0, none⟩)] base (GenP base B a len cap q) (fun x : { x : Cp × Nat // ok x.1 ∧ x.2 ≤ q + m } => aggC x.1.1) fun x => GenP base B a len cap x.1.2 := by
  intro T w ⟨h1, h2, h3, h4⟩ hb hs
  refine (h w h2).mono ?_
  rintro e w' ⟨x, k', hx, e1, hk, hg, ho⟩
  have hbl : Below base w w' := ho.below (by have := h2.lt; omega) |>.mono h4
  exact ⟨⟨(x, k'), hx, hk⟩, e1, ⟨T, ⟨h1, hg, h3.kept hbl, h4⟩, fun k hk => .inl hk⟩, Chg.of_only ho ((h1 B).2 rfl)⟩
theorem GenP.gcaps (hq : q ≤ 10000000) : Acts 17 #[.pointer (some ⟨B, 0, none⟩)] base (GenP base B a len cap q) (fun x : { x : Cp × Nat // agV x.1.1 x.1.2.1 x.1.2.2 = true ∧ x.2 ≤ q + 17 } => aggC x.1.1) fun x => GenP base B a len cap x.1.2 := GenP.of_gave fun w hw => gcaps_any B a len cap q w hw (by omega)
theorem GenP.lcaps (hq : q ≤ 10000000) : Acts 8 #[.pointer (some ⟨B, 0, none⟩)] base (GenP base B a len cap q) (fun x : { x : Cp × Nat // CpF x.1 ∧ x.2 ≤ q + 19 } => aggC x.1.1) fun x => GenP base B a len cap x.1.2 := GenP.of_gave fun w hw => lcaps_any B a len cap q w hw hq
end
end Go.Proofs.Ytcnpmbgeafkmlaa

