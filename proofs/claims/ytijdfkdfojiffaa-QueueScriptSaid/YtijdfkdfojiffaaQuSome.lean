/-
  Layer 11's law: the drawn packet (some).
-/
import Derived.Test.YtijdfkdfojiffaaLenGen
import Derived.Test.YtijdfkdfojiffaaQuMem
import Derived.Test.YtijdfkdfojiffaaLoose
import Derived.Deep.RegionWith
namespace Go.Proofs.Ytijdfkdfojiffaa
open Go.ChangeShapes Go.WideShapes Go.ChangeAt Go.RowKit
set_option linter.unusedVariables false

/-- The choices, and what has turned since w. -/
def GSt (B : Nat) (a : Option Addr) (len cap k : Nat) (w W : World) : Prop := Gen B a len cap k W ∧ Only B w W
theorem GSt.set {B : Nat} {a : Option Addr} {len cap k : Nat} {w W : World} (h : GSt B a len cap k w W) {g : Nat} (h1 : B < g) (h2 : w.heap.size ≤ g) (o : Nat) (u : Value) : GSt B a len cap k w (W.setCell ⟨g, o, none⟩ u) :=
  ⟨h.1.kept ((Below.refl _ _).setCell (p := ⟨g, o, none⟩) (by show B + 1 ≤ g; omega) u), ⟨h.2.os, h.2.tape, h.2.output, by have := h.2.size; simpa [World.setCell] using this, fun j hj hn => (Below.heap_setCell W ⟨g, o, none⟩ u j (by show j ≠ g; omega)).trans (h.2.block j hj hn)⟩⟩
theorem GSt.alloc {B : Nat} {a : Option Addr} {len cap k : Nat} {w W : World} (h : GSt B a len cap k w W) (o : Obj) : GSt B a len cap k w (W.alloc o) := ⟨h.1.alloc o, h.2.trans (Only.alloc B W o)⟩
theorem GSt.drew {B : Nat} {a : Option Addr} {len cap k : Nat} {w W : World} (h : GSt B a len cap k w W) : GSt B a len cap k w W.drew := ⟨h.1.drew, h.2.drew⟩
/-- The state in a region of some's that draws its order: the last cell of the packet may have turned. -/
def SoC (B : Nat) (a : Option Addr) (len cap K H : Nat) (id f l x : Int) (w0 : World) (fu : Nat) (w : World) : Prop :=
  (∃ k, k + fu ≤ K ∧ GSt B a len cap k w0 w) ∧ Whole w w0.heap.size 40 #[.int .i64 0, .int .i64 0, .int .i64 0, .int .i64 0, .int .i64 0] ∧ ∃ dd : Int, Whole w H 40 #[.int .i64 id, .int .i64 f, .int .i64 l, .int .i64 x, .int .i64 dd]
def SoR (B H : Nat) (w w' : World) : Prop := w.heap.size ≤ w'.heap.size ∧ ∀ b, b < w.heap.size → b ≠ B → b ≠ H → w'.heap[b]? = w.heap[b]?
def SoInt (lo hi : Int) (v : Value) : Prop := ∃ r : Int, (lo ≤ r ∧ r ≤ hi) ∧ v = .int .i64 r
def SoAny (v : Value) : Prop := ∃ z : Int, v = .int .i64 z
def SoRow (B H : Nat) (v : Value) (w : World) : Prop := ∃ L : List Int, L.length = 4 ∧ ∃ g, g ≠ B ∧ g ≠ H ∧ g < w.heap.size ∧ v = .slice (some ⟨g, 0, none⟩) 4 4 ∧ ∀ i (h : i < L.length), w.cell? ⟨g, i, none⟩ = some (.int .i64 L[i])
def SoPtr (B H : Nat) (v : Value) (w : World) : Prop := ∃ g o, g ≠ B ∧ g ≠ H ∧ g < w.heap.size ∧ v = .pointer (some ⟨g, o, none⟩) ∧ ∃ z : Int, w.cell? ⟨g, o, none⟩ = some (.int .i64 z)
def SoV (B H : Nat) (x : Int) (long : Bool) (i : Nat) (v : Value) (w : World) : Prop :=
  match long, i with
  | false, 0 => v = .pointer (some ⟨H, 3, none⟩)
  | false, 1 => v = .int .i64 x
  | false, 2 => v = .pointer (some ⟨B, 0, none⟩)
  | false, 3 => SoInt 0 5 v
  | false, 4 => SoAny v
  | false, 5 => v = .pointer (some ⟨H, 4, none⟩)
  | true, 0 => v = .pointer (some ⟨H, 3, none⟩)
  | true, 1 => v = .int .i64 x
  | true, 2 => SoAny v
  | true, 3 => SoRow B H v w
  | true, 4 => v = .pointer (some ⟨B, 0, none⟩)
  | true, 5 => SoInt 0 3 v
  | true, 6 => SoPtr B H v w
  | true, 7 => SoAny v
  | true, 8 => v = .pointer (some ⟨H, 4, none⟩)
  | _, _ => True
section
variable {B H : Nat} {a : Option Addr} {len cap K : Nat} {id f l x : Int} {w0 w w' : World} {fu : Nat}
theorem SoR.cell (h : SoR B H w w') {g o : Nat} (h1 : g ≠ B) (h2 : g ≠ H) (h3 : g < w.heap.size) : w'.cell? ⟨g, o, none⟩ = w.cell? ⟨g, o, none⟩ := World.cell?_of_block (w := w) (h.2 g h3 h1 h2)
theorem SoR.refl (B H : Nat) (w : World) : SoR B H w w := ⟨Nat.le_refl _, fun _ _ _ _ => rfl⟩
theorem SoR.only (h : Only B w w') : SoR B H w w' := ⟨h.size, fun b hb h1 _ => h.block b hb h1⟩
theorem SoR.row {v : Value} (h : SoR B H w w') (hv : SoRow B H v w) : SoRow B H v w' := by
  obtain ⟨L, hL, g, h1, h2, h3, h4, h5⟩ := hv
  exact ⟨L, hL, g, h1, h2, by have := h.1; omega, h4, fun i hi => by rw [h.cell h1 h2 h3]; exact h5 i hi⟩
theorem SoR.ptr {v : Value} (h : SoR B H w w') (hv : SoPtr B H v w) : SoPtr B H v w' := by
  obtain ⟨g, o, h1, h2, h3, h4, z, h6⟩ := hv
  exact ⟨g, o, h1, h2, by have := h.1; omega, h4, z, by rw [h.cell h1 h2 h3]; exact h6⟩
theorem SoV.keep {long : Bool} (i : Nat) (v : Value) (w w' : World) (h : SoR B H w w') (hv : SoV B H x long i v w) : SoV B H x long i v w' := by
  unfold SoV at *
  split at hv <;> first | exact hv | exact h.row hv | exact h.ptr hv | trivial
theorem SoC.step (h : SoC B a len cap K H id f l x w0 (fu + 1) w) : SoC B a len cap K H id f l x w0 fu w := by
  obtain ⟨⟨k, hk, hg⟩, h2⟩ := h
  exact ⟨⟨k, by omega, hg⟩, h2⟩
theorem SoC.call {k : Nat} (h : SoC B a len cap K H id f l x w0 (fu + 1) w) (hB : B < H) (hk : k + 1 + fu ≤ K) (hg : Gen B a len cap (k + 1) w') (ho : Only B w w') : SoC B a len cap K H id f l x w0 fu w' := by
  obtain ⟨⟨_, _, hs⟩, h2, dd, h3⟩ := h
  have hn : w0.heap.size ≠ B := fun e => by
    have e1 : w.heap[w0.heap.size]? = _ := h2
    have e2 := hs.1.1
    rw [e, e2] at e1
    simp at e1
  exact ⟨⟨k + 1, hk, hg, hs.2.trans ho⟩, h2.carry (ho.block _ h2.size_lt hn), dd, h3.carry (ho.block _ h3.size_lt (by omega))⟩
theorem SoC.alloc (h : SoC B a len cap K H id f l x w0 (fu + 1) w) (o : Obj) : SoC B a len cap K H id f l x w0 fu (w.alloc o) := by
  obtain ⟨⟨k, hk, hs⟩, h2, dd, h3⟩ := h
  exact ⟨⟨k, by omega, hs.alloc o⟩, h2.alloc o, dd, h3.alloc o⟩
theorem SoC.store (h : SoC B a len cap K H id f l x w0 (fu + 1) w) (hH : w0.heap.size < H) (hB : B < H) (z : Int) : SoC B a len cap K H id f l x w0 fu (w.setCell ⟨H, 4, none⟩ (.int .i64 z)) ∧ SoR B H w (w.setCell ⟨H, 4, none⟩ (.int .i64 z)) := by
  obtain ⟨⟨k, hk, hs⟩, h2, dd, h3⟩ := h
  refine ⟨⟨⟨k, by omega, hs.set hB (Nat.le_of_lt hH) _ _⟩, ?_, z, h3.put 4 _⟩, by simp [World.setCell], fun b hb h1 h2 => Below.heap_setCell _ ⟨H, 4, none⟩ _ b h2⟩
  exact h2.other (by omega) 4 _
theorem SoRow.new (hB : B < H) (hs : ∃ k, k + fu ≤ K ∧ GSt B a len cap k w0 w) (hp : ∃ dd : Int, Whole w H 40 #[.int .i64 id, .int .i64 f, .int .i64 l, .int .i64 x, .int .i64 dd]) {L : List Int} {cs : Array Value} (hL : L.length = 4) (hcs : cs = (L.map (Value.int .i64)).toArray) (t : TypeId) :
    SoRow B H (.slice (some ⟨w.heap.size, 0, none⟩) 4 4) (w.alloc (.cells cs t)) := by
  obtain ⟨dd, hp⟩ := hp
  have hH := hp.size_lt
  refine ⟨L, hL, w.heap.size, by omega, by omega, by simp, rfl, fun i hi => ?_⟩
  rw [(Whole.fresh w t cs).read, hcs, List.getElem?_toArray, List.getElem?_map, List.getElem?_eq_getElem hi]; rfl
end
/-- What some answers: a packet with this number, or with no valid one; at most thirty more numbers have been taken. -/
def GaveP (B : Nat) (a : Option Addr) (len cap k : Nat) (id : Int) (w : World) (e : Ending) (w' : World) : Prop :=
  ∃ p : Pk, e = .returned (aggP p) ∧ (p.i = id ∨ p.i < 1) ∧ (∃ k', k' ≤ k + 30 ∧ Gen B a len cap k' w') ∧ Only B w w'
set_option maxRecDepth 100000 in
set_option maxHeartbeats 4000000 in
theorem some_any (B : Nat) (a : Option Addr) (len cap k : Nat) (id : Int) (w : World) (hg : Gen B a len cap k w) (hk : k ≤ 100000000) :
    Calls Try.prog 20 #[.pointer (some ⟨B, 0, none⟩), .int .i64 id] w (GaveP B a len cap k id w) := by
  have hBw := hg.lt
  have HG0 := Lib.hid (hg.alloc (.cells #[.int .i64 0, .int .i64 0, .int .i64 0, .int .i64 0, .int .i64 0] 40))
  have HO0 := Lib.hid (Only.alloc B w (.cells #[.int .i64 0, .int .i64 0, .int .i64 0, .int .i64 0, .int .i64 0] 40))
  have HR0 := Lib.hid (Whole.fresh w 40 #[.int .i64 0, .int .i64 0, .int .i64 0, .int .i64 0, .int .i64 0])
  clear hg
  go_enter Try.func20, Try.ntmps20
  go_wp2_with fail
  refine (next_any B a len cap k 4 _ (by decide) (by decide) (by omega) HG0.out).mono ?_
  rintro e w1 ⟨f, f0, f1, rfl, hg1, ho1⟩
  have HG1 := Lib.hid hg1
  have HO1 := Lib.hid (HO0.out.trans ho1)
  have HR1 := Lib.hid (HR0.out.carry (ho1.block _ HR0.out.size_lt (by omega)))
  clear hg1 ho1 HG0 HO0 HR0
  go_wp2_with fail
  refine (length_any B a len cap (k + 1) _ HG1.out (by omega)).mono ?_
  rintro e w2 ⟨l, l0, l1, rfl, hg1, ho1⟩
  have HG2 := Lib.hid hg1
  have HO2 := Lib.hid (HO1.out.trans ho1)
  have HR2 := Lib.hid (HR1.out.carry (ho1.block _ HR1.out.size_lt (by omega)))
  clear hg1 ho1 HG1 HO1 HR1
  go_wp2_with fail
  refine (next_any B a len cap (k + 1 + 1) 5 _ (by decide) (by decide) (by omega) HG2.out).mono ?_
  rintro e w3 ⟨x, x0, x1, rfl, hg1, ho1⟩
  have HG3 := Lib.hid (hg1.alloc (.cells #[.int .i64 id, .int .i64 f, .int .i64 l, .int .i64 x, .int .i64 (-1)] 40))
  have HO3 := Lib.hid ((HO2.out.trans ho1).trans (Only.alloc B w3 (.cells #[.int .i64 id, .int .i64 f, .int .i64 l, .int .i64 x, .int .i64 (-1)] 40)))
  have HR3 := Lib.hid ((HR2.out.carry (ho1.block _ HR2.out.size_lt (by omega))).alloc (.cells #[.int .i64 id, .int .i64 f, .int .i64 l, .int .i64 x, .int .i64 (-1)] 40))
  have HP3 := Lib.hid (Whole.fresh w3 40 #[.int .i64 id, .int .i64 f, .int .i64 l, .int .i64 x, .int .i64 (-1)])
  have hpb : w.heap.size < w3.heap.size ∧ B < w3.heap.size := by
    have h1 := HR2.out.size_lt; have h2 := ho1.size; omega
  clear hg1 ho1 HG2 HO2 HR2
  go_wp2_with fail
  refine (next_any B a len cap (k + 1 + 1 + 1) 2 _ (by decide) (by decide) (by omega) HG3.out).mono ?_
  rintro e w4 ⟨y, y0, y1, rfl, hg1, ho1⟩
  have HG4 := Lib.hid hg1
  have HO4 := Lib.hid (HO3.out.trans ho1)
  have HR4 := Lib.hid (HR3.out.carry (ho1.block _ HR3.out.size_lt (by omega)))
  have HP4 := Lib.hid (HP3.out.carry (ho1.block _ HP3.out.size_lt (by omega)))
  clear hg1 ho1 HG3 HO3 HR3 HP3
  have HS3 := Lib.hid (show GSt B a len cap (k + 1 + 1 + 1 + 1) w w4 from ⟨HG4.out, HO4.out⟩)
  clear HG4 HO4
  by_cases hy : y = 0
  · subst hy
    have HS := HS3
    have HR := HR4
    have HP := HP4
    clear HS3 HR4 HP4
    have HC0 := Lib.hid (show SoC B a len cap (k + 1 + 1 + 1 + 1 + 7) w3.heap.size id f l x w 7 w4.drew from ⟨⟨_, by omega, HS.out.drew⟩, HR.out, _, HP.out⟩)
    clear HS HR HP
    go_wp2_with fail
    refine wp_region_loose 67 (by kernel_rfl) (by kernel_rfl) (SoC B a len cap (k + 1 + 1 + 1 + 1 + 7) w3.heap.size id f l x w) (SoR B w3.heap.size) (SoV B w3.heap.size x false) rfl (fun i v w w' h hv => SoV.keep i v w w' h hv) HC0.out ?_ ?_
    · simp only [OblAll]
      refine ⟨?_, ?_, ?_, ?_, ?_, ?_, ?_, trivial⟩
      all_goals
        intro fu wx vals hC hp
        simp [predL, predE, Region.binds, PreV, SoV] at hp
        simp only [fillA, if_true, Act.put]
        simp
        have HCx := Lib.hid hC
      · go_wp2
        exact ⟨rfl, HCx.out.step, SoR.refl _ _ _, rfl⟩
      · simp only [hp]
        clear hp
        obtain ⟨_, _, dd, hw⟩ := hC
        have y3 := hw.read 3
        simp at y3
        clear hw
        go_wp2
        exact ⟨rfl, HCx.out.step, SoR.refl _ _ _, rfl⟩
      · go_wp2
        exact ⟨rfl, HCx.out.step, SoR.refl _ _ _, rfl⟩
      · simp only [hp]
        clear hp
        obtain ⟨⟨kk, hkk, hg'⟩, _⟩ := hC
        go_wp2_with fail
        refine (next_any B a len cap kk 6 _ (by decide) (by decide) (by omega) hg'.1).mono ?_
        rintro e w' ⟨r, r0, r1, rfl, hg2, ho⟩
        have HF := Lib.hid (And.intro (HCx.out.call hpb.2 (by omega) hg2 ho) (SoR.only (H := w3.heap.size) ho))
        clear hg' hg2 ho
        go_wp2
        exact ⟨rfl, HF.out.1, HF.out.2, r, ⟨r0, by omega⟩, rfl⟩
      · obtain ⟨e1, r, hr, e2⟩ := hp
        simp only [e1, e2]
        clear e1 e2 hC hr
        go_wp2
        exact ⟨rfl, HCx.out.step, SoR.refl _ _ _, _, rfl⟩
      · go_wp2
        exact ⟨rfl, HCx.out.step, SoR.refl _ _ _, rfl⟩
      · obtain ⟨z, e1⟩ := hp.2.1
        have e2 := hp.1
        simp only [e1, e2]
        clear e1 e2 hp
        obtain ⟨_, _, dd, hw⟩ := hC
        have y4 := hw.read 4
        have z4 := hw.free 4
        simp at y4
        clear hw
        have HF := Lib.hid (HCx.out.store hpb.1 hpb.2 z)
        go_wp2
        exact ⟨rfl, HF.out.1, HF.out.2, trivial⟩
    · intro w4' vals hC hV
      obtain ⟨⟨k4, hk4, hs6⟩, hr6, dd, hp6⟩ := hC
      have HS := Lib.hid hs6
      have HR := Lib.hid hr6
      have HP := Lib.hid hp6
      clear hs6 hr6 hp6 hV HC0
      simp only [fillA, if_true, Act.put]
      simp
      go_wp2_with fail
      refine (next_any B a len cap k4 25 _ (by decide) (by decide) (by omega) HS.out.1).mono ?_
      rintro e w5 ⟨t, t0, t1, rfl, hg1, ho1⟩
      have HS2 := Lib.hid (show GSt B a len cap (k4 + 1) w w5 from ⟨hg1, HS.out.2.trans ho1⟩)
      have HR2 := Lib.hid (HR.out.carry (ho1.block _ HR.out.size_lt (by omega)))
      have HP2 := Lib.hid (HP.out.carry (ho1.block _ HP.out.size_lt (by omega)))
      clear HS HR HP
      replace HS := HS2
      replace HR := HR2
      replace HP := HP2
      rcases (by omega : t = 0 ∨ t = 1 ∨ t = 2 ∨ t = 3 ∨ t = 4 ∨ 5 ≤ t) with rfl | rfl | rfl | rfl | rfl | ht
      · go_wp2_with fail
        refine (next_any B a len cap (k4 + 1) 2 _ (by decide) (by decide) (by omega) HS.out.1).mono ?_
        rintro e w6 ⟨r, r0, r1, rfl, hg1, ho1⟩
        have HS2 := Lib.hid (show GSt B a len cap ((k4 + 1) + 1) w w6 from ⟨hg1, HS.out.2.trans ho1⟩)
        have HR2 := Lib.hid (HR.out.carry (ho1.block _ HR.out.size_lt (by omega)))
        have HP2 := Lib.hid (HP.out.carry (ho1.block _ HP.out.size_lt (by omega)))
        clear HS HR HP
        replace HS := HS2
        replace HR := HR2
        replace HP := HP2
        have HS2 := Lib.hid (HS.out.set (g := w3.heap.size) hpb.2 (Nat.le_of_lt hpb.1) 0 (.int .i64 (r - 1)))
        have HR2 := Lib.hid (HR.out.other (g' := w3.heap.size) (by omega) 0 (.int .i64 (r - 1)))
        have HP2 := Lib.hid (HP.out.put 0 (.int .i64 (r - 1)))
        have p0 := HP.out.read 0
        have z0 := HP.out.free 0
        simp at p0
        clear HS HR HP
        replace HS := HS2
        replace HR := HR2
        replace HP := HP2
        have HF := Lib.hid (fun (u0 u1 u2 u3 u4 : Value) => ((((HS.out.set (g := w.heap.size) hBw (Nat.le_refl _) 0 u0).set (g := w.heap.size) hBw (Nat.le_refl _) 1 u1).set (g := w.heap.size) hBw (Nat.le_refl _) 2 u2).set (g := w.heap.size) hBw (Nat.le_refl _) 3 u3).set (g := w.heap.size) hBw (Nat.le_refl _) 4 u4)
        have y0 := HR.out.read 0
        have y1 := HR.out.read 1
        have y2 := HR.out.read 2
        have y3 := HR.out.read 3
        have y4 := HR.out.read 4
        simp at y0 y1 y2 y3 y4
        have z0 := HR.out.free 0
        have z1 := HR.out.free 1
        have z2 := HR.out.free 2
        have z3 := HR.out.free 3
        have z4 := HR.out.free 4
        have p0 := HP.out.read 0
        have p1 := HP.out.read 1
        have p2 := HP.out.read 2
        have p3 := HP.out.read 3
        have p4 := HP.out.read 4
        simp at p0 p1 p2 p3 p4
        clear HS HR HP
        go_wp2
        exact bodyPost_ret (v := .agg #[.int .i64 (r - 1), .int .i64 f, .int .i64 l, .int .i64 x, .int .i64 dd]) (by simp [results, Try.results20, go_sem, y0, y1, y2, y3, y4]) rfl ⟨⟨(r - 1), f, l, x, dd⟩, rfl, .inr (by show r - 1 < 1; omega), ⟨_, by omega, (HF.out _ _ _ _ _).1⟩, (HF.out _ _ _ _ _).2⟩
      · have HSa := Lib.hid (HS.out.alloc (.cells #[.int .i64 (-1), .int .i64 32] 3))
        have HRa := Lib.hid (HR.out.alloc (.cells #[.int .i64 (-1), .int .i64 32] 3))
        have HPa := Lib.hid (HP.out.alloc (.cells #[.int .i64 (-1), .int .i64 32] 3))
        have hB5 := HS.out.1.lt
        clear HS HR HP
        go_wp2_with fail
        refine (next_any B a len cap (k4 + 1) 2 _ (by decide) (by decide) (by omega) HSa.out.1).mono ?_
        rintro e w6 ⟨r, r0, r1, rfl, hg1, ho1⟩
        obtain ⟨rn, rfl⟩ := Int.eq_ofNat_of_zero_le r0
        obtain ⟨v, _, hcv⟩ := pickN (L := [(-1), 32]) rfl ho1 hB5 (n := rn) (by show rn < 2; omega)
        have hrn : rn ≤ 1 := by omega
        have HS := Lib.hid (show GSt B a len cap ((k4 + 1) + 1) w w6 from ⟨hg1, HSa.out.2.trans ho1⟩)
        have HR := Lib.hid (HRa.out.carry (ho1.block _ HRa.out.size_lt (by omega)))
        have HP := Lib.hid (HPa.out.carry (ho1.block _ HPa.out.size_lt (by omega)))
        clear HSa HRa HPa hg1 ho1
        have HS2 := Lib.hid (HS.out.set (g := w3.heap.size) hpb.2 (Nat.le_of_lt hpb.1) 1 (.int .i64 v))
        have HR2 := Lib.hid (HR.out.other (g' := w3.heap.size) (by omega) 1 (.int .i64 v))
        have HP2 := Lib.hid (HP.out.put 1 (.int .i64 v))
        have p1 := HP.out.read 1
        have z1 := HP.out.free 1
        simp at p1
        clear HS HR HP
        replace HS := HS2
        replace HR := HR2
        replace HP := HP2
        have HF := Lib.hid (fun (u0 u1 u2 u3 u4 : Value) => ((((HS.out.set (g := w.heap.size) hBw (Nat.le_refl _) 0 u0).set (g := w.heap.size) hBw (Nat.le_refl _) 1 u1).set (g := w.heap.size) hBw (Nat.le_refl _) 2 u2).set (g := w.heap.size) hBw (Nat.le_refl _) 3 u3).set (g := w.heap.size) hBw (Nat.le_refl _) 4 u4)
        have y0 := HR.out.read 0
        have y1 := HR.out.read 1
        have y2 := HR.out.read 2
        have y3 := HR.out.read 3
        have y4 := HR.out.read 4
        simp at y0 y1 y2 y3 y4
        have z0 := HR.out.free 0
        have z1 := HR.out.free 1
        have z2 := HR.out.free 2
        have z3 := HR.out.free 3
        have z4 := HR.out.free 4
        have p0 := HP.out.read 0
        have p1 := HP.out.read 1
        have p2 := HP.out.read 2
        have p3 := HP.out.read 3
        have p4 := HP.out.read 4
        simp at p0 p1 p2 p3 p4
        clear HS HR HP
        go_wp2
        exact bodyPost_ret (v := .agg #[.int .i64 id, .int .i64 v, .int .i64 l, .int .i64 x, .int .i64 dd]) (by simp [results, Try.results20, go_sem, y0, y1, y2, y3, y4]) rfl ⟨⟨id, v, l, x, dd⟩, rfl, .inl rfl, ⟨_, by omega, (HF.out _ _ _ _ _).1⟩, (HF.out _ _ _ _ _).2⟩
      · have HSa := Lib.hid (HS.out.alloc (.cells #[.int .i64 0, .int .i64 4097] 3))
        have HRa := Lib.hid (HR.out.alloc (.cells #[.int .i64 0, .int .i64 4097] 3))
        have HPa := Lib.hid (HP.out.alloc (.cells #[.int .i64 0, .int .i64 4097] 3))
        have hB5 := HS.out.1.lt
        clear HS HR HP
        go_wp2_with fail
        refine (next_any B a len cap (k4 + 1) 2 _ (by decide) (by decide) (by omega) HSa.out.1).mono ?_
        rintro e w6 ⟨r, r0, r1, rfl, hg1, ho1⟩
        obtain ⟨rn, rfl⟩ := Int.eq_ofNat_of_zero_le r0
        obtain ⟨v, _, hcv⟩ := pickN (L := [0, 4097]) rfl ho1 hB5 (n := rn) (by show rn < 2; omega)
        have hrn : rn ≤ 1 := by omega
        have HS := Lib.hid (show GSt B a len cap ((k4 + 1) + 1) w w6 from ⟨hg1, HSa.out.2.trans ho1⟩)
        have HR := Lib.hid (HRa.out.carry (ho1.block _ HRa.out.size_lt (by omega)))
        have HP := Lib.hid (HPa.out.carry (ho1.block _ HPa.out.size_lt (by omega)))
        clear HSa HRa HPa hg1 ho1
        have HS2 := Lib.hid (HS.out.set (g := w3.heap.size) hpb.2 (Nat.le_of_lt hpb.1) 2 (.int .i64 v))
        have HR2 := Lib.hid (HR.out.other (g' := w3.heap.size) (by omega) 2 (.int .i64 v))
        have HP2 := Lib.hid (HP.out.put 2 (.int .i64 v))
        have p2 := HP.out.read 2
        have z2 := HP.out.free 2
        simp at p2
        clear HS HR HP
        replace HS := HS2
        replace HR := HR2
        replace HP := HP2
        have HF := Lib.hid (fun (u0 u1 u2 u3 u4 : Value) => ((((HS.out.set (g := w.heap.size) hBw (Nat.le_refl _) 0 u0).set (g := w.heap.size) hBw (Nat.le_refl _) 1 u1).set (g := w.heap.size) hBw (Nat.le_refl _) 2 u2).set (g := w.heap.size) hBw (Nat.le_refl _) 3 u3).set (g := w.heap.size) hBw (Nat.le_refl _) 4 u4)
        have y0 := HR.out.read 0
        have y1 := HR.out.read 1
        have y2 := HR.out.read 2
        have y3 := HR.out.read 3
        have y4 := HR.out.read 4
        simp at y0 y1 y2 y3 y4
        have z0 := HR.out.free 0
        have z1 := HR.out.free 1
        have z2 := HR.out.free 2
        have z3 := HR.out.free 3
        have z4 := HR.out.free 4
        have p0 := HP.out.read 0
        have p1 := HP.out.read 1
        have p2 := HP.out.read 2
        have p3 := HP.out.read 3
        have p4 := HP.out.read 4
        simp at p0 p1 p2 p3 p4
        clear HS HR HP
        go_wp2
        exact bodyPost_ret (v := .agg #[.int .i64 id, .int .i64 f, .int .i64 v, .int .i64 x, .int .i64 dd]) (by simp [results, Try.results20, go_sem, y0, y1, y2, y3, y4]) rfl ⟨⟨id, f, v, x, dd⟩, rfl, .inl rfl, ⟨_, by omega, (HF.out _ _ _ _ _).1⟩, (HF.out _ _ _ _ _).2⟩
      · have HSa := Lib.hid (HS.out.alloc (.cells #[.int .i64 (-1), .int .i64 16385, .int .i64 16384] 3))
        have HRa := Lib.hid (HR.out.alloc (.cells #[.int .i64 (-1), .int .i64 16385, .int .i64 16384] 3))
        have HPa := Lib.hid (HP.out.alloc (.cells #[.int .i64 (-1), .int .i64 16385, .int .i64 16384] 3))
        have hB5 := HS.out.1.lt
        clear HS HR HP
        go_wp2_with fail
        refine (next_any B a len cap (k4 + 1) 3 _ (by decide) (by decide) (by omega) HSa.out.1).mono ?_
        rintro e w6 ⟨r, r0, r1, rfl, hg1, ho1⟩
        obtain ⟨rn, rfl⟩ := Int.eq_ofNat_of_zero_le r0
        obtain ⟨v, _, hcv⟩ := pickN (L := [(-1), 16385, 16384]) rfl ho1 hB5 (n := rn) (by show rn < 3; omega)
        have hrn : rn ≤ 2 := by omega
        have HS := Lib.hid (show GSt B a len cap ((k4 + 1) + 1) w w6 from ⟨hg1, HSa.out.2.trans ho1⟩)
        have HR := Lib.hid (HRa.out.carry (ho1.block _ HRa.out.size_lt (by omega)))
        have HP := Lib.hid (HPa.out.carry (ho1.block _ HPa.out.size_lt (by omega)))
        clear HSa HRa HPa hg1 ho1
        have HS2 := Lib.hid (HS.out.set (g := w3.heap.size) hpb.2 (Nat.le_of_lt hpb.1) 3 (.int .i64 v))
        have HR2 := Lib.hid (HR.out.other (g' := w3.heap.size) (by omega) 3 (.int .i64 v))
        have HP2 := Lib.hid (HP.out.put 3 (.int .i64 v))
        have p3 := HP.out.read 3
        have z3 := HP.out.free 3
        simp at p3
        clear HS HR HP
        replace HS := HS2
        replace HR := HR2
        replace HP := HP2
        have HF := Lib.hid (fun (u0 u1 u2 u3 u4 : Value) => ((((HS.out.set (g := w.heap.size) hBw (Nat.le_refl _) 0 u0).set (g := w.heap.size) hBw (Nat.le_refl _) 1 u1).set (g := w.heap.size) hBw (Nat.le_refl _) 2 u2).set (g := w.heap.size) hBw (Nat.le_refl _) 3 u3).set (g := w.heap.size) hBw (Nat.le_refl _) 4 u4)
        have y0 := HR.out.read 0
        have y1 := HR.out.read 1
        have y2 := HR.out.read 2
        have y3 := HR.out.read 3
        have y4 := HR.out.read 4
        simp at y0 y1 y2 y3 y4
        have z0 := HR.out.free 0
        have z1 := HR.out.free 1
        have z2 := HR.out.free 2
        have z3 := HR.out.free 3
        have z4 := HR.out.free 4
        have p0 := HP.out.read 0
        have p1 := HP.out.read 1
        have p2 := HP.out.read 2
        have p3 := HP.out.read 3
        have p4 := HP.out.read 4
        simp at p0 p1 p2 p3 p4
        clear HS HR HP
        go_wp2
        exact bodyPost_ret (v := .agg #[.int .i64 id, .int .i64 f, .int .i64 l, .int .i64 v, .int .i64 dd]) (by simp [results, Try.results20, go_sem, y0, y1, y2, y3, y4]) rfl ⟨⟨id, f, l, v, dd⟩, rfl, .inl rfl, ⟨_, by omega, (HF.out _ _ _ _ _).1⟩, (HF.out _ _ _ _ _).2⟩
      · have HC0 := Lib.hid (show SoC B a len cap ((k4 + 1) + 10) w3.heap.size id f l x w 10 w5.drew from ⟨⟨_, by omega, HS.out.drew⟩, HR.out, _, HP.out⟩)
        clear HS HR HP
        go_wp2_with fail
        refine wp_region_loose 67 (by kernel_rfl) (by kernel_rfl) (SoC B a len cap ((k4 + 1) + 10) w3.heap.size id f l x w) (SoR B w3.heap.size) (SoV B w3.heap.size x true) rfl (fun i v w w' h hv => SoV.keep i v w w' h hv) HC0.out ?_ ?_
        · simp only [OblAll]
          refine ⟨?_, ?_, ?_, ?_, ?_, ?_, ?_, ?_, ?_, ?_, trivial⟩
          all_goals
            intro fu wx vals hC hp
            simp [predL, predE, Region.binds, PreV, SoV] at hp
            simp only [fillA, if_true, Act.put]
            simp
            have HCx := Lib.hid hC
          · go_wp2
            exact ⟨rfl, HCx.out.step, SoR.refl _ _ _, rfl⟩
          · simp only [hp]
            clear hp
            obtain ⟨_, _, dd, hw⟩ := hC
            have y3 := hw.read 3
            simp at y3
            clear hw
            go_wp2
            exact ⟨rfl, HCx.out.step, SoR.refl _ _ _, rfl⟩
          · simp only [hp]
            clear hp hC
            go_wp2
            exact ⟨rfl, HCx.out.step, SoR.refl _ _ _, _, rfl⟩
          · obtain ⟨z, e1⟩ := hp
            simp only [e1]
            clear e1 hC
            go_wp2
            exact ⟨rfl, HCx.out.alloc _, SoR.only (Only.alloc B wx _), SoRow.new hpb.2 HCx.out.1 HCx.out.2.2 (L := [z, -2, 81919, 81920]) rfl rfl _⟩
          · go_wp2
            exact ⟨rfl, HCx.out.step, SoR.refl _ _ _, rfl⟩
          · simp only [hp]
            clear hp
            obtain ⟨⟨kk, hkk, hg'⟩, _⟩ := hC
            go_wp2_with fail
            refine (next_any B a len cap kk 4 _ (by decide) (by decide) (by omega) hg'.1).mono ?_
            rintro e w' ⟨r, r0, r1, rfl, hg2, ho⟩
            have HF := Lib.hid (And.intro (HCx.out.call hpb.2 (by omega) hg2 ho) (SoR.only (H := w3.heap.size) ho))
            clear hg' hg2 ho
            go_wp2
            exact ⟨rfl, HF.out.1, HF.out.2, r, ⟨r0, by omega⟩, rfl⟩
          · obtain ⟨⟨L4, hL, g, g1, g2, g3, e1, e2⟩, r, hr, e3⟩ := hp
            simp only [e1, e3]
            obtain ⟨n, rfl⟩ := Int.eq_ofNat_of_zero_le hr.1
            have hn : n < 4 := by omega
            have HX := Lib.hid (e2 n (by omega))
            have hn' : n ≤ 3 := by omega
            clear e1 e2 e3 hC
            go_wp2
            exact ⟨rfl, HCx.out.step, SoR.refl _ _ _, g, _, g1, g2, g3, rfl, _, HX.out⟩
          · obtain ⟨g, o, g1, g2, g3, e1, z, hc⟩ := hp
            simp only [e1]
            clear e1 hC
            go_wp2
            exact ⟨rfl, HCx.out.step, SoR.refl _ _ _, _, rfl⟩
          · go_wp2
            exact ⟨rfl, HCx.out.step, SoR.refl _ _ _, rfl⟩
          · obtain ⟨z, e1⟩ := hp.2.1
            have e2 := hp.1
            simp only [e1, e2]
            clear e1 e2 hp
            obtain ⟨_, _, dd, hw⟩ := hC
            have y4 := hw.read 4
            have z4 := hw.free 4
            simp at y4
            clear hw
            have HF := Lib.hid (HCx.out.store hpb.1 hpb.2 z)
            go_wp2
            exact ⟨rfl, HF.out.1, HF.out.2, trivial⟩
        · intro w6 vals hC hV
          obtain ⟨⟨k6, hk6, hs6⟩, hr6, dd, hp6⟩ := hC
          have HS := Lib.hid hs6
          have HR := Lib.hid hr6
          have HP := Lib.hid hp6
          clear hs6 hr6 hp6 hV HC0
          simp only [fillA, if_true, Act.put]
          simp
          have HF := Lib.hid (fun (u0 u1 u2 u3 u4 : Value) => ((((HS.out.set (g := w.heap.size) hBw (Nat.le_refl _) 0 u0).set (g := w.heap.size) hBw (Nat.le_refl _) 1 u1).set (g := w.heap.size) hBw (Nat.le_refl _) 2 u2).set (g := w.heap.size) hBw (Nat.le_refl _) 3 u3).set (g := w.heap.size) hBw (Nat.le_refl _) 4 u4)
          have y0 := HR.out.read 0
          have y1 := HR.out.read 1
          have y2 := HR.out.read 2
          have y3 := HR.out.read 3
          have y4 := HR.out.read 4
          simp at y0 y1 y2 y3 y4
          have z0 := HR.out.free 0
          have z1 := HR.out.free 1
          have z2 := HR.out.free 2
          have z3 := HR.out.free 3
          have z4 := HR.out.free 4
          have p0 := HP.out.read 0
          have p1 := HP.out.read 1
          have p2 := HP.out.read 2
          have p3 := HP.out.read 3
          have p4 := HP.out.read 4
          simp at p0 p1 p2 p3 p4
          clear HS HR HP
          go_wp2
          exact bodyPost_ret (v := .agg #[.int .i64 id, .int .i64 f, .int .i64 l, .int .i64 x, .int .i64 dd]) (by simp [results, Try.results20, go_sem, y0, y1, y2, y3, y4]) rfl ⟨⟨id, f, l, x, dd⟩, rfl, .inl rfl, ⟨_, by omega, (HF.out _ _ _ _ _).1⟩, (HF.out _ _ _ _ _).2⟩
      · have HF := Lib.hid (fun (u0 u1 u2 u3 u4 : Value) => ((((HS.out.set (g := w.heap.size) hBw (Nat.le_refl _) 0 u0).set (g := w.heap.size) hBw (Nat.le_refl _) 1 u1).set (g := w.heap.size) hBw (Nat.le_refl _) 2 u2).set (g := w.heap.size) hBw (Nat.le_refl _) 3 u3).set (g := w.heap.size) hBw (Nat.le_refl _) 4 u4)
        have y0 := HR.out.read 0
        have y1 := HR.out.read 1
        have y2 := HR.out.read 2
        have y3 := HR.out.read 3
        have y4 := HR.out.read 4
        simp at y0 y1 y2 y3 y4
        have z0 := HR.out.free 0
        have z1 := HR.out.free 1
        have z2 := HR.out.free 2
        have z3 := HR.out.free 3
        have z4 := HR.out.free 4
        have p0 := HP.out.read 0
        have p1 := HP.out.read 1
        have p2 := HP.out.read 2
        have p3 := HP.out.read 3
        have p4 := HP.out.read 4
        simp at p0 p1 p2 p3 p4
        clear HS HR HP
        go_wp2
        exact bodyPost_ret (v := .agg #[.int .i64 id, .int .i64 f, .int .i64 l, .int .i64 x, .int .i64 dd]) (by simp [results, Try.results20, go_sem, y0, y1, y2, y3, y4]) rfl ⟨⟨id, f, l, x, dd⟩, rfl, .inl rfl, ⟨_, by omega, (HF.out _ _ _ _ _).1⟩, (HF.out _ _ _ _ _).2⟩
  · have HS := HS3
    have HR := HR4
    have HP := HP4
    clear HS3 HR4 HP4
    go_wp2_with fail
    refine (next_any B a len cap (k + 1 + 1 + 1 + 1) 25 _ (by decide) (by decide) (by omega) HS.out.1).mono ?_
    rintro e w5 ⟨t, t0, t1, rfl, hg1, ho1⟩
    have HS2 := Lib.hid (show GSt B a len cap ((k + 1 + 1 + 1 + 1) + 1) w w5 from ⟨hg1, HS.out.2.trans ho1⟩)
    have HR2 := Lib.hid (HR.out.carry (ho1.block _ HR.out.size_lt (by omega)))
    have HP2 := Lib.hid (HP.out.carry (ho1.block _ HP.out.size_lt (by omega)))
    clear HS HR HP
    replace HS := HS2
    replace HR := HR2
    replace HP := HP2
    rcases (by omega : t = 0 ∨ t = 1 ∨ t = 2 ∨ t = 3 ∨ t = 4 ∨ 5 ≤ t) with rfl | rfl | rfl | rfl | rfl | ht
    · go_wp2_with fail
      refine (next_any B a len cap ((k + 1 + 1 + 1 + 1) + 1) 2 _ (by decide) (by decide) (by omega) HS.out.1).mono ?_
      rintro e w6 ⟨r, r0, r1, rfl, hg1, ho1⟩
      have HS2 := Lib.hid (show GSt B a len cap (((k + 1 + 1 + 1 + 1) + 1) + 1) w w6 from ⟨hg1, HS.out.2.trans ho1⟩)
      have HR2 := Lib.hid (HR.out.carry (ho1.block _ HR.out.size_lt (by omega)))
      have HP2 := Lib.hid (HP.out.carry (ho1.block _ HP.out.size_lt (by omega)))
      clear HS HR HP
      replace HS := HS2
      replace HR := HR2
      replace HP := HP2
      have HS2 := Lib.hid (HS.out.set (g := w3.heap.size) hpb.2 (Nat.le_of_lt hpb.1) 0 (.int .i64 (r - 1)))
      have HR2 := Lib.hid (HR.out.other (g' := w3.heap.size) (by omega) 0 (.int .i64 (r - 1)))
      have HP2 := Lib.hid (HP.out.put 0 (.int .i64 (r - 1)))
      have p0 := HP.out.read 0
      have z0 := HP.out.free 0
      simp at p0
      clear HS HR HP
      replace HS := HS2
      replace HR := HR2
      replace HP := HP2
      have HF := Lib.hid (fun (u0 u1 u2 u3 u4 : Value) => ((((HS.out.set (g := w.heap.size) hBw (Nat.le_refl _) 0 u0).set (g := w.heap.size) hBw (Nat.le_refl _) 1 u1).set (g := w.heap.size) hBw (Nat.le_refl _) 2 u2).set (g := w.heap.size) hBw (Nat.le_refl _) 3 u3).set (g := w.heap.size) hBw (Nat.le_refl _) 4 u4)
      have y0 := HR.out.read 0
      have y1 := HR.out.read 1
      have y2 := HR.out.read 2
      have y3 := HR.out.read 3
      have y4 := HR.out.read 4
      simp at y0 y1 y2 y3 y4
      have z0 := HR.out.free 0
      have z1 := HR.out.free 1
      have z2 := HR.out.free 2
      have z3 := HR.out.free 3
      have z4 := HR.out.free 4
      have p0 := HP.out.read 0
      have p1 := HP.out.read 1
      have p2 := HP.out.read 2
      have p3 := HP.out.read 3
      have p4 := HP.out.read 4
      simp at p0 p1 p2 p3 p4
      clear HS HR HP
      go_wp2
      exact bodyPost_ret (v := .agg #[.int .i64 (r - 1), .int .i64 f, .int .i64 l, .int .i64 x, .int .i64 (-1)]) (by simp [results, Try.results20, go_sem, y0, y1, y2, y3, y4]) rfl ⟨⟨(r - 1), f, l, x, (-1)⟩, rfl, .inr (by show r - 1 < 1; omega), ⟨_, by omega, (HF.out _ _ _ _ _).1⟩, (HF.out _ _ _ _ _).2⟩
    · have HSa := Lib.hid (HS.out.alloc (.cells #[.int .i64 (-1), .int .i64 32] 3))
      have HRa := Lib.hid (HR.out.alloc (.cells #[.int .i64 (-1), .int .i64 32] 3))
      have HPa := Lib.hid (HP.out.alloc (.cells #[.int .i64 (-1), .int .i64 32] 3))
      have hB5 := HS.out.1.lt
      clear HS HR HP
      go_wp2_with fail
      refine (next_any B a len cap ((k + 1 + 1 + 1 + 1) + 1) 2 _ (by decide) (by decide) (by omega) HSa.out.1).mono ?_
      rintro e w6 ⟨r, r0, r1, rfl, hg1, ho1⟩
      obtain ⟨rn, rfl⟩ := Int.eq_ofNat_of_zero_le r0
      obtain ⟨v, _, hcv⟩ := pickN (L := [(-1), 32]) rfl ho1 hB5 (n := rn) (by show rn < 2; omega)
      have hrn : rn ≤ 1 := by omega
      have HS := Lib.hid (show GSt B a len cap (((k + 1 + 1 + 1 + 1) + 1) + 1) w w6 from ⟨hg1, HSa.out.2.trans ho1⟩)
      have HR := Lib.hid (HRa.out.carry (ho1.block _ HRa.out.size_lt (by omega)))
      have HP := Lib.hid (HPa.out.carry (ho1.block _ HPa.out.size_lt (by omega)))
      clear HSa HRa HPa hg1 ho1
      have HS2 := Lib.hid (HS.out.set (g := w3.heap.size) hpb.2 (Nat.le_of_lt hpb.1) 1 (.int .i64 v))
      have HR2 := Lib.hid (HR.out.other (g' := w3.heap.size) (by omega) 1 (.int .i64 v))
      have HP2 := Lib.hid (HP.out.put 1 (.int .i64 v))
      have p1 := HP.out.read 1
      have z1 := HP.out.free 1
      simp at p1
      clear HS HR HP
      replace HS := HS2
      replace HR := HR2
      replace HP := HP2
      have HF := Lib.hid (fun (u0 u1 u2 u3 u4 : Value) => ((((HS.out.set (g := w.heap.size) hBw (Nat.le_refl _) 0 u0).set (g := w.heap.size) hBw (Nat.le_refl _) 1 u1).set (g := w.heap.size) hBw (Nat.le_refl _) 2 u2).set (g := w.heap.size) hBw (Nat.le_refl _) 3 u3).set (g := w.heap.size) hBw (Nat.le_refl _) 4 u4)
      have y0 := HR.out.read 0
      have y1 := HR.out.read 1
      have y2 := HR.out.read 2
      have y3 := HR.out.read 3
      have y4 := HR.out.read 4
      simp at y0 y1 y2 y3 y4
      have z0 := HR.out.free 0
      have z1 := HR.out.free 1
      have z2 := HR.out.free 2
      have z3 := HR.out.free 3
      have z4 := HR.out.free 4
      have p0 := HP.out.read 0
      have p1 := HP.out.read 1
      have p2 := HP.out.read 2
      have p3 := HP.out.read 3
      have p4 := HP.out.read 4
      simp at p0 p1 p2 p3 p4
      clear HS HR HP
      go_wp2
      exact bodyPost_ret (v := .agg #[.int .i64 id, .int .i64 v, .int .i64 l, .int .i64 x, .int .i64 (-1)]) (by simp [results, Try.results20, go_sem, y0, y1, y2, y3, y4]) rfl ⟨⟨id, v, l, x, (-1)⟩, rfl, .inl rfl, ⟨_, by omega, (HF.out _ _ _ _ _).1⟩, (HF.out _ _ _ _ _).2⟩
    · have HSa := Lib.hid (HS.out.alloc (.cells #[.int .i64 0, .int .i64 4097] 3))
      have HRa := Lib.hid (HR.out.alloc (.cells #[.int .i64 0, .int .i64 4097] 3))
      have HPa := Lib.hid (HP.out.alloc (.cells #[.int .i64 0, .int .i64 4097] 3))
      have hB5 := HS.out.1.lt
      clear HS HR HP
      go_wp2_with fail
      refine (next_any B a len cap ((k + 1 + 1 + 1 + 1) + 1) 2 _ (by decide) (by decide) (by omega) HSa.out.1).mono ?_
      rintro e w6 ⟨r, r0, r1, rfl, hg1, ho1⟩
      obtain ⟨rn, rfl⟩ := Int.eq_ofNat_of_zero_le r0
      obtain ⟨v, _, hcv⟩ := pickN (L := [0, 4097]) rfl ho1 hB5 (n := rn) (by show rn < 2; omega)
      have hrn : rn ≤ 1 := by omega
      have HS := Lib.hid (show GSt B a len cap (((k + 1 + 1 + 1 + 1) + 1) + 1) w w6 from ⟨hg1, HSa.out.2.trans ho1⟩)
      have HR := Lib.hid (HRa.out.carry (ho1.block _ HRa.out.size_lt (by omega)))
      have HP := Lib.hid (HPa.out.carry (ho1.block _ HPa.out.size_lt (by omega)))
      clear HSa HRa HPa hg1 ho1
      have HS2 := Lib.hid (HS.out.set (g := w3.heap.size) hpb.2 (Nat.le_of_lt hpb.1) 2 (.int .i64 v))
      have HR2 := Lib.hid (HR.out.other (g' := w3.heap.size) (by omega) 2 (.int .i64 v))
      have HP2 := Lib.hid (HP.out.put 2 (.int .i64 v))
      have p2 := HP.out.read 2
      have z2 := HP.out.free 2
      simp at p2
      clear HS HR HP
      replace HS := HS2
      replace HR := HR2
      replace HP := HP2
      have HF := Lib.hid (fun (u0 u1 u2 u3 u4 : Value) => ((((HS.out.set (g := w.heap.size) hBw (Nat.le_refl _) 0 u0).set (g := w.heap.size) hBw (Nat.le_refl _) 1 u1).set (g := w.heap.size) hBw (Nat.le_refl _) 2 u2).set (g := w.heap.size) hBw (Nat.le_refl _) 3 u3).set (g := w.heap.size) hBw (Nat.le_refl _) 4 u4)
      have y0 := HR.out.read 0
      have y1 := HR.out.read 1
      have y2 := HR.out.read 2
      have y3 := HR.out.read 3
      have y4 := HR.out.read 4
      simp at y0 y1 y2 y3 y4
      have z0 := HR.out.free 0
      have z1 := HR.out.free 1
      have z2 := HR.out.free 2
      have z3 := HR.out.free 3
      have z4 := HR.out.free 4
      have p0 := HP.out.read 0
      have p1 := HP.out.read 1
      have p2 := HP.out.read 2
      have p3 := HP.out.read 3
      have p4 := HP.out.read 4
      simp at p0 p1 p2 p3 p4
      clear HS HR HP
      go_wp2
      exact bodyPost_ret (v := .agg #[.int .i64 id, .int .i64 f, .int .i64 v, .int .i64 x, .int .i64 (-1)]) (by simp [results, Try.results20, go_sem, y0, y1, y2, y3, y4]) rfl ⟨⟨id, f, v, x, (-1)⟩, rfl, .inl rfl, ⟨_, by omega, (HF.out _ _ _ _ _).1⟩, (HF.out _ _ _ _ _).2⟩
    · have HSa := Lib.hid (HS.out.alloc (.cells #[.int .i64 (-1), .int .i64 16385, .int .i64 16384] 3))
      have HRa := Lib.hid (HR.out.alloc (.cells #[.int .i64 (-1), .int .i64 16385, .int .i64 16384] 3))
      have HPa := Lib.hid (HP.out.alloc (.cells #[.int .i64 (-1), .int .i64 16385, .int .i64 16384] 3))
      have hB5 := HS.out.1.lt
      clear HS HR HP
      go_wp2_with fail
      refine (next_any B a len cap ((k + 1 + 1 + 1 + 1) + 1) 3 _ (by decide) (by decide) (by omega) HSa.out.1).mono ?_
      rintro e w6 ⟨r, r0, r1, rfl, hg1, ho1⟩
      obtain ⟨rn, rfl⟩ := Int.eq_ofNat_of_zero_le r0
      obtain ⟨v, _, hcv⟩ := pickN (L := [(-1), 16385, 16384]) rfl ho1 hB5 (n := rn) (by show rn < 3; omega)
      have hrn : rn ≤ 2 := by omega
      have HS := Lib.hid (show GSt B a len cap (((k + 1 + 1 + 1 + 1) + 1) + 1) w w6 from ⟨hg1, HSa.out.2.trans ho1⟩)
      have HR := Lib.hid (HRa.out.carry (ho1.block _ HRa.out.size_lt (by omega)))
      have HP := Lib.hid (HPa.out.carry (ho1.block _ HPa.out.size_lt (by omega)))
      clear HSa HRa HPa hg1 ho1
      have HS2 := Lib.hid (HS.out.set (g := w3.heap.size) hpb.2 (Nat.le_of_lt hpb.1) 3 (.int .i64 v))
      have HR2 := Lib.hid (HR.out.other (g' := w3.heap.size) (by omega) 3 (.int .i64 v))
      have HP2 := Lib.hid (HP.out.put 3 (.int .i64 v))
      have p3 := HP.out.read 3
      have z3 := HP.out.free 3
      simp at p3
      clear HS HR HP
      replace HS := HS2
      replace HR := HR2
      replace HP := HP2
      have HF := Lib.hid (fun (u0 u1 u2 u3 u4 : Value) => ((((HS.out.set (g := w.heap.size) hBw (Nat.le_refl _) 0 u0).set (g := w.heap.size) hBw (Nat.le_refl _) 1 u1).set (g := w.heap.size) hBw (Nat.le_refl _) 2 u2).set (g := w.heap.size) hBw (Nat.le_refl _) 3 u3).set (g := w.heap.size) hBw (Nat.le_refl _) 4 u4)
      have y0 := HR.out.read 0
      have y1 := HR.out.read 1
      have y2 := HR.out.read 2
      have y3 := HR.out.read 3
      have y4 := HR.out.read 4
      simp at y0 y1 y2 y3 y4
      have z0 := HR.out.free 0
      have z1 := HR.out.free 1
      have z2 := HR.out.free 2
      have z3 := HR.out.free 3
      have z4 := HR.out.free 4
      have p0 := HP.out.read 0
      have p1 := HP.out.read 1
      have p2 := HP.out.read 2
      have p3 := HP.out.read 3
      have p4 := HP.out.read 4
      simp at p0 p1 p2 p3 p4
      clear HS HR HP
      go_wp2
      exact bodyPost_ret (v := .agg #[.int .i64 id, .int .i64 f, .int .i64 l, .int .i64 v, .int .i64 (-1)]) (by simp [results, Try.results20, go_sem, y0, y1, y2, y3, y4]) rfl ⟨⟨id, f, l, v, (-1)⟩, rfl, .inl rfl, ⟨_, by omega, (HF.out _ _ _ _ _).1⟩, (HF.out _ _ _ _ _).2⟩
    · have HC0 := Lib.hid (show SoC B a len cap (((k + 1 + 1 + 1 + 1) + 1) + 10) w3.heap.size id f l x w 10 w5.drew from ⟨⟨_, by omega, HS.out.drew⟩, HR.out, _, HP.out⟩)
      clear HS HR HP
      go_wp2_with fail
      refine wp_region_loose 67 (by kernel_rfl) (by kernel_rfl) (SoC B a len cap (((k + 1 + 1 + 1 + 1) + 1) + 10) w3.heap.size id f l x w) (SoR B w3.heap.size) (SoV B w3.heap.size x true) rfl (fun i v w w' h hv => SoV.keep i v w w' h hv) HC0.out ?_ ?_
      · simp only [OblAll]
        refine ⟨?_, ?_, ?_, ?_, ?_, ?_, ?_, ?_, ?_, ?_, trivial⟩
        all_goals
          intro fu wx vals hC hp
          simp [predL, predE, Region.binds, PreV, SoV] at hp
          simp only [fillA, if_true, Act.put]
          simp
          have HCx := Lib.hid hC
        · go_wp2
          exact ⟨rfl, HCx.out.step, SoR.refl _ _ _, rfl⟩
        · simp only [hp]
          clear hp
          obtain ⟨_, _, dd, hw⟩ := hC
          have y3 := hw.read 3
          simp at y3
          clear hw
          go_wp2
          exact ⟨rfl, HCx.out.step, SoR.refl _ _ _, rfl⟩
        · simp only [hp]
          clear hp hC
          go_wp2
          exact ⟨rfl, HCx.out.step, SoR.refl _ _ _, _, rfl⟩
        · obtain ⟨z, e1⟩ := hp
          simp only [e1]
          clear e1 hC
          go_wp2
          exact ⟨rfl, HCx.out.alloc _, SoR.only (Only.alloc B wx _), SoRow.new hpb.2 HCx.out.1 HCx.out.2.2 (L := [z, -2, 81919, 81920]) rfl rfl _⟩
        · go_wp2
          exact ⟨rfl, HCx.out.step, SoR.refl _ _ _, rfl⟩
        · simp only [hp]
          clear hp
          obtain ⟨⟨kk, hkk, hg'⟩, _⟩ := hC
          go_wp2_with fail
          refine (next_any B a len cap kk 4 _ (by decide) (by decide) (by omega) hg'.1).mono ?_
          rintro e w' ⟨r, r0, r1, rfl, hg2, ho⟩
          have HF := Lib.hid (And.intro (HCx.out.call hpb.2 (by omega) hg2 ho) (SoR.only (H := w3.heap.size) ho))
          clear hg' hg2 ho
          go_wp2
          exact ⟨rfl, HF.out.1, HF.out.2, r, ⟨r0, by omega⟩, rfl⟩
        · obtain ⟨⟨L4, hL, g, g1, g2, g3, e1, e2⟩, r, hr, e3⟩ := hp
          simp only [e1, e3]
          obtain ⟨n, rfl⟩ := Int.eq_ofNat_of_zero_le hr.1
          have hn : n < 4 := by omega
          have HX := Lib.hid (e2 n (by omega))
          have hn' : n ≤ 3 := by omega
          clear e1 e2 e3 hC
          go_wp2
          exact ⟨rfl, HCx.out.step, SoR.refl _ _ _, g, _, g1, g2, g3, rfl, _, HX.out⟩
        · obtain ⟨g, o, g1, g2, g3, e1, z, hc⟩ := hp
          simp only [e1]
          clear e1 hC
          go_wp2
          exact ⟨rfl, HCx.out.step, SoR.refl _ _ _, _, rfl⟩
        · go_wp2
          exact ⟨rfl, HCx.out.step, SoR.refl _ _ _, rfl⟩
        · obtain ⟨z, e1⟩ := hp.2.1
          have e2 := hp.1
          simp only [e1, e2]
          clear e1 e2 hp
          obtain ⟨_, _, dd, hw⟩ := hC
          have y4 := hw.read 4
          have z4 := hw.free 4
          simp at y4
          clear hw
          have HF := Lib.hid (HCx.out.store hpb.1 hpb.2 z)
          go_wp2
          exact ⟨rfl, HF.out.1, HF.out.2, trivial⟩
      · intro w6 vals hC hV
        obtain ⟨⟨k6, hk6, hs6⟩, hr6, dd, hp6⟩ := hC
        have HS := Lib.hid hs6
        have HR := Lib.hid hr6
        have HP := Lib.hid hp6
        clear hs6 hr6 hp6 hV HC0
        simp only [fillA, if_true, Act.put]
        simp
        have HF := Lib.hid (fun (u0 u1 u2 u3 u4 : Value) => ((((HS.out.set (g := w.heap.size) hBw (Nat.le_refl _) 0 u0).set (g := w.heap.size) hBw (Nat.le_refl _) 1 u1).set (g := w.heap.size) hBw (Nat.le_refl _) 2 u2).set (g := w.heap.size) hBw (Nat.le_refl _) 3 u3).set (g := w.heap.size) hBw (Nat.le_refl _) 4 u4)
        have y0 := HR.out.read 0
        have y1 := HR.out.read 1
        have y2 := HR.out.read 2
        have y3 := HR.out.read 3
        have y4 := HR.out.read 4
        simp at y0 y1 y2 y3 y4
        have z0 := HR.out.free 0
        have z1 := HR.out.free 1
        have z2 := HR.out.free 2
        have z3 := HR.out.free 3
        have z4 := HR.out.free 4
        have p0 := HP.out.read 0
        have p1 := HP.out.read 1
        have p2 := HP.out.read 2
        have p3 := HP.out.read 3
        have p4 := HP.out.read 4
        simp at p0 p1 p2 p3 p4
        clear HS HR HP
        go_wp2
        exact bodyPost_ret (v := .agg #[.int .i64 id, .int .i64 f, .int .i64 l, .int .i64 x, .int .i64 dd]) (by simp [results, Try.results20, go_sem, y0, y1, y2, y3, y4]) rfl ⟨⟨id, f, l, x, dd⟩, rfl, .inl rfl, ⟨_, by omega, (HF.out _ _ _ _ _).1⟩, (HF.out _ _ _ _ _).2⟩
    · have HF := Lib.hid (fun (u0 u1 u2 u3 u4 : Value) => ((((HS.out.set (g := w.heap.size) hBw (Nat.le_refl _) 0 u0).set (g := w.heap.size) hBw (Nat.le_refl _) 1 u1).set (g := w.heap.size) hBw (Nat.le_refl _) 2 u2).set (g := w.heap.size) hBw (Nat.le_refl _) 3 u3).set (g := w.heap.size) hBw (Nat.le_refl _) 4 u4)
      have y0 := HR.out.read 0
      have y1 := HR.out.read 1
      have y2 := HR.out.read 2
      have y3 := HR.out.read 3
      have y4 := HR.out.read 4
      simp at y0 y1 y2 y3 y4
      have z0 := HR.out.free 0
      have z1 := HR.out.free 1
      have z2 := HR.out.free 2
      have z3 := HR.out.free 3
      have z4 := HR.out.free 4
      have p0 := HP.out.read 0
      have p1 := HP.out.read 1
      have p2 := HP.out.read 2
      have p3 := HP.out.read 3
      have p4 := HP.out.read 4
      simp at p0 p1 p2 p3 p4
      clear HS HR HP
      go_wp2
      exact bodyPost_ret (v := .agg #[.int .i64 id, .int .i64 f, .int .i64 l, .int .i64 x, .int .i64 (-1)]) (by simp [results, Try.results20, go_sem, y0, y1, y2, y3, y4]) rfl ⟨⟨id, f, l, x, (-1)⟩, rfl, .inl rfl, ⟨_, by omega, (HF.out _ _ _ _ _).1⟩, (HF.out _ _ _ _ _).2⟩
end Go.Proofs.Ytijdfkdfojiffaa

