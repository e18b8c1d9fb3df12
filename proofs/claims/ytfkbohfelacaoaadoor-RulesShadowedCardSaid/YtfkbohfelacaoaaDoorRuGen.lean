/-
  The generator's Rule (package airsharegen).
-/
import Derived.Test.YtfkbohfelacaoaaDoorHdGen
import Derived.Test.YtfkbohfelacaoaaDoorRuOk
namespace Go.Proofs.YtfkbohfelacaoaaDoor
open Go.ChangeShapes Go.WideShapes Go.ChangeAt Go.RowKit
set_option linter.unusedVariables false

/-- A rule's station is empty or of the list, its numbers are permitted. -/
def RuG (st : ByteArray) (c f l n : Int) : Prop := (st = ⟨#[]⟩ ∨ st ∈ goodL) ∧ (-1 ≤ c ∧ c ≤ 7) ∧ (0 ≤ f ∧ f ≤ l ∧ l ≤ 65535) ∧ (0 ≤ n ∧ n ≤ 3)
theorem good_nam {st : ByteArray} (h : st ∈ goodL) : (nam st).isSome = true := by
  have key : goodL.all (fun st => (nam st).isSome) = true := by decide +kernel
  exact List.all_eq_true.1 key st h
theorem RuG.ok {st : ByteArray} {c f l n : Int} (h : RuG st c f l n) : ruOk ⟨st, c, f, l, n⟩ = true := by
  obtain ⟨h1, h2, h3, h4⟩ := h
  unfold ruOk ruNum
  rw [Bool.and_eq_true, Bool.or_eq_true, decide_eq_true_eq, decide_eq_true_eq]
  refine ⟨?_, h2, h3, by simp only; omega⟩
  rcases h1 with rfl | h1
  · exact .inl rfl
  · exact .inr (good_nam h1)
theorem RuG.size {st : ByteArray} {c f l n : Int} (h : RuG st c f l n) : st.size ≤ 24 := by
  rcases h.1 with rfl | h1
  · decide
  · have key : goodL.all (fun st => decide (st.size ≤ 24)) = true := by decide +kernel
    exact of_decide_eq_true (List.all_eq_true.1 key st h1)
/-- What Rule answers: at most twenty more numbers have been taken. -/
def GaveRu (B : Nat) (a : Option Addr) (len cap k : Nat) (w : World) (e : Ending) (w' : World) : Prop :=
  ∃ (st : ByteArray) (c f l n : Int), RuG st c f l n ∧ e = .returned (.agg #[.string st, .int .i64 c, .int .i64 f, .int .i64 l, .int .i64 n]) ∧ (∃ k', k' ≤ k + 20 ∧ Gen B a len cap k' w') ∧ Only B w w'
def portR : List Int := [0, 1, 80, 90, 100, 65535]
theorem portR_bd : ∀ i (h : i < portR.length), 0 ≤ portR[i] ∧ portR[i] ≤ 65535 := by decide
def RgC (B : Nat) (a : Option Addr) (len cap K : Nat) (w0 : World) (f : Nat) (w : World) : Prop := (∃ k, k + f ≤ K ∧ Gen B a len cap k w) ∧ Only B w0 w
def RgR (B : Nat) (w w' : World) : Prop := Only B w w'
def RgV (B : Nat) : Nat → Value → World → Prop
  | 0, v, w => RowV B B portR v w
  | 1, v, _ => v = .pointer (some ⟨B, 0, none⟩)
  | 2, v, _ => IntV 0 5 v
  | 3, v, w => PtrV B B 65535 v w
  | 4, v, _ => IntV 0 65535 v
  | 5, v, w => RowV B B portR v w
  | 6, v, _ => v = .pointer (some ⟨B, 0, none⟩)
  | 7, v, _ => IntV 0 5 v
  | 8, v, w => PtrV B B 65535 v w
  | 9, v, _ => IntV 0 65535 v
  | 10, v, _ => IntV 0 65535 v
  | 11, v, _ => IntV 0 65535 v
  | _, _, _ => True
theorem RgR.row {B : Nat} {w w' : World} (h : RgR B w w') {L : List Int} {v : Value} (hv : RowV B B L v w) : RowV B B L v w' := by
  obtain ⟨g, h1, h2, h3, h4, h5⟩ := hv
  exact ⟨g, h1, h2, by have := h.size; omega, h4, fun i hi => by rw [Only.cell h h3 h1]; exact h5 i hi⟩
theorem RgR.ptr {B : Nat} {w w' : World} (h : RgR B w w') {m : Int} {v : Value} (hv : PtrV B B m v w) : PtrV B B m v w' := by
  obtain ⟨g, o, h1, h2, h3, h4, x, h5, h6⟩ := hv
  exact ⟨g, o, h1, h2, by have := h.size; omega, h4, x, h5, by rw [Only.cell h h3 h1]; exact h6⟩
theorem RgV.keep {B : Nat} (i : Nat) (v : Value) (w w' : World) (h : RgR B w w') (hv : RgV B i v w) : RgV B i v w' := by
  unfold RgV at *
  split at hv <;> first | exact hv | exact h.row hv | exact h.ptr hv | trivial
theorem RgC.step {B : Nat} {a : Option Addr} {len cap K f : Nat} {w0 w : World} (h : RgC B a len cap K w0 (f + 1) w) : RgC B a len cap K w0 f w := by
  obtain ⟨⟨k, hk, hg⟩, h2⟩ := h
  exact ⟨⟨k, by omega, hg⟩, h2⟩
theorem RgC.call {B : Nat} {a : Option Addr} {len cap K f k : Nat} {w0 w w' : World} (h : RgC B a len cap K w0 (f + 1) w) (hk : k + 1 + f ≤ K) (hg : Gen B a len cap (k + 1) w') (ho : Only B w w') : RgC B a len cap K w0 f w' := ⟨⟨k + 1, hk, hg⟩, h.2.trans ho⟩
theorem RgC.alloc {B : Nat} {a : Option Addr} {len cap K f : Nat} {w0 w : World} (h : RgC B a len cap K w0 (f + 1) w) (o : Obj) : RgC B a len cap K w0 f (w.alloc o) := by
  obtain ⟨⟨k, hk, hg⟩, h2⟩ := h
  exact ⟨⟨k, by omega, hg.alloc o⟩, h2.trans (Only.alloc B w o)⟩
theorem Only.put {B : Nat} {w wx : World} (h : Only B w wx) {b o : Nat} (hb : w.heap.size ≤ b) (u : Value) : Only B w (wx.setCell ⟨b, o, none⟩ u) := by
  have k := (Below.refl w.heap.size wx).setCell (p := ⟨b, o, none⟩) hb u
  exact ⟨k.os.trans h.os, k.tape.trans h.tape, k.output.trans h.output, Nat.le_trans h.size k.size, fun j hj hn => (k.block j hj).trans (h.block j hj hn)⟩
/-- In Rule: the choices, the result's block, the rule's block. -/
structure QG (B : Nat) (a : Option Addr) (len cap K : Nat) (w wx : World) (b3 : Nat) (st : ByteArray) (c f l n : Int) : Prop where
  gen : ∃ k, k ≤ K ∧ Gen B a len cap k wx
  only : Only B w wx
  res : Whole wx w.heap.size 29 #[.string ⟨#[]⟩, .int .i64 0, .int .i64 0, .int .i64 0, .int .i64 0]
  rul : Whole wx b3 29 #[.string st, .int .i64 c, .int .i64 f, .int .i64 l, .int .i64 n]
  lt : w.heap.size < b3
  ltB : B < w.heap.size
section
variable {B : Nat} {a : Option Addr} {len cap K K' k : Nat} {w wx wy : World} {b3 : Nat} {st : ByteArray} {c f l n : Int}
theorem QG.call (h : QG B a len cap K w wx b3 st c f l n) (hg : ∃ k, k ≤ K' ∧ Gen B a len cap k wy) (ho : Only B wx wy) : QG B a len cap K' w wy b3 st c f l n := by
  have h1 := h.lt
  have h2 := h.ltB
  exact ⟨hg, h.only.trans ho, h.res.carry (ho.block _ h.res.size_lt (by omega)), h.rul.carry (ho.block _ h.rul.size_lt (by omega)), h1, h2⟩
theorem QG.far (h : QG B a len cap K w wx b3 st c f l n) (i : Nat) (v : Value) {st' : ByteArray} {c' f' l' n' : Int} (hw : Whole (wx.setCell ⟨b3, i, none⟩ v) b3 29 #[.string st', .int .i64 c', .int .i64 f', .int .i64 l', .int .i64 n']) : QG B a len cap K w (wx.setCell ⟨b3, i, none⟩ v) b3 st' c' f' l' n' := by
  have h1 := h.lt
  have h2 := h.ltB
  obtain ⟨k, hk, hg⟩ := h.gen
  exact ⟨⟨k, hk, hg.kept ((Below.refl _ _).setCell (p := ⟨b3, i, none⟩) (by show B + 1 ≤ b3; omega) _)⟩, h.only.put (by omega) _, h.res.carry (Below.heap_setCell _ _ _ _ (by show w.heap.size ≠ b3; omega)), hw, h1, h2⟩
theorem QG.put0 (h : QG B a len cap K w wx b3 st c f l n) (x : ByteArray) : QG B a len cap K w (wx.setCell ⟨b3, 0, none⟩ (.string x)) b3 x c f l n := h.far 0 _ (h.rul.put 0 _)
theorem QG.put2 (h : QG B a len cap K w wx b3 st c f l n) (x : Int) : QG B a len cap K w (wx.setCell ⟨b3, 2, none⟩ (.int .i64 x)) b3 st c x l n := h.far 2 _ (h.rul.put 2 _)
theorem QG.put3 (h : QG B a len cap K w wx b3 st c f l n) (x : Int) : QG B a len cap K w (wx.setCell ⟨b3, 3, none⟩ (.int .i64 x)) b3 st c f x n := h.far 3 _ (h.rul.put 3 _)
theorem QG.facts (h : QG B a len cap K w wx b3 st c f l n) : (wx.cell? ⟨b3, 0, none⟩ = some (.string st) ∧ wx.cell? ⟨b3, 1, none⟩ = some (.int .i64 c) ∧ wx.cell? ⟨b3, 2, none⟩ = some (.int .i64 f) ∧ wx.cell? ⟨b3, 3, none⟩ = some (.int .i64 l) ∧ wx.cell? ⟨b3, 4, none⟩ = some (.int .i64 n)) ∧
    (wx.frozen? ⟨b3, 0, none⟩ = false ∧ wx.frozen? ⟨b3, 1, none⟩ = false ∧ wx.frozen? ⟨b3, 2, none⟩ = false ∧ wx.frozen? ⟨b3, 3, none⟩ = false ∧ wx.frozen? ⟨b3, 4, none⟩ = false) := by
  have k := h.rul
  exact ⟨⟨k.read 0, k.read 1, k.read 2, k.read 3, k.read 4⟩, ⟨k.free 0, k.free 1, k.free 2, k.free 3, k.free 4⟩⟩
theorem QG.zeros (h : QG B a len cap K w wx b3 st c f l n) : (wx.cell? ⟨w.heap.size, 0, none⟩ = some (.string ⟨#[]⟩) ∧ wx.cell? ⟨w.heap.size, 1, none⟩ = some (.int .i64 0) ∧ wx.cell? ⟨w.heap.size, 2, none⟩ = some (.int .i64 0) ∧ wx.cell? ⟨w.heap.size, 3, none⟩ = some (.int .i64 0) ∧ wx.cell? ⟨w.heap.size, 4, none⟩ = some (.int .i64 0)) ∧
    (wx.frozen? ⟨w.heap.size, 0, none⟩ = false ∧ wx.frozen? ⟨w.heap.size, 1, none⟩ = false ∧ wx.frozen? ⟨w.heap.size, 2, none⟩ = false ∧ wx.frozen? ⟨w.heap.size, 3, none⟩ = false ∧ wx.frozen? ⟨w.heap.size, 4, none⟩ = false) := by
  have k := h.res
  exact ⟨⟨k.read 0, k.read 1, k.read 2, k.read 3, k.read 4⟩, ⟨k.free 0, k.free 1, k.free 2, k.free 3, k.free 4⟩⟩
/-- The result written. -/
theorem QG.fin (h : QG B a len cap K w wx b3 st c f l n) (hr : RuG st c f l n) (hK : K ≤ k + 20) :
    ((put5 wx w.heap.size (.string st) (.int .i64 c) (.int .i64 f) (.int .i64 l) (.int .i64 n)).cell? ⟨w.heap.size, 0, none⟩ = some (.string st) ∧ (put5 wx w.heap.size (.string st) (.int .i64 c) (.int .i64 f) (.int .i64 l) (.int .i64 n)).cell? ⟨w.heap.size, 1, none⟩ = some (.int .i64 c) ∧ (put5 wx w.heap.size (.string st) (.int .i64 c) (.int .i64 f) (.int .i64 l) (.int .i64 n)).cell? ⟨w.heap.size, 2, none⟩ = some (.int .i64 f) ∧ (put5 wx w.heap.size (.string st) (.int .i64 c) (.int .i64 f) (.int .i64 l) (.int .i64 n)).cell? ⟨w.heap.size, 3, none⟩ = some (.int .i64 l) ∧ (put5 wx w.heap.size (.string st) (.int .i64 c) (.int .i64 f) (.int .i64 l) (.int .i64 n)).cell? ⟨w.heap.size, 4, none⟩ = some (.int .i64 n)) ∧
    GaveRu B a len cap k w (.returned (.agg #[.string st, .int .i64 c, .int .i64 f, .int .i64 l, .int .i64 n])) (put5 wx w.heap.size (.string st) (.int .i64 c) (.int .i64 f) (.int .i64 l) (.int .i64 n)) := by
  have h2 := h.ltB
  obtain ⟨k', hk, hg⟩ := h.gen
  have hw := h.res.put5 (u0 := .string st) (u1 := .int .i64 c) (u2 := .int .i64 f) (u3 := .int .i64 l) (u4 := .int .i64 n)
  refine ⟨⟨hw.read 0, hw.read 1, hw.read 2, hw.read 3, hw.read 4⟩, st, c, f, l, n, hr, rfl, ⟨k', by omega, hg.kept (put5_below (by omega))⟩, ?_⟩
  exact ((((h.only.put (Nat.le_refl _) _).put (Nat.le_refl _) _).put (Nat.le_refl _) _).put (Nat.le_refl _) _).put (Nat.le_refl _) _
end
set_option maxRecDepth 100000 in
set_option maxHeartbeats 8000000 in
theorem rule_any (B : Nat) (a : Option Addr) (len cap k : Nat) (w : World) (hg : Gen B a len cap k w) (hk : k ≤ 100000000) :
    Calls Tryd.prog 10 #[.pointer (some ⟨B, 0, none⟩)] w (GaveRu B a len cap k w) := by
  have hBw := hg.lt
  have HZ := Lib.hid (Whole.fresh w 29 #[.string ⟨#[]⟩, .int .i64 0, .int .i64 0, .int .i64 0, .int .i64 0])
  go_enter Tryd.func10, Tryd.ntmps10
  go_wp2_with fail
  refine (next_any B a len cap k 9 _ (by decide) (by decide) (by omega) (hg.alloc _)).mono ?_
  rintro e w1 ⟨c, c0, c1, rfl, hg1, ho1⟩
  have hz1 := HZ.out.carry (ho1.block _ HZ.out.size_lt (by omega))
  have ho1' := (Only.alloc B w _).trans ho1
  have H1 := Lib.hid (And.intro hg1 (And.intro ho1' hz1))
  clear hg hg1 ho1 ho1' hz1 HZ
  go_wp2_with fail
  refine (next_any B a len cap (k + 1) 4 _ (by decide) (by decide) (by omega) H1.out.1).mono ?_
  rintro e w2 ⟨n, n0, n1, rfl, hg2, ho2⟩
  have hs1 := H1.out.2.2.size_lt
  have hz2 := H1.out.2.2.carry (ho2.block _ hs1 (by omega))
  have hs2 := hz2.size_lt
  have HQ2 := Lib.hid (show QG B a len cap (k + 2) w (w2.alloc (.cells #[.string ⟨#[]⟩, .int .i64 (c - 1), .int .i64 0, .int .i64 0, .int .i64 n] 29)) w2.heap.size ⟨#[]⟩ (c - 1) 0 0 n from
    ⟨⟨k + 1 + 1, by omega, hg2.alloc _⟩, (H1.out.2.1.trans ho2).trans (Only.alloc B w2 _), hz2.alloc _, Whole.fresh _ _ _, hs2, hBw⟩)
  have HG2 := Lib.hid (hg2.alloc (.cells #[.string ⟨#[]⟩, .int .i64 (c - 1), .int .i64 0, .int .i64 0, .int .i64 n] 29))
  clear hg2 ho2 hz2 hs1 H1
  go_wp2_with fail
  refine (next_any B a len cap (k + 1 + 1) 2 _ (by decide) (by decide) (by omega) HG2.out).mono ?_
  rintro e w3 ⟨r, r0, r1, rfl, hg3, ho3⟩
  have HQ3 := Lib.hid (HQ2.out.call (K' := k + 3) ⟨_, by omega, hg3⟩ ho3)
  have HG3 := Lib.hid hg3
  clear hg3 ho3 HQ2 HG2
  have hbb : ¬ w2.heap.size = w.heap.size := by omega
  have hbb2 : ¬ w.heap.size = w2.heap.size := by omega
  rcases (by omega : r = 0 ∨ r = 1) with rfl | rfl
  · go_wp2_with fail
    refine (good_any B a len cap (k + 1 + 1 + 1) _ HG3.out (by omega)).mono ?_
    rintro e w4 ⟨st, hst, rfl, hg4, ho4⟩
    have HQ4 := Lib.hid (HQ3.out.call (K' := k + 4) ⟨_, by omega, hg4⟩ ho4)
    clear hg4 ho4 HQ3 HG3
    obtain ⟨⟨d0, d1, d2, d3, d4⟩, ⟨z0, z1, z2, z3, z4⟩⟩ := HQ4.out.facts
    have HQ := Lib.hid (HQ4.out.put0 st)
    have HS := Lib.hid (show st = ⟨#[]⟩ ∨ st ∈ goodL from .inr hst)
    clear hst HQ4
    go_wp2_with fail
    clear d0 d1 d2 d3 d4 z0 z1 z2 z3 z4
    generalize w4.setCell ⟨w2.heap.size, 0, none⟩ (.string st) = w5 at *
    obtain ⟨k5, hk5, hg5⟩ := HQ.out.gen
    refine wp_region_loose 37 (by kernel_rfl) (by kernel_rfl) (RgC B a len cap (k5 + 13) w5) (RgR B) (RgV B) rfl (fun i v w w' h hv => RgV.keep i v w w' h hv) ?_ ?_ ?_
    · exact ⟨⟨k5, by simp, hg5.drew⟩, (Only.refl B _).drew⟩
    · simp only [OblAll]
      refine ⟨?_, ?_, ?_, ?_, ?_, ?_, ?_, ?_, ?_, ?_, ?_, ?_, trivial⟩
      all_goals
        intro fu wx vals hC hp
        simp [predL, predE, Region.binds, PreV, RgV] at hp
        simp only [fillA, if_true, Act.put]
        simp
        have HC := Lib.hid hC
        have HR0 := Lib.hid (show RgR B wx wx from Only.refl _ _)
        obtain ⟨⟨kk, hkk, hg'⟩, _⟩ := hC
        have hBx : B < wx.heap.size := hg'.lt
      · clear hp hg'
        go_wp2
        exact ⟨rfl, HC.out.alloc _, Only.alloc B wx _, RowV.new hBx hBx portR rfl _⟩
      · clear hg'
        go_wp2
        exact ⟨rfl, HC.out.step, HR0.out, rfl⟩
      · simp only [hp]
        clear hp
        go_wp2_with fail
        refine (next_any B a len cap kk 6 _ (by decide) (by decide) (by omega) hg').mono ?_
        rintro e w' ⟨r, r0, r1, rfl, hg2, ho⟩
        have HF := Lib.hid (And.intro (HC.out.call (by omega) hg2 ho) ho)
        have HX := Lib.hid (show 0 ≤ r ∧ r ≤ 5 by omega)
        clear hg' hg2 ho
        go_wp2
        exact ⟨rfl, HF.out.1, HF.out.2, _, HX.out, rfl⟩
      · obtain ⟨⟨g, g1, g2, g3, e1, e2⟩, r, hr, e3⟩ := hp
        simp only [e1, e3]
        obtain ⟨m, rfl⟩ := Int.eq_ofNat_of_zero_le hr.1
        have hm : m < portR.length := by show m < 6; omega
        have HX := Lib.hid (And.intro (portR_bd m hm) (e2 m hm))
        have hm' : m ≤ 5 := by omega
        clear e1 e2 e3 hg' hr
        go_wp2
        exact ⟨rfl, HC.out.step, HR0.out, g, _, g1, g2, g3, rfl, _, HX.out.1, HX.out.2⟩
      · obtain ⟨g, o, g1, g2, g3, e1, x, hx, hc⟩ := hp
        simp only [e1]
        have HX := Lib.hid hx
        clear e1 hx hg'
        go_wp2
        exact ⟨rfl, HC.out.step, HR0.out, _, HX.out, rfl⟩
      · clear hp hg'
        go_wp2
        exact ⟨rfl, HC.out.alloc _, Only.alloc B wx _, RowV.new hBx hBx portR rfl _⟩
      · clear hg'
        go_wp2
        exact ⟨rfl, HC.out.step, HR0.out, rfl⟩
      · simp only [hp]
        clear hp
        go_wp2_with fail
        refine (next_any B a len cap kk 6 _ (by decide) (by decide) (by omega) hg').mono ?_
        rintro e w' ⟨r, r0, r1, rfl, hg2, ho⟩
        have HF := Lib.hid (And.intro (HC.out.call (by omega) hg2 ho) ho)
        have HX := Lib.hid (show 0 ≤ r ∧ r ≤ 5 by omega)
        clear hg' hg2 ho
        go_wp2
        exact ⟨rfl, HF.out.1, HF.out.2, _, HX.out, rfl⟩
      · obtain ⟨⟨g, g1, g2, g3, e1, e2⟩, r, hr, e3⟩ := hp
        simp only [e1, e3]
        obtain ⟨m, rfl⟩ := Int.eq_ofNat_of_zero_le hr.1
        have hm : m < portR.length := by show m < 6; omega
        have HX := Lib.hid (And.intro (portR_bd m hm) (e2 m hm))
        have hm' : m ≤ 5 := by omega
        clear e1 e2 e3 hg' hr
        go_wp2
        exact ⟨rfl, HC.out.step, HR0.out, g, _, g1, g2, g3, rfl, _, HX.out.1, HX.out.2⟩
      · obtain ⟨g, o, g1, g2, g3, e1, x, hx, hc⟩ := hp
        simp only [e1]
        have HX := Lib.hid hx
        clear e1 hx hg'
        go_wp2
        exact ⟨rfl, HC.out.step, HR0.out, _, HX.out, rfl⟩
      · obtain ⟨⟨x, hx, e1⟩, _⟩ := hp
        simp only [e1]
        have HX := Lib.hid hx
        clear e1 hx hg'
        go_wp2
        exact ⟨rfl, HC.out.step, HR0.out, _, HX.out, rfl⟩
      · obtain ⟨⟨x, hx, e1⟩, _⟩ := hp
        simp only [e1]
        have HX := Lib.hid hx
        clear e1 hx hg'
        go_wp2
        exact ⟨rfl, HC.out.step, HR0.out, _, HX.out, rfl⟩
    · intro w6 vals hC hV
      obtain ⟨x, hx, ex⟩ := (show IntV 0 65535 (vals 10) from hV 10 (by simp))
      obtain ⟨y, hy, ey⟩ := (show IntV 0 65535 (vals 11) from hV 11 (by simp))
      obtain ⟨⟨k6, hk6, hg6⟩, ho6⟩ := hC
      have HQ6 := Lib.hid (HQ.out.call (K' := k + 20) ⟨k6, by omega, hg6⟩ ho6)
      obtain ⟨⟨d0, d1, d2, d3, d4⟩, ⟨z0, z1, z2, z3, z4⟩⟩ := HQ6.out.facts
      obtain ⟨⟨y0, y1, y2, y3, y4⟩, ⟨q0, q1, q2, q3, q4⟩⟩ := HQ6.out.zeros
      simp only [fillA, if_true, Act.put]
      simp
      simp only [ex, ey]
      clear hV ex ey hg5 hg6 ho6 HQ
      have HF0 := Lib.hid (((HQ6.out.put2 (min x y)).put3 (max x y)).fin (k := k) ⟨HS.out, by omega, by omega, by omega⟩ (Nat.le_refl _))
      unfold put5 at HF0
      clear HQ6
      go_wp2
      obtain ⟨⟨p0, p1, p2, p3, p4⟩, HBf⟩ := HF0.out
      exact bodyPost_ret (v := .agg #[.string _, .int .i64 (c - 1), .int .i64 (min x y), .int .i64 (max x y), .int .i64 n]) (by simp [results, Tryd.results10, go_sem, p0, p1, p2, p3, p4]) rfl HBf
  · have HQ := Lib.hid (HQ3.out.call (K' := k + 4) ⟨_, by omega, HG3.out⟩ (Only.refl _ _))
    clear HQ3 HG3
    go_wp2_with fail
    have HS := Lib.hid (show (⟨#[]⟩ : ByteArray) = ⟨#[]⟩ ∨ (⟨#[]⟩ : ByteArray) ∈ goodL from .inl rfl)
    generalize w3 = w5 at *
    obtain ⟨k5, hk5, hg5⟩ := HQ.out.gen
    refine wp_region_loose 37 (by kernel_rfl) (by kernel_rfl) (RgC B a len cap (k5 + 13) w5) (RgR B) (RgV B) rfl (fun i v w w' h hv => RgV.keep i v w w' h hv) ?_ ?_ ?_
    · exact ⟨⟨k5, by simp, hg5.drew⟩, (Only.refl B _).drew⟩
    · simp only [OblAll]
      refine ⟨?_, ?_, ?_, ?_, ?_, ?_, ?_, ?_, ?_, ?_, ?_, ?_, trivial⟩
      all_goals
        intro fu wx vals hC hp
        simp [predL, predE, Region.binds, PreV, RgV] at hp
        simp only [fillA, if_true, Act.put]
        simp
        have HC := Lib.hid hC
        have HR0 := Lib.hid (show RgR B wx wx from Only.refl _ _)
        obtain ⟨⟨kk, hkk, hg'⟩, _⟩ := hC
        have hBx : B < wx.heap.size := hg'.lt
      · clear hp hg'
        go_wp2
        exact ⟨rfl, HC.out.alloc _, Only.alloc B wx _, RowV.new hBx hBx portR rfl _⟩
      · clear hg'
        go_wp2
        exact ⟨rfl, HC.out.step, HR0.out, rfl⟩
      · simp only [hp]
        clear hp
        go_wp2_with fail
        refine (next_any B a len cap kk 6 _ (by decide) (by decide) (by omega) hg').mono ?_
        rintro e w' ⟨r, r0, r1, rfl, hg2, ho⟩
        have HF := Lib.hid (And.intro (HC.out.call (by omega) hg2 ho) ho)
        have HX := Lib.hid (show 0 ≤ r ∧ r ≤ 5 by omega)
        clear hg' hg2 ho
        go_wp2
        exact ⟨rfl, HF.out.1, HF.out.2, _, HX.out, rfl⟩
      · obtain ⟨⟨g, g1, g2, g3, e1, e2⟩, r, hr, e3⟩ := hp
        simp only [e1, e3]
        obtain ⟨m, rfl⟩ := Int.eq_ofNat_of_zero_le hr.1
        have hm : m < portR.length := by show m < 6; omega
        have HX := Lib.hid (And.intro (portR_bd m hm) (e2 m hm))
        have hm' : m ≤ 5 := by omega
        clear e1 e2 e3 hg' hr
        go_wp2
        exact ⟨rfl, HC.out.step, HR0.out, g, _, g1, g2, g3, rfl, _, HX.out.1, HX.out.2⟩
      · obtain ⟨g, o, g1, g2, g3, e1, x, hx, hc⟩ := hp
        simp only [e1]
        have HX := Lib.hid hx
        clear e1 hx hg'
        go_wp2
        exact ⟨rfl, HC.out.step, HR0.out, _, HX.out, rfl⟩
      · clear hp hg'
        go_wp2
        exact ⟨rfl, HC.out.alloc _, Only.alloc B wx _, RowV.new hBx hBx portR rfl _⟩
      · clear hg'
        go_wp2
        exact ⟨rfl, HC.out.step, HR0.out, rfl⟩
      · simp only [hp]
        clear hp
        go_wp2_with fail
        refine (next_any B a len cap kk 6 _ (by decide) (by decide) (by omega) hg').mono ?_
        rintro e w' ⟨r, r0, r1, rfl, hg2, ho⟩
        have HF := Lib.hid (And.intro (HC.out.call (by omega) hg2 ho) ho)
        have HX := Lib.hid (show 0 ≤ r ∧ r ≤ 5 by omega)
        clear hg' hg2 ho
        go_wp2
        exact ⟨rfl, HF.out.1, HF.out.2, _, HX.out, rfl⟩
      · obtain ⟨⟨g, g1, g2, g3, e1, e2⟩, r, hr, e3⟩ := hp
        simp only [e1, e3]
        obtain ⟨m, rfl⟩ := Int.eq_ofNat_of_zero_le hr.1
        have hm : m < portR.length := by show m < 6; omega
        have HX := Lib.hid (And.intro (portR_bd m hm) (e2 m hm))
        have hm' : m ≤ 5 := by omega
        clear e1 e2 e3 hg' hr
        go_wp2
        exact ⟨rfl, HC.out.step, HR0.out, g, _, g1, g2, g3, rfl, _, HX.out.1, HX.out.2⟩
      · obtain ⟨g, o, g1, g2, g3, e1, x, hx, hc⟩ := hp
        simp only [e1]
        have HX := Lib.hid hx
        clear e1 hx hg'
        go_wp2
        exact ⟨rfl, HC.out.step, HR0.out, _, HX.out, rfl⟩
      · obtain ⟨⟨x, hx, e1⟩, _⟩ := hp
        simp only [e1]
        have HX := Lib.hid hx
        clear e1 hx hg'
        go_wp2
        exact ⟨rfl, HC.out.step, HR0.out, _, HX.out, rfl⟩
      · obtain ⟨⟨x, hx, e1⟩, _⟩ := hp
        simp only [e1]
        have HX := Lib.hid hx
        clear e1 hx hg'
        go_wp2
        exact ⟨rfl, HC.out.step, HR0.out, _, HX.out, rfl⟩
    · intro w6 vals hC hV
      obtain ⟨x, hx, ex⟩ := (show IntV 0 65535 (vals 10) from hV 10 (by simp))
      obtain ⟨y, hy, ey⟩ := (show IntV 0 65535 (vals 11) from hV 11 (by simp))
      obtain ⟨⟨k6, hk6, hg6⟩, ho6⟩ := hC
      have HQ6 := Lib.hid (HQ.out.call (K' := k + 20) ⟨k6, by omega, hg6⟩ ho6)
      obtain ⟨⟨d0, d1, d2, d3, d4⟩, ⟨z0, z1, z2, z3, z4⟩⟩ := HQ6.out.facts
      obtain ⟨⟨y0, y1, y2, y3, y4⟩, ⟨q0, q1, q2, q3, q4⟩⟩ := HQ6.out.zeros
      simp only [fillA, if_true, Act.put]
      simp
      simp only [ex, ey]
      clear hV ex ey hg5 hg6 ho6 HQ
      have HF0 := Lib.hid (((HQ6.out.put2 (min x y)).put3 (max x y)).fin (k := k) ⟨HS.out, by omega, by omega, by omega⟩ (Nat.le_refl _))
      unfold put5 at HF0
      clear HQ6
      go_wp2
      obtain ⟨⟨p0, p1, p2, p3, p4⟩, HBf⟩ := HF0.out
      exact bodyPost_ret (v := .agg #[.string _, .int .i64 (c - 1), .int .i64 (min x y), .int .i64 (max x y), .int .i64 n]) (by simp [results, Tryd.results10, go_sem, p0, p1, p2, p3, p4]) rfl HBf
/-- What Rule answers, said of choices that a caller keeps. -/
def GotRu (B : Nat) (a : Option Addr) (len cap k : Nat) (w0 w : World) (e : Ending) (w' : World) : Prop :=
  ∃ (st : ByteArray) (c f l n : Int), RuG st c f l n ∧ e = .returned (.agg #[.string st, .int .i64 c, .int .i64 f, .int .i64 l, .int .i64 n]) ∧ (∃ k', k' ≤ k + 20 ∧ Has B a len cap k' w0 w') ∧ Only B w w'
theorem has_rule (B : Nat) (a : Option Addr) (len cap k : Nat) (w0 w : World) (h : Has B a len cap k w0 w) (hk : k ≤ 100000000) :
    Calls Tryd.prog 10 #[.pointer (some ⟨B, 0, none⟩)] w (GotRu B a len cap k w0 w) :=
  (rule_any B a len cap k w h.1 hk).mono fun _ _ ⟨st, c, f, l, n, hh, he, ⟨k', hk', hg⟩, ho⟩ => ⟨st, c, f, l, n, hh, he, ⟨k', hk', hg, h.2.trans (ho.below (by have := h.1.lt; omega))⟩, ho⟩
def GotHd (B : Nat) (a : Option Addr) (len cap k : Nat) (w0 w : World) (e : Ending) (w' : World) : Prop :=
  ∃ (st : ByteArray) (c p l f : Int), HdOk st c p l f ∧ e = .returned (.agg #[.string st, .int .i64 c, .int .i64 p, .int .i64 l, .int .i64 f]) ∧ (∃ k', k' ≤ k + 18 ∧ Has B a len cap k' w0 w') ∧ Only B w w'
theorem has_header (B : Nat) (a : Option Addr) (len cap k : Nat) (w0 w : World) (h : Has B a len cap k w0 w) (hk : k ≤ 100000000) :
    Calls Tryd.prog 19 #[.pointer (some ⟨B, 0, none⟩)] w (GotHd B a len cap k w0 w) :=
  (header_any B a len cap k w h.1 hk).mono fun _ _ ⟨st, c, p, l, f, hh, he, ⟨k', hk', hg⟩, ho⟩ => ⟨st, c, p, l, f, hh, he, ⟨k', hk', hg, h.2.trans (ho.below (by have := h.1.lt; omega))⟩, ho⟩
theorem HdOk.ok {st : ByteArray} {c p l f : Int} (h : HdOk st c p l f) : hdOk st c p l f = true := by
  unfold hdOk
  rw [good_nam h.1, Bool.true_and]
  exact decide_eq_true h.2
theorem HdOk.small {st : ByteArray} {c p l f : Int} (h : HdOk st c p l f) : st.size ≤ 24 := RuG.size (c := 0) (f := 0) (l := 0) (n := 0) ⟨.inr h.1, by omega, by omega, by omega⟩
end Go.Proofs.YtfkbohfelacaoaaDoor

