/-
  Layer 10: the generator's Weight; a table that a caller keeps, alone (KP) or beside the choices (GP); awake.
-/
import Derived.Test.YtgojbomdkdlclaaFlAdd
namespace Go.Proofs.Ytgojbomdkdlclaa
open Go.ChangeShapes Go.WideShapes Go.ChangeAt Go.RowKit
set_option linter.unusedVariables false

def wtL : List Int := [1, 2, 1, 3, 4, 16, 7, 1, 5]
theorem wtL_bd {x : Int} (h : x ∈ wtL) : 1 ≤ x ∧ x ≤ 16 := by
  simp only [wtL, List.mem_cons, List.not_mem_nil, or_false] at h; omega
theorem pickW {B : Nat} {w w' : World} {L : List Int} {cs : Array Value} {t : TypeId} (hcs : cs = (L.map (Value.int .i64)).toArray) (ho : Only B (w.alloc (.cells cs t)) w') (hB : B < w.heap.size) {n : Nat} (hn : n < L.length) :
    ∃ x, x ∈ L ∧ w'.cell? ⟨w.heap.size, n, none⟩ = some (.int .i64 x) := by
  refine ⟨L[n], List.getElem_mem _, ?_⟩
  rw [ho.cell (by simp) (by omega)]
  have e := (MapKept.heap_alloc w (.cells cs t)).1
  have e2 : cs[n]? = some (.int .i64 L[n]) := by rw [hcs, List.getElem?_toArray, List.getElem?_map, List.getElem?_eq_getElem hn]; rfl
  simp only [World.cell?, e]
  simpa using e2
/-- What Weight answers. -/
def GaveW (B : Nat) (a : Option Addr) (len cap k : Nat) (w0 w : World) (e : Ending) (w' : World) : Prop :=
  ∃ x : Int, 1 ≤ x ∧ x ≤ 16 ∧ e = .returned (.int .i64 x) ∧ Has B a len cap (k + 1) w0 w' ∧ Only B w w'
theorem weight_any (B : Nat) (a : Option Addr) (len cap k : Nat) (w0 w : World) (h : Has B a len cap k w0 w) (hk : k ≤ 1000000000) :
    Calls Try.prog 16 #[.pointer (some ⟨B, 0, none⟩)] w (GaveW B a len cap k w0 w) := by
  have HB := Lib.hid h.2
  have hg := h.1
  have hlt := hg.lt
  clear h
  go_enter Try.func16, Try.ntmps16
  go_wp2_with fail
  refine (next_any B a len cap k 9 _ (by decide) (by decide) hk (hg.alloc _)).mono ?_
  rintro e w' ⟨r, r0, r1, rfl, hg', ho⟩
  obtain ⟨n, rfl⟩ := Int.eq_ofNat_of_zero_le r0
  obtain ⟨x, hx, hc⟩ := pickW (L := wtL) rfl ho hg.lt (n := n) (by show n < 9; omega)
  have hO1 := (Only.alloc B w _).trans ho
  have HX := Lib.hid (wtL_bd hx)
  have HH := Lib.hid (show Has B a len cap (k + 1) w0 w' from ⟨hg', HB.out.trans (hO1.below (by omega))⟩)
  have hO := Lib.hid hO1
  clear ho hg hx hg' hO1
  have hn : n ≤ 8 := by omega
  go_wp2
  go_ret
  exact ⟨_, HX.out.1, HX.out.2, rfl, HH.out, hO.out⟩
/-- A table of the call's own. -/
def KP (C H : Nat) (t : Tb) (w0 w : World) : Prop := C ≤ w.heap.size ∧ Below C w0 w ∧ ∃ S, PO C H S t w
/-- Choices and a table. -/
def GP (B : Nat) (a : Option Addr) (len cap k : Nat) (w0 : World) (C H : Nat) (t : Tb) (w : World) : Prop := B < C ∧ Has B a len cap k w0 w ∧ ∃ S, PO C H S t w
section
variable {w w' w0 : World} {B C H len cap k : Nat} {a : Option Addr} {S : Nat → Prop} {t t' : Tb} {x : Value} {f : Nat} {args : Array Value}
theorem PAns.kept (ho : ∀ k, S k → C ≤ k ∧ k < w.heap.size) (hC : C ≤ w.heap.size) (h : ∃ S', PO C H S' t' w' ∧ Trod S S' w w') : Below C w w' ∧ ∃ S', PO C H S' t' w' := by
  obtain ⟨S', h1, h2, _⟩ := h
  exact ⟨h2.below hC fun k hk => (ho k hk).1, S', h1⟩
theorem KP.new {c r : Int} {e : Ending} (h : PNew c r w e w') : ∃ H, e = .returned (.tuple #[.pointer (some ⟨H, 0, none⟩), .int .i64 0]) ∧ KP w.heap.size H ⟨c, r, [], [], []⟩ w w' := by
  obtain ⟨H, S, e1, h1, h2⟩ := h
  exact ⟨H, e1, h2.size, h2, S, h1⟩
theorem KP.call (h : KP C H t w0 w) (hc : ∀ S, PO C H S t w → Calls Try.prog f args w (PAns C H S t' x w)) : Calls Try.prog f args w fun e w' => e = .returned x ∧ KP C H t' w0 w' := by
  obtain ⟨h0, h1, S, h2⟩ := h
  refine (hc S h2).mono ?_
  rintro e w' ⟨e1, h3⟩
  obtain ⟨h4, h5⟩ := PAns.kept h2.2.2 h0 h3
  exact ⟨e1, Nat.le_trans h0 h4.size, h1.trans h4, h5⟩
theorem KP.ask (h : KP C H t w0 w) (hc : ∀ S, PO C H S t w → Calls Try.prog f args w (Quiet x w)) : Calls Try.prog f args w fun e w' => e = .returned x ∧ KP C H t w0 w' := by
  obtain ⟨h0, h1, S, h2⟩ := h
  refine (hc S h2).mono ?_
  rintro e w' ⟨e1, h3⟩
  exact ⟨e1, Nat.le_trans h0 h3.size, h1.trans (h3.mono h0), S, h2.below h3⟩
theorem KP.ok (h : KP C H t w0 w) : TbOk t := by obtain ⟨_, _, S, h2⟩ := h; exact h2.1
theorem GP.new {c r : Int} {e : Ending} (h : Has B a len cap k w0 w) (h1 : PNew c r w e w') : ∃ H, e = .returned (.tuple #[.pointer (some ⟨H, 0, none⟩), .int .i64 0]) ∧ GP B a len cap k w0 w.heap.size H ⟨c, r, [], [], []⟩ w' := by
  obtain ⟨H, S, e1, h3, h2⟩ := h1
  exact ⟨H, e1, h.1.lt, h.below h2, S, h3⟩
theorem GP.call (h : GP B a len cap k w0 C H t w) (hc : ∀ S, PO C H S t w → Calls Try.prog f args w (PAns C H S t' x w)) : Calls Try.prog f args w fun e w' => e = .returned x ∧ GP B a len cap k w0 C H t' w' := by
  obtain ⟨h0, h1, S, h2⟩ := h
  refine (hc S h2).mono ?_
  rintro e w' ⟨e1, S', h3, h4, h5⟩
  exact ⟨e1, h0, h1.trod (fun i hi => by have := h2.2.2 i hi; omega) h4, S', h3⟩
theorem GP.ask (h : GP B a len cap k w0 C H t w) (hc : ∀ S, PO C H S t w → Calls Try.prog f args w (Quiet x w)) : Calls Try.prog f args w fun e w' => e = .returned x ∧ GP B a len cap k w0 C H t w' := by
  obtain ⟨h0, h1, S, h2⟩ := h
  refine (hc S h2).mono ?_
  rintro e w' ⟨e1, h3⟩
  exact ⟨e1, h0, h1.below h3, S, h2.below h3⟩
theorem GP.next (h : GP B a len cap k w0 C H t w) {n : Int} (n0 : 1 ≤ n) (n1 : n ≤ 1000000000) (hk : k ≤ 1000000000) :
    Calls Try.prog 8 #[.pointer (some ⟨B, 0, none⟩), .int .i64 n] w fun e w' => ∃ r : Int, 0 ≤ r ∧ r < n ∧ e = .returned (.int .i64 r) ∧ GP B a len cap (k + 1) w0 C H t w' := by
  obtain ⟨h0, h1, S, h2⟩ := h
  refine (has_next B a len cap k n w0 w h1 n0 n1 hk).mono ?_
  rintro e w' ⟨r, r0, r1, e1, h3, h4⟩
  exact ⟨r, r0, r1, e1, h0, h3, S, h2.only h0 h4⟩
theorem GP.weight (h : GP B a len cap k w0 C H t w) (hk : k ≤ 1000000000) :
    Calls Try.prog 16 #[.pointer (some ⟨B, 0, none⟩)] w fun e w' => ∃ r : Int, 1 ≤ r ∧ r ≤ 16 ∧ e = .returned (.int .i64 r) ∧ GP B a len cap (k + 1) w0 C H t w' := by
  obtain ⟨h0, h1, S, h2⟩ := h
  refine (weight_any B a len cap k w0 w h1 hk).mono ?_
  rintro e w' ⟨r, r0, r1, e1, h3, h4⟩
  exact ⟨r, r0, r1, e1, h0, h3, S, h2.only h0 h4⟩
theorem GP.ok (h : GP B a len cap k w0 C H t w) : TbOk t := by obtain ⟨_, _, S, h2⟩ := h; exact h2.1
theorem GP.bel (h : GP B a len cap k w0 C H t w) : Below B w0 w := h.2.1.2
theorem GP.at (h : GP B a len cap k w0 C H t w) {k' : Nat} (e : k = k') : GP B a len cap k' w0 C H t w := e ▸ h
end
def aw0 : Tb := ⟨3, 1, [], [], []⟩
def aw1 : Tb := asT aw0 ⟨#[97]⟩ 1 0
def aw2 : Tb := afT aw1 0 2
def aw3 : Tb := afT aw2 0 2
def aw4 : Tb := rmT aw3 0
theorem aw_facts : afX aw1 0 2 = 0 ∧ afE aw1 0 2 = 0 ∧ afE aw2 0 2 = 12 ∧ rmE aw3 0 = 0 ∧ aw4.tot = 0 := by decide +kernel
theorem awake10_any (w : World) : Calls Try.prog 13 #[] w (Quiet (.bool true) w) := by
  have HN := Lib.hid (pnew_any (c := 3) (r := 1) (by omega) w)
  obtain ⟨f1, f2, f3, f4, f5⟩ := aw_facts
  unfold Quiet
  go_enter Try.func13, Try.ntmps13
  go_wp2_with fail
  (with_reducible refine HN.out.mono ?_); intro e w1 h
  obtain ⟨H, rfl, h1⟩ := KP.new h
  have c1 := Lib.hid (show Calls Try.prog 14 #[.pointer (some ⟨H, 0, none⟩), .string ⟨#[97]⟩, .int .i64 1, .int .i64 0] w1 _ from h1.call (fun S hS => addStation_any hS ⟨#[97]⟩ 1 0))
  clear h h1 HN
  go_wp2_with fail
  (with_reducible refine c1.out.mono ?_); rintro e w2 ⟨rfl, h2⟩
  have c2 := h2.call (fun S hS => addFlow_any hS 0 2)
  rw [show asT (⟨3, 1, [], [], []⟩ : Tb) ⟨#[97]⟩ 1 0 = aw1 from rfl, f1, f2] at c2
  have c2 := Lib.hid c2
  clear h2 c1
  go_wp2_with fail
  (with_reducible refine c2.out.mono ?_); rintro e w3 ⟨rfl, h3⟩
  have c3 := h3.call (fun S hS => addFlow_any hS 0 2)
  rw [show afT aw1 0 2 = aw2 from rfl, f3] at c3
  have c3 := Lib.hid c3
  clear h3 c2
  go_wp2_with fail
  (with_reducible refine c3.out.mono ?_); rintro e w4 ⟨rfl, h4⟩
  have c4 := h4.call (fun S hS => remove_any hS 0)
  rw [show afT aw2 0 2 = aw3 from rfl, f4] at c4
  have c4 := Lib.hid c4
  clear h4 c3
  go_wp2_with fail
  (with_reducible refine c4.out.mono ?_); rintro e w5 ⟨rfl, h5⟩
  have c5 := h5.ask (fun S hS => total_any hS)
  rw [show rmT aw3 0 = aw4 from rfl, f5] at c5
  have c5 := Lib.hid c5
  clear h5 c4
  go_wp2_with fail
  (with_reducible refine c5.out.mono ?_); rintro e w6 ⟨rfl, h6⟩
  have HB := Lib.hid h6.2.1
  clear h6
  go_wp2
  go_ret
  exact ⟨rfl, HB.out⟩
end Go.Proofs.Ytgojbomdkdlclaa

