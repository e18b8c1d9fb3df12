/-
  Layer 13: the reference behind its pointer: its struct, its lists that are never written; what a call of it leaves; Index, Select.
-/
import Derived.Test.YtkfhjpgapmfiaaaLsMem
import Derived.Test.YtkfhjpgapmfiaaaTgPlain
import Derived.Test.YtkfhjpgapmfiaaaTgRef2
import Derived.Test.YtkfhjpgapmfiaaaAppR
namespace Go.Proofs.Ytkfhjpgapmfiaaa
open Go.ChangeShapes Go.WideShapes Go.ChangeAt Go.RowKit
set_option linter.unusedVariables false

/-- The reference's struct in block R; its lists lie in blocks of T. -/
structure RfW (w : World) (R : Nat) (T : Nat → Prop) (r : Rf) (vL vO : Value) : Prop where
  blk : Whole w R 63 #[.int .i64 r.at_, vL, vO, .int .i64 r.now, .int .i64 r.away]
  lsL : LsV w T vL r.L
  lsO : LsV w T vO r.O
section
variable {w w' : World} {R : Nat} {T T' : Nat → Prop} {r : Rf} {vL vO : Value}
theorem RfW.cells (h : RfW w R T r vL vO) : w.cell? ⟨R, 0, none⟩ = some (.int .i64 r.at_) ∧ w.cell? ⟨R, 1, none⟩ = some vL ∧ w.cell? ⟨R, 2, none⟩ = some vO ∧ w.cell? ⟨R, 3, none⟩ = some (.int .i64 r.now) ∧ w.cell? ⟨R, 4, none⟩ = some (.int .i64 r.away) ∧ ∀ o, w.frozen? ⟨R, o, none⟩ = false := by
  have := h.blk
  exact ⟨by rw [this.read]; rfl, by rw [this.read]; rfl, by rw [this.read]; rfl, by rw [this.read]; rfl, by rw [this.read]; rfl, this.free⟩
/-- A block of tags is not the struct's. -/
theorem RfW.apart (h : RfW w R T r vL vO) {b : Nat} (hb : ∃ cur, w.heap[b]? = some (.cells cur 52 (0, 0))) : b ≠ R := by
  rintro rfl
  obtain ⟨cur, hb⟩ := hb
  have a1 : w.heap[b]? = _ := h.blk
  rw [a1] at hb; simp at hb
theorem RfW.keep (h : RfW w R T r vL vO) (hR : w'.heap[R]? = w.heap[R]?) (hT : ∀ b, T b → w'.heap[b]? = w.heap[b]?) : RfW w' R T r vL vO := ⟨h.blk.carry hR, h.lsL.keep hT, h.lsO.keep hT⟩
theorem LsV.apart {l : List Tg} {v : Value} (h : LsV w T v l) {t : TypeId} {cs : Array Value} (hw : Whole w R t cs) (ht : t ≠ 52) : LsV w (fun b => T b ∧ b ≠ R) v l := by
  obtain ⟨A, c, h1, h2, h3, h4⟩ := h
  refine ⟨A, c, h1, h2, h3, h4.imp id ?_⟩
  rintro ⟨b, off, cur, e1, e2, e3⟩
  refine ⟨b, off, cur, e1, ⟨e2, ?_⟩, e3⟩
  rintro rfl
  have a1 : w.heap[b]? = _ := hw
  rw [a1] at e3
  simp at e3
  exact ht e3.1.2
/-- The struct turns, its lists stay. -/
theorem LsV.put {l : List Tg} {v : Value} (h : LsV w T v l) {t : TypeId} {cs : Array Value} (hw : Whole w R t cs) (ht : t ≠ 52) (o : Nat) (u : Value) : LsV (w.setCell ⟨R, o, none⟩ u) T v l :=
  ((h.apart hw ht).keep fun b hb => Below.heap_setCell w ⟨R, o, none⟩ u b hb.2).wider fun b hb => hb.1
end
theorem ref_ne_tag : 63 ≠ 52 := by decide
/-- The reference in state r: its struct's block R and its lists' blocks are of T. -/
def RfO (T : Nat → Prop) (R : Nat) (r : Rf) (w : World) : Prop := (∀ k, T k → k < w.heap.size) ∧ T R ∧ ∃ vL vO, RfW w R T r vL vO
/-- The reference in a state that stands for s. -/
def RsO (T : Nat → Prop) (R : Nat) (s : Sf) (w : World) : Prop := SfOk s ∧ ∃ r, RfO T R r w ∧ RfS r s
theorem RfO.keep {T : Nat → Prop} {R : Nat} {r : Rf} {w w' : World} (h : RfO T R r w) (hs : w.heap.size ≤ w'.heap.size) (hk : ∀ k, T k → w'.heap[k]? = w.heap[k]?) : RfO T R r w' := by
  obtain ⟨h1, h2, vL, vO, h3⟩ := h
  exact ⟨fun k hk2 => Nat.lt_of_lt_of_le (h1 k hk2) hs, h2, vL, vO, h3.keep (hk R h2) hk⟩
theorem RsO.keep {T : Nat → Prop} {R : Nat} {s : Sf} {w w' : World} (h : RsO T R s w) (hs : w.heap.size ≤ w'.heap.size) (hk : ∀ k, T k → w'.heap[k]? = w.heap[k]?) : RsO T R s w' := by
  obtain ⟨h0, r, h1, h2⟩ := h
  exact ⟨h0, r, h1.keep hs hk, h2⟩
theorem RsO.lt {T : Nat → Prop} {R : Nat} {s : Sf} {w : World} (h : RsO T R s w) : ∀ k, T k → k < w.heap.size := by obtain ⟨_, r, h1, _⟩ := h; exact h1.1
theorem RsO.mem {T : Nat → Prop} {R : Nat} {s : Sf} {w : World} (h : RsO T R s w) : T R := by obtain ⟨_, r, h1, _⟩ := h; exact h1.2.1
theorem RsO.below {T : Nat → Prop} {R : Nat} {s : Sf} {w w' : World} (h : RsO T R s w) (hb : Below w.heap.size w w') : RsO T R s w' := h.keep hb.size fun k hk => hb.block k (h.lt k hk)
theorem RsO.chg {S T : Nat → Prop} {R : Nat} {s : Sf} {w w' : World} (h : RsO T R s w) (hb : Chg S w w') (hd : ∀ k, T k → ¬ S k) : RsO T R s w' := h.keep hb.size fun k hk => hb.block k (h.lt k hk) (hd k hk)
theorem RsO.only {B : Nat} {T : Nat → Prop} {R : Nat} {s : Sf} {w w' : World} (h : RsO T R s w) (hb : Only B w w') (hd : ¬ T B) : RsO T R s w' := h.keep hb.size fun k hk => hb.block k (h.lt k hk) (fun e => hd (e ▸ hk))
/-- What a call that answers x leaves: the state t; no old block but R has turned. -/
def RsAns (T : Nat → Prop) (R : Nat) (t : Sf) (x : Value) (w : World) (e : Ending) (w' : World) : Prop :=
  e = .returned x ∧ (∃ T', RsO T' R t w' ∧ ∀ k, T' k → T k ∨ w.heap.size ≤ k) ∧ Chg (fun k => k = R) w w'
theorem RsAns.same {T : Nat → Prop} {R : Nat} {s : Sf} {x : Value} {w w' : World} {e : Ending} (h : RsO T R s w) (h1 : e = .returned x) (hb : Below w.heap.size w w') : RsAns T R s x w e w' :=
  ⟨h1, ⟨T, h.below hb, fun k hk => .inl hk⟩, Chg.of_below hb⟩
/-- Old blocks of T, and new ones. -/
def Tn (T : Nat → Prop) (w w' : World) : Nat → Prop := fun k => k < w'.heap.size ∧ (T k ∨ w.heap.size ≤ k)
theorem LsV.old {T : Nat → Prop} {R : Nat} {w w' : World} {v : Value} {l : List Tg} {cs : Array Value} (h : LsV w T v l) (hT : ∀ k, T k → k < w.heap.size) (hw : Whole w R 63 cs) (hc : Chg (fun k => k = R) w w') : LsV w' (Tn T w w') v l :=
  ((h.apart hw ref_ne_tag).keep fun b hb => hc.block b (hT b hb.1) hb.2).wider fun b hb => ⟨Nat.lt_of_lt_of_le (hT b hb.1) hc.size, .inl hb.1⟩
theorem LsV.fresh {T : Nat → Prop} {w w' : World} {base n : Nat} {v : Value} {l : List Tg} (h : w'.ownsRow base 52 3 v n (srs csT l)) (hn : n = l.length) (hb : w.heap.size ≤ base) : LsV w' (Tn T w w') v l :=
  LsV.own h hn fun b h1 h2 => ⟨h2, .inr (by omega)⟩
theorem RsAns.mk {T : Nat → Prop} {R : Nat} {r : Rf} {s : Sf} {x : Value} {w w' : World} {e : Ending} {vL vO : Value} (he : e = .returned x) (h : RfW w' R (Tn T w w') r vL vO) (hR : T R) (hr : RfS r s) (hs : SfOk s) (hc : Chg (fun k => k = R) w w') : RsAns T R s x w e w' :=
  ⟨he, ⟨_, ⟨hs, r, ⟨fun k hk => hk.1, ⟨h.blk.size_lt, .inl hR⟩, vL, vO, h⟩, hr⟩, fun k hk => hk.2⟩, hc⟩
/-- An empty row that has just been made. -/
theorem own_empty (w : World) (base : Nat) (hb : base ≤ w.heap.size) : (w.alloc (.cells #[] 52)).ownsRow base 52 3 (.slice (some ⟨w.heap.size, 0, none⟩) 0 0) 0 (srs csT []) :=
  World.ownsRow_lit w #[] 0 hb (Nat.zero_le _) rfl
/-- The place of the flow f in the list, or -1. -/
def idxL (L : List Tg) (f : Int) : Int := match L.findIdx? (fun t => decide (t.f = f)) with | some i => (i : Int) | none => -1
theorem idx_none {L : List Tg} {f : Int} (h : ∀ i (hi : i < L.length), L[i].f ≠ f) : idxL L f = -1 := by
  unfold idxL
  rw [List.findIdx?_eq_none_iff.2 (fun t ht => by obtain ⟨i, hi, rfl⟩ := List.getElem_of_mem ht; simpa using h i hi)]
theorem idx_some {L : List Tg} {f : Int} {k : Nat} (hk : k < L.length) (h : L[k].f = f) (h2 : ∀ i (hi : i < L.length), i < k → L[i].f ≠ f) : idxL L f = (k : Int) := by
  have : L.findIdx? (fun t => decide (t.f = f)) = some k := by
    rw [List.findIdx?_eq_some_iff_getElem]
    exact ⟨hk, by simpa using h, fun j hj => by simpa using h2 j (by omega) hj⟩
  unfold idxL; rw [this]
/-- Not active: no place. Active: the one place. -/
theorem RepL.no_place {L : List Tg} {s : Sf} (h : RepL L s) {f : Int} (hf : s.here f = false) : idxL L f = -1 := by
  refine idx_none fun i hi e => ?_
  obtain ⟨g, g1, g2, g3⟩ := h.at_ hi
  rw [g3] at e
  have : s.here f = true := by rw [← e]; exact here_of g1 g2
  rw [hf] at this; cases this
theorem RepL.one_place {L : List Tg} {s : Sf} (h : RepL L s) {n : Nat} (hn : n < 32) (ho : s.on n = true) : ∃ i, ∃ hi : i < L.length, idxL L n = (i : Int) ∧ L[i] = s.tag n := by
  obtain ⟨i, hi, e⟩ := h.place hn ho
  refine ⟨i, hi, idx_some hi (by rw [e]; rfl) (fun j hj hji e2 => ?_), e⟩
  have := h.up hj hi hji
  rw [e, e2] at this
  simp only [Sf.tag] at this; omega
section
variable {w : World} {R : Nat} {T : Nat → Prop} {r : Rf} {vL vO : Value}
set_option maxHeartbeats 1000000 in
theorem rindex_any (h : RfW w R T r vL vO) (hn : r.L.length ≤ 100000) (f : Int) :
    Calls Try.prog 43 #[.pointer (some ⟨R, 0, none⟩), .int .i64 f] w fun e w' => e = .returned (.int .i64 (idxL r.L f)) ∧ w = w' := by
  obtain ⟨_, c1, _, _, _, _⟩ := h.cells
  have HC := Lib.hid (fun k (hk : k < r.L.length) => h.lsL.tg hk)
  have HN := Lib.hid (idx_none (L := r.L) (f := f))
  have HS := Lib.hid (fun k (hk : k < r.L.length) => idx_some (f := f) hk)
  obtain ⟨A, c, rfl, hlc, _⟩ := h.lsL.shape
  clear h
  go_enter Try.func43, Try.ntmps43
  go_wp2
  go_loopw [5] (fun s5 wr => ∃ k : Nat, k ≤ r.L.length ∧ s5 = .int .i64 k ∧ Hid (∀ i (hi : i < r.L.length), i < k → r.L[i].f ≠ f) ∧ w = wr) (fun s5 _ => r.L.length - (intOf s5).toNat)
  case atStart => exact ⟨0, Nat.zero_le _, rfl, Lib.hid (fun i _ hi => by omega), rfl⟩
  case round =>
    obtain ⟨k, hk, rfl, HK, rfl⟩ := hrel
    by_cases hlt : k < r.L.length
    · obtain ⟨b, off, c', hv, _, _, _, _, e0, _, _⟩ := HC.out k hlt
      obtain ⟨rfl, rfl⟩ : A = some ⟨b, off, none⟩ ∧ c = c' := by simpa using hv
      have HX := HS.out k hlt
      obtain ⟨q, hq⟩ : ∃ q, r.L[k].f = q := ⟨_, rfl⟩
      rw [hq] at e0
      have HQ := Lib.hid hq
      have HX := Lib.hid HX
      clear hq hv HC HS HN
      by_cases hqf : q = f
      · have HF := Lib.hid (HX.out (HQ.out.trans hqf) HK.out)
        have hb : (q == f) = true := by simpa using hqf
        clear HX HQ HK
        go_wp2
        go_ret
        exact ⟨ret_int HF.out.symm, rfl⟩
      · have HK2 : Hid (∀ i (hi : i < r.L.length), i < k + 1 → r.L[i].f ≠ f) := Lib.hid (fun i hi hik => by
          rcases (by omega : i < k ∨ i = k) with h | rfl
          · exact HK.out i hi h
          · rw [HQ.out]; exact hqf)
        have hb : (q == f) = false := by simpa using hqf
        clear HX HQ HK
        go_wp2
        go_roundw
        case rel => exact ⟨k + 1, by omega, by go_num, HK2, trivial⟩
        case measure => simp [intOf]; omega
    · obtain rfl : k = r.L.length := by omega
      have HF := Lib.hid (HN.out (fun i hi => HK.out i hi hi))
      clear HN HK HC HS
      go_wp2
      go_ret
      exact ⟨ret_int HF.out.symm, rfl⟩
end
end Go.Proofs.Ytkfhjpgapmfiaaa

