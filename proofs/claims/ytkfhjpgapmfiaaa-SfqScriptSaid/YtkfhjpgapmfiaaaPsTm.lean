/-
  Layer 13: what a run of selected charges keeps: tags beside the virtual time, the virtual time and the sum of what has been subtracted below a bound; draws beside the program's reference.
-/
import Derived.Test.YtkfhjpgapmfiaaaPsAwake
namespace Go.Proofs.Ytkfhjpgapmfiaaa
open Go.ChangeShapes Go.WideShapes Go.ChangeAt Go.RowKit
set_option linter.unusedVariables false

/-- Behind at most i charges of selected flows. -/
structure Tm (i : Nat) (s : Sf) : Prop where
  inv : s.Inv 2952069120
  now : s.now ≤ 2952069120 * i
  away : s.away ≤ 1099511627776 * i
theorem Tm.new {a : Int} (h : 1 ≤ a) : Tm 0 (Sf.new a) := ⟨Sf.inv_new (by omega) h, Int.le_refl 0, Int.le_refl 0⟩
section
variable {i : Nat} {s t : Sf}
theorem Tm.more (h : Tm i s) : Tm (i + 1) s := ⟨h.inv, by have := h.now; omega, by have := h.away; omega⟩
theorem Tm.jn (h : Tm i s) (f x : Int) : Tm i (jnT s f x) := by
  unfold jnT
  split
  · exact ⟨h.inv.join (by omega) _ _, h.now, h.away⟩
  · exact h
theorem Tm.lv (h : Tm i s) (hs : SfOk s) {f : Int} (hl : LvT s f t) : Tm i t := by
  have ha := away_lv hl
  have hw := h.away
  have hn := h.now
  have hi := h.inv.2.1
  unfold LvT at hl
  split at hl
  · rename_i h0
    obtain ⟨h1, h2, h3⟩ := here_yes h0
    refine ⟨h.inv.left (by omega) h3 hl hs.lt, ?_, by rw [ha]; exact hw⟩
    obtain ⟨_, _, _, _, _, e6⟩ := hl
    rcases e6 with ⟨_, e, _⟩ | ⟨_, e, _⟩ <;> omega
  · subst hl; exact h
/-- A selected flow can be charged. -/
theorem Tm.ch (h : Tm i s) (hs : SfOk s) (hi : i ≤ 200) {n : Nat} (hn : s.Sel n) {l : Int} (hl : 1 ≤ l ∧ l ≤ 4096) : chE s n l = 0 ∧ ∀ t, ChT s n l t → Tm (i + 1) t ∧ s.Charged n (l * unC (s.wt n)) t := by
  have ho := hn.2.1
  have hle : leB l = true := le_of hl
  have hc := co_bd hle (wt_of (hs.wt n ho))
  have hst := h.inv.2.2.1 n ho
  have hnw := h.now
  obtain ⟨e1, e2⟩ := ch_0 hn.1 ho hle (by omega)
  refine ⟨e1, fun t ht => ?_⟩
  have hch := (e2 t).1 ht
  obtain ⟨k1, k2⟩ := h.inv.charged hc.1 hc.2 hn hs.lt hch
  have ha := (hs.charged ho hc.1 (by omega) hch).2
  have haw := h.away
  exact ⟨⟨k1, by omega, by omega⟩, hch⟩
/-- The tags beside the virtual time. -/
theorem Tm.tag (h : Tm i s) {k : Nat} (hk : k < (tgl s 32).length) : s.now ≤ (tgl s 32)[k].s ∧ (tgl s 32)[k].s ≤ s.now + 2952069120 := by
  obtain ⟨g, _, g2, g3⟩ := (tgl_rep s).at_ hk
  rw [g3]; exact h.inv.2.2.1 g g2
theorem Tm.aw (h : Tm i s) (hi : i ≤ 200) : s.away ≤ 1000000000000000000 := by have := h.away; omega
end
/-! ### draws -/
section
variable {B : Nat} {a : Option Addr} {len cap q : Nat} {w0 : World} {R : Nat} {s : Sf} {w : World}
def NxAns (B : Nat) (a : Option Addr) (len cap q : Nat) (w0 : World) (R : Nat) (s : Sf) (lo hi : Int) (e : Ending) (w' : World) : Prop := ∃ x : Int, lo ≤ x ∧ x < hi ∧ e = .returned (.int .i64 x) ∧ SO (XC B a len cap (q + 1) w0) R s w'
theorem SO.next (h : SO (XC B a len cap q w0) R s w) {n : Int} (n0 : 1 ≤ n) (n1 : n ≤ 1000000000) (hq : q ≤ 1000000000) :
    Calls Try.prog 9 #[.pointer (some ⟨B, 0, none⟩), .int .i64 n] w (NxAns B a len cap q w0 R s 0 n) := by
  refine (next_any B a len cap q n w n0 n1 hq h.has.1).mono ?_
  rintro e w' ⟨x, x0, x1, e1, hg, ho⟩
  exact ⟨x, x0, x1, e1, h.drawn hg ho⟩
theorem SO.length (h : SO (XC B a len cap q w0) R s w) (hq : q ≤ 1000000000) :
    Calls Try.prog 21 #[.pointer (some ⟨B, 0, none⟩)] w (NxAns B a len cap q w0 R s 1 4097) := by
  refine (length_any B a len cap q w h.has.1 hq).mono ?_
  rintro e w' ⟨x, x0, x1, e1, hg, ho⟩
  exact ⟨x, x0, by omega, e1, h.drawn hg ho⟩
theorem SO.weight (h : SO (XC B a len cap q w0) R s w) (hq : q ≤ 1000000000) :
    Calls Try.prog 17 #[.pointer (some ⟨B, 0, none⟩)] w (NxAns B a len cap q w0 R s 1 17) := by
  refine (weight_any B a len cap q w0 w h.has hq).mono ?_
  rintro e w' ⟨x, x0, x1, e1, hg, ho⟩
  exact ⟨x, x0, by omega, e1, h.drawn hg.1 ho⟩
/-- A number out of a list of three that has just been made. -/
theorem three_any {A : Option Addr} {x y z : Int} {t : TypeId} (hh : Has B a len cap q w0 w) (hq : q ≤ 1000000000) :
    Calls Try.prog 9 #[.pointer (some ⟨B, 0, none⟩), .int .i64 3] (w.alloc (.cells #[.int .i64 x, .int .i64 y, .int .i64 z] t)) fun e w' => ∃ (n : Nat) (v : Int), n < 3 ∧ e = .returned (.int .i64 n) ∧ (v = x ∨ v = y ∨ v = z) ∧ w'.cell? ⟨w.heap.size, n, none⟩ = some (.int .i64 v) ∧ Has B a len cap (q + 1) w0 w' := by
  have hlt := hh.1.lt
  refine (next_any B a len cap q 3 _ (by omega) (by omega) hq (hh.1.alloc _)).mono ?_
  rintro e w' ⟨r, r0, r1, rfl, hg, ho⟩
  obtain ⟨n, rfl⟩ := Int.eq_ofNat_of_zero_le r0
  obtain ⟨v, hv, hc⟩ := pickN (L := [x, y, z]) rfl ho hlt (n := n) (by show n < 3; omega)
  simp only [List.mem_cons, List.not_mem_nil, or_false] at hv
  exact ⟨n, v, by omega, rfl, hv, hc, hg, (hh.2.alloc (by omega) _).trans (ho.below (by simp; omega))⟩
end
end Go.Proofs.Ytkfhjpgapmfiaaa

