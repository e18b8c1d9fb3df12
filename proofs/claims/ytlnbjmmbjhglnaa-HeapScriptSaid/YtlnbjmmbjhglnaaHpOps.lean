/-
  Layer 4: contracts of the heap's own helpers: find, before, swap.
-/
import Derived.Test.YtlnbjmmbjhglnaaHpMem
import Derived.BigRegion
import Derived.Deep.RegionHeld3
namespace Go.Proofs.Ytlnbjmmbjhglnaa
open Go.ChangeShapes Go.WideShapes Go.ChangeAt Go.RowKit
set_option linter.unusedVariables false

set_option maxRecDepth 100000 in
set_option maxHeartbeats 2000000 in
theorem before_any {w : World} {C H PB cap n : Nat} {v : Value} {E : Nat → Int × Int} {P : Nat → Int} (h : HeapW w C H PB v cap n E P) {i k : Nat} (hi : i < n) (hk : k < n) :
    Calls Try.prog 46 #[.pointer (some ⟨H, 0, none⟩), .int .i64 i, .int .i64 k] w fun e w' => e = .returned (.bool (decide (lt2 (E i) (E k)))) ∧ Below w.heap.size w w' := by
  obtain ⟨c0, c1, c2, _⟩ := h.cells
  obtain ⟨g, c, rfl, hc, hCg, hgl⟩ := h.ents.some_ (by omega)
  obtain ⟨a1, a2⟩ := h.ents.cell hi
  obtain ⟨b1, b2⟩ := h.ents.cell hk
  have hn := h.len.1
  have hn2 := h.len.2
  have HC := Lib.hid (fun W => cmp_any (E i) (E k) W)
  have HD := Lib.hid (show decide (cf2 (E i) (E k) < 0) = decide (lt2 (E i) (E k)) from decide_eq_decide.2 cf2_lt)
  generalize cf2 (E i) (E k) = r at HC HD
  clear h c0 c2
  have i1 : (i : Int) < n := by omega
  have k1 : (k : Int) < n := by omega
  go_enter Try.func46, Try.ntmps46
  go_wp2_with fail
  refine wp_region_tail 14 (by kernel_rfl) (by kernel_rfl) ?_
  simp only [List.take_succ_cons, List.take_zero, List.drop_succ_cons, List.drop_zero]
  repeat still_step
  refine wpStill_nil ?_
  go_wp2_with fail
  (with_reducible refine (HC.out _).mono ?_)
  rintro e w' ⟨rfl, hb⟩
  go_wp2
  go_ret
  exact ⟨ret_bool HD.out, (Below.refl _ _).drew.trans hb⟩

theorem HeapW.exchange {w : World} {C H PB cap n g c : Nat} {E : Nat → Int × Int} {P : Nat → Int} (h : HeapW w C H PB (.slice (some ⟨g, 0, none⟩) n c) cap n E P) {i k : Nat} (hi : i < n) (hk : k < n) :
    HeapW ((((w.setCell ⟨g, i * 2, none⟩ (.int .i64 (E k).1)).setCell ⟨g, i * 2 + 1, none⟩ (.int .i64 (E k).2)).setCell ⟨g, k * 2, none⟩ (.int .i64 (E i).1)).setCell ⟨g, k * 2 + 1, none⟩ (.int .i64 (E i).2)).drew C H PB (.slice (some ⟨g, 0, none⟩) n c) cap n (sw E i k) P ∧
    Chg (foot H PB (.slice (some ⟨g, 0, none⟩) n c)) w ((((w.setCell ⟨g, i * 2, none⟩ (.int .i64 (E k).1)).setCell ⟨g, i * 2 + 1, none⟩ (.int .i64 (E k).2)).setCell ⟨g, k * 2, none⟩ (.int .i64 (E i).1)).setCell ⟨g, k * 2 + 1, none⟩ (.int .i64 (E i).2)).drew := by
  have hgH : H ≠ g := fun e => h.ne.2.1 (by rw [e]; rfl)
  have hgP : PB ≠ g := fun e => h.ne.2.2 (by rw [e]; rfl)
  have hf : foot H PB (.slice (some ⟨g, 0, none⟩) n c) g := .inr (.inr rfl)
  have o : ∀ (w : World) (a : Nat) (u : Value) (b : Nat), b ≠ g → (w.setCell ⟨g, a, none⟩ u).heap[b]? = w.heap[b]? := fun w a u b hb => Below.heap_setCell w ⟨g, a, none⟩ u b hb
  refine ⟨HeapW.drew ⟨?_, ?_, ?_, h.lo, h.ne, h.len⟩, (((((Chg.refl _ _).setCell hf _ _).setCell hf _ _).setCell hf _ _).setCell hf _ _).drew⟩
  · rw [o _ _ _ _ hgH, o _ _ _ _ hgH, o _ _ _ _ hgH, o _ _ _ _ hgH]; exact h.blk
  · exact ((h.ents.put hi (E k).1 (E k).2).put hk (E i).1 (E i).2).same (fun j _ => by rw [← sw_up1])
  · exact (((h.pos.far hgP _ _).far hgP _ _).far hgP _ _).far hgP _ _
theorem HeapW.place {w : World} {C H PB cap n : Nat} {v : Value} {E : Nat → Int × Int} {P : Nat → Int} (h : HeapW w C H PB v cap n E P) {i : Nat} (hi : i < 4096) (x : Int) :
    HeapW (w.setCell ⟨PB, i, none⟩ (.int .i64 x)) C H PB v cap n E (up1 P i x) ∧ Chg (foot H PB v) w (w.setCell ⟨PB, i, none⟩ (.int .i64 x)) := by
  have o : ∀ b, b ≠ PB → (w.setCell ⟨PB, i, none⟩ (.int .i64 x)).heap[b]? = w.heap[b]? := fun b hb => Below.heap_setCell w ⟨PB, i, none⟩ _ b hb
  refine ⟨⟨(o H h.ne.1).trans h.blk, h.ents.keep (fun k e => o k (fun e' => h.ne.2.2 (by rw [e, e']))), (h.pos.set_ hi x).same (fun j _ => rfl), h.lo, h.ne, h.len⟩, (Chg.refl _ _).setCell (.inr (.inl rfl)) _ _⟩
theorem HeapW.posCell {w : World} {C H PB cap n : Nat} {v : Value} {E : Nat → Int × Int} {P : Nat → Int} (h : HeapW w C H PB v cap n E P) {i : Nat} (hi : i < 4096) :
    w.cell? ⟨PB, i, none⟩ = some (.int .i64 (P i)) ∧ w.frozen? ⟨PB, i, none⟩ = false := ⟨h.pos.cell hi, h.pos.frozen i⟩
set_option maxRecDepth 100000 in
set_option maxHeartbeats 4000000 in
theorem swap_ne {w : World} {C H PB cap n : Nat} {v : Value} {E : Nat → Int × Int} {P : Nat → Int} (h : HeapW w C H PB v cap n E P) (hp : PosOk E n P) {i k : Nat} (hi : i < n) (hk : k < n) (hik : i ≠ k) :
    Calls Try.prog 47 #[.pointer (some ⟨H, 0, none⟩), .int .i64 i, .int .i64 k] w fun e w' => e = .returned (.tuple #[]) ∧ HeapW w' C H PB v cap n (sw E i k) (up1 (up1 P (E k).1.toNat i) (E i).1.toNat k) ∧ Chg (foot H PB v) w w' := by
  obtain ⟨c0, c1, c2, _⟩ := h.cells
  obtain ⟨g, c, rfl, hc, hCg, hgl⟩ := h.ents.some_ (by omega)
  obtain ⟨a1, a2⟩ := h.ents.cell hi
  obtain ⟨b1, b2⟩ := h.ents.cell hk
  have f1 := h.ents.free (i * 2)
  have f2 := h.ents.free (i * 2 + 1)
  have f3 := h.ents.free (k * 2)
  have f4 := h.ents.free (k * 2 + 1)
  have hn := h.len.1
  have hn2 := h.len.2
  obtain ⟨h1, k1⟩ := h.exchange hi hk
  have e1 := hp.1 i hi
  have e2 := hp.1 k hk
  have H1 := Lib.hid h1
  have K1 := Lib.hid k1
  clear h c0 h1 k1 hp
  have i1 : (i : Int) < n := by omega
  have k1 : (k : Int) < n := by omega
  go_enter Try.func47, Try.ntmps47
  go_wp2_with fail
  go_region
  generalize ((((w.setCell ⟨g, i * 2, none⟩ (.int .i64 (E k).1)).setCell ⟨g, i * 2 + 1, none⟩ (.int .i64 (E k).2)).setCell ⟨g, k * 2, none⟩ (.int .i64 (E i).1)).setCell ⟨g, k * 2 + 1, none⟩ (.int .i64 (E i).2)).drew = w1 at H1 K1 ⊢
  clear a1 a2 b1 b2 c1 c2 f1 f2 f3 f4
  obtain ⟨_, c1, c2, _⟩ := H1.out.cells
  obtain ⟨a1, _⟩ := H1.out.ents.cell hi
  obtain ⟨b1, _⟩ := H1.out.ents.cell hk
  rw [sw_l] at a1
  rw [sw_r] at b1
  obtain ⟨p0, p1⟩ := H1.out.posCell (i := (E k).1.toNat) (by omega)
  have l1 : (E k).1 < (4096 : Int) := by omega
  have l2 : 0 ≤ (E k).1 := by omega
  obtain ⟨h2, k2⟩ := H1.out.place (i := (E k).1.toNat) (by omega) (i : Int)
  have H2 := Lib.hid h2.drew
  have K2 := Lib.hid (K1.out.trans k2).drew
  clear h2 k2 H1 K1
  go_wp2_with fail
  go_region
  clear a1 b1 p0 p1 c1 c2
  generalize (w1.setCell ⟨PB, (E k).1.toNat, none⟩ (.int .i64 i)).drew = w2 at H2 K2 ⊢
  obtain ⟨_, c1, c2, _⟩ := H2.out.cells
  obtain ⟨b1, _⟩ := H2.out.ents.cell hk
  rw [sw_r] at b1
  obtain ⟨p0, p1⟩ := H2.out.posCell (i := (E i).1.toNat) (by omega)
  have l3 : (E i).1 < (4096 : Int) := by omega
  have l4 : 0 ≤ (E i).1 := by omega
  obtain ⟨h3, k3⟩ := H2.out.place (i := (E i).1.toNat) (by omega) (k : Int)
  have H3 := Lib.hid h3.drew
  have K3 := Lib.hid (K2.out.trans k3).drew
  clear h3 k3 H2 K2
  go_wp2_with fail
  go_region
  go_wp2
  go_end0
  exact ⟨rfl, H3.out, K3.out⟩
set_option maxRecDepth 100000 in
set_option maxHeartbeats 4000000 in
theorem swap_eq {w : World} {C H PB cap n : Nat} {v : Value} {E : Nat → Int × Int} {P : Nat → Int} (h : HeapW w C H PB v cap n E P) (hp : PosOk E n P) {i : Nat} (hi : i < n) :
    Calls Try.prog 47 #[.pointer (some ⟨H, 0, none⟩), .int .i64 i, .int .i64 i] w fun e w' => e = .returned (.tuple #[]) ∧ HeapW w' C H PB v cap n (sw E i i) (up1 (up1 P (E i).1.toNat i) (E i).1.toNat i) ∧ Chg (foot H PB v) w w' := by
  obtain ⟨c0, c1, c2, _⟩ := h.cells
  obtain ⟨g, c, rfl, hc, hCg, hgl⟩ := h.ents.some_ (by omega)
  obtain ⟨a1, a2⟩ := h.ents.cell hi
  have f1 := h.ents.free (i * 2)
  have f2 := h.ents.free (i * 2 + 1)
  have hn := h.len.1
  have hn2 := h.len.2
  obtain ⟨h1, k1⟩ := h.exchange hi hi
  have e1 := hp.1 i hi
  have H1 := Lib.hid h1
  have K1 := Lib.hid k1
  clear h c0 h1 k1 hp
  have i1 : (i : Int) < n := by omega
  go_enter Try.func47, Try.ntmps47
  go_wp2_with fail
  go_region
  generalize ((((w.setCell ⟨g, i * 2, none⟩ (.int .i64 (E i).1)).setCell ⟨g, i * 2 + 1, none⟩ (.int .i64 (E i).2)).setCell ⟨g, i * 2, none⟩ (.int .i64 (E i).1)).setCell ⟨g, i * 2 + 1, none⟩ (.int .i64 (E i).2)).drew = w1 at H1 K1 ⊢
  clear a1 a2 c1 c2 f1 f2
  obtain ⟨_, c1, c2, _⟩ := H1.out.cells
  obtain ⟨a1, _⟩ := H1.out.ents.cell hi
  rw [sw_l] at a1
  obtain ⟨p0, p1⟩ := H1.out.posCell (i := (E i).1.toNat) (by omega)
  have l1 : (E i).1 < (4096 : Int) := by omega
  have l2 : 0 ≤ (E i).1 := by omega
  obtain ⟨h2, k2⟩ := H1.out.place (i := (E i).1.toNat) (by omega) (i : Int)
  have H2 := Lib.hid h2.drew
  have K2 := Lib.hid (K1.out.trans k2).drew
  clear h2 k2 H1 K1
  go_wp2_with fail
  go_region
  clear a1 p0 p1 c1 c2
  generalize (w1.setCell ⟨PB, (E i).1.toNat, none⟩ (.int .i64 i)).drew = w2 at H2 K2 ⊢
  obtain ⟨_, c1, c2, _⟩ := H2.out.cells
  obtain ⟨b1, _⟩ := H2.out.ents.cell hi
  rw [sw_r] at b1
  obtain ⟨p0, p1⟩ := H2.out.posCell (i := (E i).1.toNat) (by omega)
  have l3 : (E i).1 < (4096 : Int) := by omega
  have l4 : 0 ≤ (E i).1 := by omega
  obtain ⟨h3, k3⟩ := H2.out.place (i := (E i).1.toNat) (by omega) (i : Int)
  have H3 := Lib.hid h3.drew
  have K3 := Lib.hid (K2.out.trans k3).drew
  clear h3 k3 H2 K2
  go_wp2_with fail
  go_region
  go_wp2
  go_end0
  exact ⟨rfl, H3.out, K3.out⟩
theorem up1_idem {α : Type} (P : Nat → α) (i : Nat) (x : α) : up1 (up1 P i x) i x = up1 P i x := by
  funext j; unfold up1
  by_cases h : j = i
  · rw [if_pos h, if_pos h]
  · rw [if_neg h, if_neg h]
theorem sw_same {α : Type} (E : Nat → α) (i : Nat) : sw E i i = E := by
  funext j; unfold sw
  by_cases h : j = i
  · rw [if_pos h, h]
  · rw [if_neg h, if_neg h]
theorem swap_any {w : World} {C H PB cap n : Nat} {v : Value} {E : Nat → Int × Int} {P : Nat → Int} (h : HeapW w C H PB v cap n E P) (hp : PosOk E n P) {i k : Nat} (hi : i < n) (hk : k < n) :
    Calls Try.prog 47 #[.pointer (some ⟨H, 0, none⟩), .int .i64 i, .int .i64 k] w fun e w' => e = .returned (.tuple #[]) ∧ HeapW w' C H PB v cap n (sw E i k) (up1 (up1 P (E k).1.toNat i) (E i).1.toNat k) ∧ Chg (foot H PB v) w w' := by
  by_cases hik : i = k
  · subst hik; exact swap_eq h hp hi
  · exact swap_ne h hp hi hk hik
set_option maxHeartbeats 1000000 in
theorem find_out {w : World} {C H PB cap n : Nat} {v : Value} {E : Nat → Int × Int} {P : Nat → Int} (h : HeapW w C H PB v cap n E P) (id : Int) (hid : id < 0 ∨ 4096 ≤ id) :
    Calls Try.prog 35 #[.pointer (some ⟨H, 0, none⟩), .int .i64 id] w fun e w' => e = .returned (.int .i64 (-1)) ∧ w = w' := by
  obtain ⟨_, _, c2, _⟩ := h.cells
  clear h
  rcases hid with h1 | h1
  · go_enter Try.func35, Try.ntmps35
    go_wp2
    go_ret
    exact ⟨rfl, rfl⟩
  · have h2 : ¬ id < 0 := by omega
    go_enter Try.func35, Try.ntmps35
    go_wp2
    go_ret
    exact ⟨rfl, rfl⟩
set_option maxHeartbeats 1000000 in
theorem find_in {w : World} {C H PB cap n : Nat} {v : Value} {E : Nat → Int × Int} {P : Nat → Int} (h : HeapW w C H PB v cap n E P) (id : Int) (h0 : 0 ≤ id) (h1 : id < 4096) :
    Calls Try.prog 35 #[.pointer (some ⟨H, 0, none⟩), .int .i64 id] w fun e w' => e = .returned (.int .i64 (P id.toNat)) ∧ w = w' := by
  obtain ⟨_, _, c2, _⟩ := h.cells
  obtain ⟨p0, _⟩ := h.posCell (i := id.toNat) (by omega)
  clear h
  have h2 : ¬ id < 0 := by omega
  have h3 : ¬ 4096 ≤ id := by omega
  go_enter Try.func35, Try.ntmps35
  go_wp2
  go_ret
  exact ⟨rfl, rfl⟩
theorem find_no {w : World} {C H PB cap n : Nat} {v : Value} {E : Nat → Int × Int} {P : Nat → Int} {M : Int → Option Int} (h : HeapW w C H PB v cap n E P) (hp : PosOk E n P) (hc : Cont E n M) {id : Int} (hm : M id = none) :
    Calls Try.prog 35 #[.pointer (some ⟨H, 0, none⟩), .int .i64 id] w fun e w' => e = .returned (.int .i64 (-1)) ∧ w = w' := by
  by_cases h1 : id < 0 ∨ 4096 ≤ id
  · exact find_out h id h1
  · have := find_in h id (by omega) (by omega)
    rcases hp.2 id.toNat (by omega) with e | ⟨j, hj, e, e'⟩
    · rw [e] at this; exact this
    · have h3 := hc.at_ hj
      rw [show (E j).1 = id by omega, hm] at h3; cases h3
theorem find_yes {w : World} {C H PB cap n : Nat} {v : Value} {E : Nat → Int × Int} {P : Nat → Int} (h : HeapW w C H PB v cap n E P) (hp : PosOk E n P) {i : Nat} (hi : i < n) {id : Int} (he : (E i).1 = id) :
    Calls Try.prog 35 #[.pointer (some ⟨H, 0, none⟩), .int .i64 id] w fun e w' => e = .returned (.int .i64 i) ∧ w = w' := by
  have e1 := hp.1 i hi
  subst he
  have := find_in h (E i).1 e1.1 e1.2.1
  rw [e1.2.2] at this; exact this
end Go.Proofs.Ytlnbjmmbjhglnaa
