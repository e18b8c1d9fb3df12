/-
  Layer 4: contracts of the heap's exported calls: Pop, Peek. Every input.
-/
import Derived.Test.YtlnbjmmbjhglnaaHpApi2
namespace Go.Proofs.Ytlnbjmmbjhglnaa
open Go.ChangeShapes Go.WideShapes Go.ChangeAt Go.RowKit
set_option linter.unusedVariables false

open Classical in
/-- The least entry of what M holds, (0, 0) of nothing. -/
noncomputable def popX (M : Int → Option Int) : Int × Int := if h : ∃ x, LeastM M x then Classical.choose h else (0, 0)
theorem popX_of {M : Int → Option Int} {x : Int × Int} (h : LeastM M x) : popX M = x := by
  have hx : ∃ x, LeastM M x := ⟨x, h⟩
  unfold popX; rw [dif_pos hx]; exact (Classical.choose_spec hx).one h
theorem popX_none {M : Int → Option Int} (h : ∀ id, M id = none) : popX M = (0, 0) := by
  unfold popX; rw [dif_neg]; rintro ⟨x, h1, _⟩; rw [h] at h1; cases h1
theorem Cont.empty {E : Nat → Int × Int} {M : Int → Option Int} (h : Cont E 0 M) : ∀ id, M id = none := fun id => h.no (fun j hj => by omega)
def popErr (n : Nat) : Int := if n = 0 then 5 else 0
noncomputable def popM (n : Nat) (M : Int → Option Int) : Int → Option Int := if n = 0 then M else delM M (popX M).1
noncomputable def popV (n : Nat) (M : Int → Option Int) : Value := .tuple #[.agg #[.int .i64 (popX M).1, .int .i64 (popX M).2], .int .i64 (popErr n)]
theorem popV_zero {M : Int → Option Int} (h : ∀ id, M id = none) : popV 0 M = .tuple #[.agg #[.int .i64 0, .int .i64 0], .int .i64 5] := by unfold popV; rw [popX_none h]; rfl
theorem popV_of {n : Nat} {M : Int → Option Int} {x : Int × Int} (h : LeastM M x) : popV (n + 1) M = .tuple #[.agg #[.int .i64 x.1, .int .i64 x.2], .int .i64 0] := by unfold popV; rw [popX_of h]; rfl
theorem popM_of {n : Nat} {M : Int → Option Int} {x : Int × Int} (h : LeastM M x) : popM (n + 1) M = delM M x.1 := by unfold popM; rw [popX_of h, if_neg (by omega)]
theorem hp_pop {E : Nat → Int × Int} {n : Nat} {M : Int → Option Int} (h : Hp E (n + 1)) (hc : Cont E (n + 1) M) : LeastM M (E 0) := least_of hc (by omega) (hp_least h)
theorem pair_new (w : World) (x y : Int) : Below w.heap.size w (w.alloc (.cells #[.int .i64 x, .int .i64 y] 40)) := (Below.refl _ _).alloc (Nat.le_refl _) _

set_option maxRecDepth 100000 in
set_option maxHeartbeats 4000000 in
theorem peek_any {C H cap n : Nat} {S : Nat → Prop} {M : Int → Option Int} {w : World} (h : HeapO C H S cap n M w) :
    Calls Try.prog 27 #[.pointer (some ⟨H, 0, none⟩)] w (HpAns C H S cap n M (popV n M) w) := by
  have h0 := h
  obtain ⟨PB, v, E, P, h1, h2, h3, h4, h5, h6⟩ := h
  have hHl := (h1.lt H (.inl rfl)).2
  obtain ⟨_, c1, _, _⟩ := h1.cells
  rcases Nat.eq_zero_or_pos n with rfl | hn
  · rw [popV_zero h3.empty]
    obtain ⟨A, c, rfl⟩ := h1.ents.shape
    have HE : Hid (HpAns C H S cap 0 M (.tuple #[.agg #[.int .i64 0, .int .i64 0], .int .i64 5]) w (.returned (.tuple #[.agg #[.int .i64 0, .int .i64 0], .int .i64 5])) (w.alloc (.cells #[.int .i64 0, .int .i64 0] 40))) := Lib.hid ⟨S, rfl, h0.same (pair_new w _ _)⟩
    clear h0 h1 h2 h3 h4 h5 h6
    go_enter Try.func27, Try.ntmps27
    go_wp2
    exact bodyPost_ret (v := .tuple #[.agg #[.int .i64 0, .int .i64 0], .int .i64 5]) (by simp [results, Try.results27, go_sem]) rfl HE.out
  · obtain ⟨n, rfl⟩ : ∃ m, n = m + 1 := ⟨n - 1, by omega⟩
    have hl := hp_pop h4 h3
    rw [popV_of hl]
    obtain ⟨g, c, rfl, hc, _, hgl⟩ := h1.ents.some_ (by omega)
    obtain ⟨a1, a2⟩ := h1.ents.cell (i := 0) (by omega)
    have HE : Hid (HpAns C H S cap (n + 1) M (.tuple #[.agg #[.int .i64 (E 0).1, .int .i64 (E 0).2], .int .i64 0]) w (.returned (.tuple #[.agg #[.int .i64 (E 0).1, .int .i64 (E 0).2], .int .i64 0])) (w.alloc (.cells #[.int .i64 (E 0).1, .int .i64 (E 0).2] 40))) := Lib.hid ⟨S, rfl, h0.same (pair_new w _ _)⟩
    have ht : (((n : Int) + 1) == 0) = false := beq_eq_false_iff_ne.2 (by omega)
    have hn4 : n + 1 ≤ 4096 := by have := h1.len; omega
    clear h0 h1 h2 h3 h4 h5 h6 hl
    go_enter Try.func27, Try.ntmps27
    go_wp2
    exact bodyPost_ret (v := .tuple #[.agg #[.int .i64 (E 0).1, .int .i64 (E 0).2], .int .i64 0]) (by simp [results, Try.results27, go_sem]) rfl HE.out
set_option maxRecDepth 100000 in
set_option maxHeartbeats 4000000 in
theorem pop_any {C H cap n : Nat} {S : Nat → Prop} {M : Int → Option Int} {w : World} (h : HeapO C H S cap n M w) :
    Calls Try.prog 20 #[.pointer (some ⟨H, 0, none⟩)] w (HpAns C H S cap (n - 1) (popM n M) (popV n M) w) := by
  have h0 := h
  obtain ⟨PB, v, E, P, h1, h2, h3, h4, h5, h6⟩ := h
  have hHl := (h1.lt H (.inl rfl)).2
  obtain ⟨_, c1, _, _⟩ := h1.cells
  rcases Nat.eq_zero_or_pos n with rfl | hn
  · rw [popV_zero h3.empty]
    obtain ⟨A, c, rfl⟩ := h1.ents.shape
    have HE : Hid (HpAns C H S cap (0 - 1) (popM 0 M) (.tuple #[.agg #[.int .i64 0, .int .i64 0], .int .i64 5]) w (.returned (.tuple #[.agg #[.int .i64 0, .int .i64 0], .int .i64 5])) (w.alloc (.cells #[.int .i64 0, .int .i64 0] 40))) := Lib.hid ⟨S, rfl, h0.same (pair_new w _ _)⟩
    clear h0 h1 h2 h3 h4 h5 h6
    go_enter Try.func20, Try.ntmps20
    go_wp2
    exact bodyPost_ret (v := .tuple #[.agg #[.int .i64 0, .int .i64 0], .int .i64 5]) (by simp [results, Try.results20, go_sem]) rfl HE.out
  · obtain ⟨n, rfl⟩ : ∃ m, n = m + 1 := ⟨n - 1, by omega⟩
    have hl := hp_pop h4 h3
    rw [popV_of hl, popM_of hl, Nat.add_sub_cancel]
    obtain ⟨A, c, rfl⟩ := h1.ents.shape
    have ht : (((n : Int) + 1) == 0) = false := beq_eq_false_iff_ne.2 (by omega)
    have hn4 : n + 1 ≤ 4096 := by have := h1.len; omega
    have hb0 := pair_new w 0 0
    have HZ := Lib.hid (show Calls Try.prog 38 #[.pointer (some ⟨H, 0, none⟩), .int .i64 0] _ _ from take_any (h1.below hb0) h2 h3 h4 (show 0 < n + 1 by omega))
    have HB1 : Hid (¬ foot H PB (.slice A (n + 1) c) w.heap.size) := fun hf => by have := (h1.lt _ hf).2; omega
    have HS := Lib.hid h5
    have HB := Lib.hid hb0
    clear h0 h1 h2 h3 h4 h5 h6 hl hb0
    go_enter Try.func20, Try.ntmps20
    go_wp2_with fail
    (with_reducible refine HZ.out.mono ?_)
    rintro e w2 ⟨v5, E5, P5, rfl, hf5, ⟨s1, s2, s3, s4⟩, s5⟩
    have k4 : Chg (foot H PB (.slice A (n + 1) c)) (w.alloc (.cells #[.int .i64 0, .int .i64 0] 40)) w2 := by rw [← hf5]; exact s4
    have r4 := k4.whole (Whole.new w 40 #[.int .i64 0, .int .i64 0]) HB1.out
    have hnf : ¬ foot H PB v5 w.heap.size := by rw [hf5]; exact HB1.out
    obtain ⟨t0, t1, t2, t3⟩ := r4.at_
    have hsz4 : w.heap.size < w2.heap.size := lt_of_cell t0
    have HF : Hid (HpAns C H S cap n (delM M (E 0).1) (.tuple #[.agg #[.int .i64 (E 0).1, .int .i64 (E 0).2], .int .i64 0]) w (.returned (.tuple #[.agg #[.int .i64 (E 0).1, .int .i64 (E 0).2], .int .i64 0])) ((w2.setCell ⟨w.heap.size, 0, none⟩ (.int .i64 (E 0).1)).setCell ⟨w.heap.size, 1, none⟩ (.int .i64 (E 0).2))) :=
      Lib.hid ⟨_, rfl, HeapO.done HS.out ((s1.far hnf _ _).far hnf _ _) s2 s3 s5 ((((Chg.of_below HB.out).trans k4).setNew (Nat.le_refl _) _ _).setNew (Nat.le_refl _) _ _) (fun k hk => .inl (by rw [← hf5]; exact hk))⟩
    have ZF := Lib.hid (show Whole ((w2.setCell ⟨w.heap.size, 0, none⟩ (.int .i64 (E 0).1)).setCell ⟨w.heap.size, 1, none⟩ (.int .i64 (E 0).2)) w.heap.size 40 #[.int .i64 (E 0).1, .int .i64 (E 0).2] from (Whole.put (Whole.put r4 0 _) 1 _))
    clear s1 s2 s3 s4 s5 HZ hf5 k4 r4 HB HS
    go_wp2
    generalize (w2.setCell ⟨w.heap.size, 0, none⟩ (.int .i64 (E 0).1)).setCell ⟨w.heap.size, 1, none⟩ (.int .i64 (E 0).2) = wz at HF ZF ⊢
    obtain ⟨z0, z1, _, _⟩ := ZF.out.at_
    exact bodyPost_ret (v := .tuple #[.agg #[.int .i64 (E 0).1, .int .i64 (E 0).2], .int .i64 0]) (by simp [results, Try.results20, go_sem, z0, z1]) rfl HF.out
end Go.Proofs.Ytlnbjmmbjhglnaa
