/-
  Layer 4: contracts of the reference's Peek, Remove, Pop. Every input.
-/
import Derived.Test.YtlnbjmmbjhglnaaHpRef2
import Derived.Deep.RegionLaw
namespace Go.Proofs.Ytlnbjmmbjhglnaa
open Go.ChangeShapes Go.WideShapes Go.ChangeAt Go.RowKit
set_option linter.unusedVariables false

/-- The place of the least among the first k entries. -/
def leastTo (E : Nat → Int × Int) : Nat → Nat
  | 0 => 0
  | k + 1 => if lt2 (E k) (E (leastTo E k)) then k else leastTo E k
theorem leastTo_lt (E : Nat → Int × Int) (k : Nat) (h : 0 < k) : leastTo E k < k := by
  induction k with
  | zero => omega
  | succ k ih =>
    unfold leastTo
    split
    · omega
    · rcases Nat.eq_zero_or_pos k with rfl | hk
      · show 0 < 1; omega
      · have := ih hk; omega
theorem leastTo_le (E : Nat → Int × Int) (k : Nat) : ∀ j, j < k → le2 (E (leastTo E k)) (E j) := by
  induction k with
  | zero => intro j hj; omega
  | succ k ih =>
    intro j hj
    unfold leastTo
    split
    · rename_i h
      rcases (by omega : j = k ∨ j < k) with rfl | hk
      · exact le2_refl _
      · exact le2_trans (le2_of_lt h) (ih j hk)
    · rename_i h
      rcases (by omega : j = k ∨ j < k) with rfl | hk
      · exact le2_of_not h
      · exact ih j hk
theorem leastTo_one (E : Nat → Int × Int) : leastTo E 1 = 0 := by
  show (if lt2 (E 0) (E 0) then 0 else 0) = 0; split <;> rfl
theorem RfAns.stay {C R cap n : Nat} {S : Nat → Prop} {M : Int → Option Int} {w w' : World} (h : RefO C R S cap n M w) (hb : Below w.heap.size w w') (x : Value) : RfAns C R S cap n M x w (.returned x) w' := ⟨S, rfl, h.same hb⟩

set_option maxRecDepth 100000 in
set_option maxHeartbeats 4000000 in
theorem rpeek_any {C R cap n : Nat} {S : Nat → Prop} {M : Int → Option Int} {w : World} (h : RefO C R S cap n M w) :
    Calls Try.prog 28 #[.pointer (some ⟨R, 0, none⟩)] w (RfAns C R S cap n M (popV n M) w) := by
  have h0 := h
  obtain ⟨v, E, h1, h2, h3, h5, h6⟩ := h
  have hRl := (h1.lt R (.inl rfl)).2
  obtain ⟨_, c1, _⟩ := h1.cells
  rcases Nat.eq_zero_or_pos n with rfl | hn
  · rw [popV_zero h3.empty]
    obtain ⟨A, c, rfl⟩ := h1.ents.shape
    have HE := Lib.hid (RfAns.stay h0 (pair_new w 0 0) (.tuple #[.agg #[.int .i64 0, .int .i64 0], .int .i64 5]))
    clear h0 h1 h2 h3 h5 h6
    go_enter Try.func28, Try.ntmps28
    go_wp2
    exact bodyPost_ret (v := .tuple #[.agg #[.int .i64 0, .int .i64 0], .int .i64 5]) (by simp [results, Try.results28, go_sem]) rfl HE.out
  · obtain ⟨n, rfl⟩ : ∃ m, n = m + 1 := ⟨n - 1, by omega⟩
    have hl : LeastM M (E (leastTo E (n + 1))) := least_of h3 (leastTo_lt E _ (by omega)) (leastTo_le E _)
    rw [popV_of hl]
    obtain ⟨g, c, rfl, hc, _, hgl⟩ := h1.ents.some_ (by omega)
    obtain ⟨a1, a2⟩ := h1.ents.cell (i := 0) (by omega)
    have HE := Lib.hid (fun (w' : World) (hb : Below w.heap.size w w') => RfAns.stay h0 hb (.tuple #[.agg #[.int .i64 (E (leastTo E (n + 1))).1, .int .i64 (E (leastTo E (n + 1))).2], .int .i64 0]))
    have HC := Lib.hid (fun k hk => h1.ents.cell (i := k) hk)
    have ht : (((n : Int) + 1) == 0) = false := beq_eq_false_iff_ne.2 (by omega)
    have hn4 : n + 1 ≤ 4096 := by have := h1.len; omega
    have h01 : Hid (E (leastTo E 1) = E 0) := Lib.hid (by rw [leastTo_one])
    clear h0 h1 h2 h3 h5 h6 hl
    go_enter Try.func28, Try.ntmps28
    go_wp2_with fail
    have hb0 : Below w.heap.size w ((w.alloc (.cells #[.int .i64 0, .int .i64 0] 40)).alloc (.cells #[.int .i64 (E 0).1, .int .i64 (E 0).2] 40)) := (pair_new w 0 0).alloc (by simp) _
    have hw1 : Whole ((w.alloc (.cells #[.int .i64 0, .int .i64 0] 40)).alloc (.cells #[.int .i64 (E 0).1, .int .i64 (E 0).2] 40)) w.heap.size 40 #[.int .i64 0, .int .i64 0] := (Whole.new w _ _).alloc _
    have hw2 : Whole ((w.alloc (.cells #[.int .i64 0, .int .i64 0] 40)).alloc (.cells #[.int .i64 (E 0).1, .int .i64 (E 0).2] 40)) (w.heap.size + 1) 40 #[.int .i64 (E 0).1, .int .i64 (E 0).2] := by
      have := Whole.new (w.alloc (.cells #[.int .i64 0, .int .i64 0] 40)) 40 #[.int .i64 (E 0).1, .int .i64 (E 0).2]
      rw [show (w.alloc (.cells #[.int .i64 0, .int .i64 0] 40)).heap.size = w.heap.size + 1 by simp] at this
      exact this
    have HB0 := Lib.hid hb0
    have HW1 := Lib.hid hw1
    have HW2 := Lib.hid hw2
    clear hb0 hw1 hw2 a1 a2
    go_loopw [5] (fun i wr => ∃ k : Nat, 1 ≤ k ∧ k ≤ n + 1 ∧ i = .int .i64 k ∧ Hid (Below w.heap.size w wr) ∧ Hid (Whole wr w.heap.size 40 #[.int .i64 0, .int .i64 0]) ∧ Hid (Whole wr (w.heap.size + 1) 40 #[.int .i64 (E (leastTo E k)).1, .int .i64 (E (leastTo E k)).2])) (fun i _ => n + 1 - (intOf i).toNat)
    case atStart => exact ⟨1, Nat.le_refl _, by omega, rfl, HB0, HW1, Lib.hid (by rw [h01.out]; exact HW2.out)⟩
    case round =>
      obtain ⟨k, k1, k2, rfl, HB, HX1, HX2⟩ := hrel
      clear HB0 HW1 HW2
      have c1r : wr.cell? ⟨R, 1, none⟩ = some (.slice (some ⟨g, 0, none⟩) (n + 1) c) := (HB.out.cell (p := ⟨R, 1, none⟩) hRl).trans c1
      obtain ⟨x0, x1, x2, x3⟩ := HX2.out.at_
      by_cases hlt : k < n + 1
      · have hlt' : (k : Int) < n + 1 := by omega
        have e1 := (HB.out.cell (p := ⟨g, k * 2, none⟩) hgl).trans (HC.out k hlt).1
        have e2 := (HB.out.cell (p := ⟨g, k * 2 + 1, none⟩) hgl).trans (HC.out k hlt).2
        have HL := Lib.hid (less_any (E k) (E (leastTo E k)) wr.drew)
        have HS : Hid (leastTo E (k + 1) = if lt2 (E k) (E (leastTo E k)) then k else leastTo E k) := Lib.hid rfl
        clear c1
        go_wp2_with fail
        refine wp_region_tail 8 (by kernel_rfl) (by kernel_rfl) ?_
        simp only [List.take_succ_cons, List.take_zero, List.drop_succ_cons, List.drop_zero]
        repeat still_step
        refine wpStill_nil ?_
        go_wp2_with fail
        by_cases hl : lt2 (E k) (E (leastTo E k))
        · rw [decide_eq_true hl] at HL
          rw [if_pos hl] at HS
          (with_reducible refine HL.out.mono ?_)
          rintro e w1 ⟨rfl, hb1⟩
          have HB1 := Lib.hid ((HB.out.drew).trans (hb1.mono HB.out.size))
          have HY1 := Lib.hid (HX1.out.below ((Below.refl _ _).drew.trans hb1))
          have hy2 := HX2.out.below ((Below.refl _ _).drew.trans hb1)
          have d1 : w1.cell? ⟨R, 1, none⟩ = some (.slice (some ⟨g, 0, none⟩) (n + 1) c) := ((HB1.out.cell (p := ⟨R, 1, none⟩) hRl).trans (HB.out.cell (p := ⟨R, 1, none⟩) hRl).symm).trans c1r
          have d2 := ((HB1.out.cell (p := ⟨g, k * 2, none⟩) hgl).trans (HB.out.cell (p := ⟨g, k * 2, none⟩) hgl).symm).trans e1
          have d3 := ((HB1.out.cell (p := ⟨g, k * 2 + 1, none⟩) hgl).trans (HB.out.cell (p := ⟨g, k * 2 + 1, none⟩) hgl).symm).trans e2
          obtain ⟨y0, y1, y2, y3⟩ := hy2.at_
          have HY2 := Lib.hid (show Whole ((w1.setCell ⟨w.heap.size + 1, 0, none⟩ (.int .i64 (E k).1)).setCell ⟨w.heap.size + 1, 1, none⟩ (.int .i64 (E k).2)) (w.heap.size + 1) 40 #[.int .i64 (E k).1, .int .i64 (E k).2] from (Whole.put (Whole.put hy2 0 _) 1 _))
          clear hy2 hb1 HL HX1 HX2 x0 x1 x2 x3 c1r e1 e2
          go_wp2
          go_roundw
          case rel => exact ⟨k + 1, by omega, by omega, by go_num, Lib.hid ((HB1.out.setCell (by show _ ≤ w.heap.size + 1; omega) _).setCell (by show _ ≤ w.heap.size + 1; omega) _), Lib.hid ((HY1.out.other (by omega) _ _).other (by omega) _ _), by rw [HS.out]; exact HY2⟩
          case measure => simp [intOf]; omega
        · rw [decide_eq_false hl] at HL
          rw [if_neg hl] at HS
          (with_reducible refine HL.out.mono ?_)
          rintro e w1 ⟨rfl, hb1⟩
          have HB1 := Lib.hid ((HB.out.drew).trans (hb1.mono HB.out.size))
          have HY1 := Lib.hid (HX1.out.below ((Below.refl _ _).drew.trans hb1))
          have HY2 := Lib.hid (HX2.out.below ((Below.refl _ _).drew.trans hb1))
          clear hb1 HL HX1 HX2 x0 x1 x2 x3 c1r e1 e2
          go_wp2
          go_roundw
          case rel => exact ⟨k + 1, by omega, by omega, by go_num, HB1, HY1, by rw [HS.out]; exact HY2⟩
          case measure => simp [intOf]; omega
      · obtain rfl : k = n + 1 := by omega
        obtain ⟨t0, t1, t2, t3⟩ := HX1.out.at_
        have hsz4 : w.heap.size < wr.heap.size := lt_of_cell t0
        have HF := Lib.hid (HE.out ((wr.setCell ⟨w.heap.size, 0, none⟩ (.int .i64 (E (leastTo E (n + 1))).1)).setCell ⟨w.heap.size, 1, none⟩ (.int .i64 (E (leastTo E (n + 1))).2)) ((HB.out.setCell (Nat.le_refl _) _).setCell (Nat.le_refl _) _))
        have ZF := Lib.hid (show Whole ((wr.setCell ⟨w.heap.size, 0, none⟩ (.int .i64 (E (leastTo E (n + 1))).1)).setCell ⟨w.heap.size, 1, none⟩ (.int .i64 (E (leastTo E (n + 1))).2)) w.heap.size 40 #[.int .i64 (E (leastTo E (n + 1))).1, .int .i64 (E (leastTo E (n + 1))).2] from (Whole.put (Whole.put HX1.out 0 _) 1 _))
        clear HE HC
        generalize E (leastTo E (n + 1)) = y at *
        go_wp2
        generalize (wr.setCell ⟨w.heap.size, 0, none⟩ (.int .i64 y.1)).setCell ⟨w.heap.size, 1, none⟩ (.int .i64 y.2) = wz at HF ZF ⊢
        obtain ⟨z0, z1, _, _⟩ := ZF.out.at_
        exact bodyPost_ret (v := .tuple #[.agg #[.int .i64 y.1, .int .i64 y.2], .int .i64 0]) (by simp [results, Try.results28, go_sem, z0, z1]) rfl HF.out
end Go.Proofs.Ytlnbjmmbjhglnaa
