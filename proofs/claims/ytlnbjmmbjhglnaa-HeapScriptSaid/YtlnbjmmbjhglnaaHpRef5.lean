/-
  Layer 4: contract of the reference's Pop. Every input.
-/
import Derived.Test.YtlnbjmmbjhglnaaHpRef4
namespace Go.Proofs.Ytlnbjmmbjhglnaa
open Go.ChangeShapes Go.WideShapes Go.ChangeAt Go.RowKit
set_option linter.unusedVariables false

theorem RefO.lo {C R cap n : Nat} {S : Nat → Prop} {M : Int → Option Int} {w : World} (h : RefO C R S cap n M w) : ∀ k, S k → C ≤ k ∧ k < w.heap.size := by
  obtain ⟨_, _, _, _, _, _, h6⟩ := h; exact h6
theorem RefO.far {C R cap n : Nat} {S : Nat → Prop} {M : Int → Option Int} {w : World} (h : RefO C R S cap n M w) {b : Nat} (hb : ¬ S b) (o : Nat) (u : Value) : RefO C R S cap n M (w.setCell ⟨b, o, none⟩ u) := by
  obtain ⟨v, E, h1, h2, h3, h5, h6⟩ := h
  exact ⟨v, E, h1.keep (fun k hk => Below.heap_setCell w ⟨b, o, none⟩ u k (fun e => hb (by have e : k = b := e; rw [← e]; exact h5 k hk))), h2, h3, h5, fun k hk => by have := h6 k hk; simpa [World.setCell] using this⟩
theorem RefO.least {C R cap n : Nat} {S : Nat → Prop} {M : Int → Option Int} {w : World} (h : RefO C R S cap (n + 1) M w) : ∃ x, LeastM M x := by
  obtain ⟨v, E, h1, h2, h3, h5, h6⟩ := h
  exact ⟨_, least_of h3 (leastTo_lt E _ (by omega)) (leastTo_le E _)⟩
theorem RefO.none_ {C R cap : Nat} {S : Nat → Prop} {M : Int → Option Int} {w : World} (h : RefO C R S cap 0 M w) : ∀ id, M id = none := by
  obtain ⟨v, E, h1, h2, h3, h5, h6⟩ := h; exact h3.empty
theorem pair_size (w : World) (x y : Int) : (w.alloc (.cells #[.int .i64 x, .int .i64 y] 40)).heap.size = w.heap.size + 1 := by simp
set_option maxRecDepth 100000 in
set_option maxHeartbeats 4000000 in
theorem rpop_any {C R cap n : Nat} {S : Nat → Prop} {M : Int → Option Int} {w : World} (h : RefO C R S cap n M w) :
    Calls Try.prog 30 #[.pointer (some ⟨R, 0, none⟩)] w (RfAns C R S cap (n - 1) (popM n M) (popV n M) w) := by
  have hB1 : ¬ S w.heap.size := fun e => by have := (h.lo _ e).2; omega
  rcases Nat.eq_zero_or_pos n with rfl | hn
  · rw [popV_zero h.none_]
    have HP := rpeek_any (h.same (pair_new w 0 0)).1
    rw [popV_zero h.none_] at HP
    have HP' := Lib.hid HP
    have HH := Lib.hid h
    have HB := Lib.hid hB1
    have d5 : ((5 : Int) == 0) = false := rfl
    clear h hB1 HP
    go_enter Try.func30, Try.ntmps30
    go_wp2_with fail
    (with_reducible refine HP'.out.mono ?_)
    rintro e w1 ⟨S1, rfl, o1, t1, t2⟩
    have r1 := (t1.whole (Whole.new w 40 #[.int .i64 0, .int .i64 0]) HB.out).below (pair_new w1 0 0)
    have o2 := (o1.same (pair_new w1 0 0)).1
    have hS1 : ¬ S1 w.heap.size := fun e => by
      rcases t2 _ e with e | e
      · exact HB.out e
      · rw [pair_size] at e; omega
    obtain ⟨z0, z1, z2, z3⟩ := r1.at_
    have hsz := r1.size_lt
    obtain ⟨x0, x1, _, _⟩ := (Whole.new w1 40 #[.int .i64 0, .int .i64 0]).at_
    have ck : Chg S w (w1.alloc (.cells #[.int .i64 0, .int .i64 0] 40)) := (((Chg.of_below (pair_new w 0 0)).trans t1).alloc _)
    have HF := Lib.hid (show RfAns C R S cap (0 - 1) (popM 0 M) (.tuple #[.agg #[.int .i64 0, .int .i64 0], .int .i64 5]) w (.returned (.tuple #[.agg #[.int .i64 0, .int .i64 0], .int .i64 5])) _ from ⟨S1, rfl, (o2.far hS1 0 (.int .i64 0)).far hS1 1 (.int .i64 0), (ck.setNew (Nat.le_refl _) _ _).setNew (Nat.le_refl _) _ _, fun k hk => by
      rcases t2 k hk with e | e
      · exact .inl e
      · rw [pair_size] at e; exact .inr (by omega)⟩)
    have ZF := Lib.hid (show Whole (((w1.alloc (.cells #[.int .i64 0, .int .i64 0] 40)).setCell ⟨w.heap.size, 0, none⟩ (.int .i64 0)).setCell ⟨w.heap.size, 1, none⟩ (.int .i64 0)) w.heap.size 40 #[.int .i64 0, .int .i64 0] from (Whole.put (Whole.put r1 0 _) 1 _))
    clear r1 o2 o1 t1 t2 ck HP' HH
    go_wp2_with fail
    generalize w1.alloc (.cells #[.int .i64 0, .int .i64 0] 40) = w2 at *
    go_wp2
    generalize (w2.setCell ⟨w.heap.size, 0, none⟩ (.int .i64 0)).setCell ⟨w.heap.size, 1, none⟩ (.int .i64 0) = wz at HF ZF ⊢
    obtain ⟨z0, z1, _, _⟩ := ZF.out.at_
    exact bodyPost_ret (v := .tuple #[.agg #[.int .i64 0, .int .i64 0], .int .i64 5]) (by simp [results, Try.results30, go_sem, z0, z1]) rfl HF.out
  · obtain ⟨n, rfl⟩ : ∃ m, n = m + 1 := ⟨n - 1, by omega⟩
    obtain ⟨x, hl⟩ := h.least
    rw [popV_of hl, popM_of hl, Nat.add_sub_cancel]
    have HP := rpeek_any (h.same (pair_new w 0 0)).1
    rw [popV_of hl] at HP
    have HP' := Lib.hid HP
    have HL := Lib.hid hl
    have HB := Lib.hid hB1
    have d5 : ((0 : Int) == 0) = true := rfl
    clear h hB1 HP hl
    go_enter Try.func30, Try.ntmps30
    go_wp2_with fail
    (with_reducible refine HP'.out.mono ?_)
    rintro e w1 ⟨S1, rfl, o1, t1, t2⟩
    have r1 := (t1.whole (Whole.new w 40 #[.int .i64 0, .int .i64 0]) HB.out).below (pair_new w1 x.1 x.2)
    have o2 := (o1.same (pair_new w1 x.1 x.2)).1
    have q1 := Whole.new w1 40 #[.int .i64 x.1, .int .i64 x.2]
    have hS1 : ¬ S1 w.heap.size := fun e => by
      rcases t2 _ e with e | e
      · exact HB.out e
      · rw [pair_size] at e; omega
    have hS2 : ¬ S1 w1.heap.size := fun e => by have := (o1.lo _ e).2; omega
    have hw1 : w.heap.size < w1.heap.size := by have := t1.size; rw [pair_size] at this; omega
    have ck : Chg S w (w1.alloc (.cells #[.int .i64 x.1, .int .i64 x.2] 40)) := (((Chg.of_below (pair_new w 0 0)).trans t1).alloc _)
    have HR := rrem_any o2 x.1
    unfold remN remM updErr at HR
    have hms : (M x.1).isSome = true := by rw [HL.out.1]; rfl
    rw [if_pos hms, if_pos hms, if_pos hms, Nat.add_sub_cancel] at HR
    obtain ⟨x0, x1, _, _⟩ := q1.at_
    have HR' := Lib.hid HR
    have T2 := Lib.hid t2
    clear o2 o1 HR hms HP' t1 t2
    go_wp2_with fail
    (with_reducible refine HR'.out.mono ?_)
    rintro e w3 ⟨S3, rfl, o3, t3, t4⟩
    have sub : ∀ k, S3 k → S k ∨ w.heap.size + 1 ≤ k := fun k hk => by
      rcases t4 k hk with e | e
      · rcases T2.out k e with e | e
        · exact .inl e
        · rw [pair_size] at e; exact .inr e
      · rw [pair_size] at e; exact .inr (by omega)
    have hS3 : ¬ S3 w.heap.size := fun e => by
      rcases sub _ e with e | e
      · exact HB.out e
      · omega
    have r3 := t3.whole r1 hS1
    have q3 := t3.whole q1 hS2
    have ck3 := ck.join t3 (fun k hk => by
      rcases T2.out k hk with e | e
      · exact .inl e
      · rw [pair_size] at e; exact .inr (by omega))
    obtain ⟨z0, z1, z2, z3⟩ := r3.at_
    obtain ⟨x0, x1, _, _⟩ := q3.at_
    have hsz := r3.size_lt
    have HF := Lib.hid (show RfAns C R S cap n (delM M x.1) (.tuple #[.agg #[.int .i64 x.1, .int .i64 x.2], .int .i64 0]) w (.returned (.tuple #[.agg #[.int .i64 x.1, .int .i64 x.2], .int .i64 0])) _ from ⟨S3, rfl, (o3.far hS3 0 (.int .i64 x.1)).far hS3 1 (.int .i64 x.2), (ck3.setNew (Nat.le_refl _) _ _).setNew (Nat.le_refl _) _ _, fun k hk => (sub k hk).elim .inl (fun e => .inr (by omega))⟩)
    have ZF := Lib.hid (show Whole ((w3.setCell ⟨w.heap.size, 0, none⟩ (.int .i64 x.1)).setCell ⟨w.heap.size, 1, none⟩ (.int .i64 x.2)) w.heap.size 40 #[.int .i64 x.1, .int .i64 x.2] from (Whole.put (Whole.put r3 0 _) 1 _))
    clear r1 q1 o3 t3 t4 ck ck3 HR' r3 q3 sub hS3 hS1 hS2 T2
    go_wp2
    generalize (w3.setCell ⟨w.heap.size, 0, none⟩ (.int .i64 x.1)).setCell ⟨w.heap.size, 1, none⟩ (.int .i64 x.2) = wz at HF ZF ⊢
    obtain ⟨z0, z1, _, _⟩ := ZF.out.at_
    exact bodyPost_ret (v := .tuple #[.agg #[.int .i64 x.1, .int .i64 x.2], .int .i64 0]) (by simp [results, Try.results30, go_sem, z0, z1]) rfl HF.out
end Go.Proofs.Ytlnbjmmbjhglnaa
