/-
  Layer 4: the heap as an object of its own; contracts of Push, Update, Remove, Pop, Peek, Key, Len.
-/
import Derived.Test.YtlnbjmmbjhglnaaHpTake
import Derived.ArgAppend
namespace Go.Proofs.Ytlnbjmmbjhglnaa
open Go.ChangeShapes Go.WideShapes Go.ChangeAt Go.RowKit
set_option linter.unusedVariables false

theorem Ents.wider {w : World} {C C' n : Nat} {v : Value} {E : Nat → Int × Int} (h : Ents w C v n E) (hC : C' ≤ C) : Ents w C' v n E := by
  refine ⟨h.1, ?_⟩
  rcases h.2 with h2 | ⟨g, cap, cur, hv, hg, r⟩
  · exact .inl h2
  · exact .inr ⟨g, cap, cur, hv, by omega, r⟩
theorem Ents.room {w : World} {C g c n : Nat} {E : Nat → Int × Int} (h : Ents w C (.slice (some ⟨g, 0, none⟩) n c) n E) (hc : n + 1 ≤ c) (x y : Int) :
    Ents ((w.setCell ⟨g, n * 2, none⟩ (.int .i64 x)).setCell ⟨g, n * 2 + 1, none⟩ (.int .i64 y)) C (.slice (some ⟨g, 0, none⟩) (n + 1) c) (n + 1) (up1 E n (x, y)) := by
  refine ⟨flatE_len _ _, ?_⟩
  rcases h.2 with ⟨hv, _⟩ | ⟨g', cap, cur, hv, h1, h2, h3, h4, h5, h6⟩
  · simp at hv
  · simp only [Value.slice.injEq, Option.some.injEq, Addr.mk.injEq, and_true, true_and] at hv
    obtain ⟨rfl, rfl⟩ := hv
    refine .inr ⟨g, c, (cur.setIfInBounds (n * 2) (.int .i64 x)).setIfInBounds (n * 2 + 1) (.int .i64 y), rfl, h1, heap_setCell_same _ g _ _ _ _ (heap_setCell_same w g _ _ _ _ h2), hc, h4, by simpa using h5, ?_⟩
    refine flatE_ext (by simp; omega) (fun j hj => ?_)
    have hcur : ∀ i, i < n * 2 → cur[i]? = some (prE E i) := fun i hi => by
      have := flatE_at E n i hi
      rw [← h6, List.getElem?_take, if_pos hi] at this
      simpa using this
    rw [List.getElem?_take, if_pos hj, Array.getElem?_toList, Array.getElem?_setIfInBounds]
    by_cases j1 : n * 2 + 1 = j
    · subst j1; rw [if_pos rfl, if_pos (by simp; omega), prE_odd, up1_at]
    · rw [if_neg j1, Array.getElem?_setIfInBounds]
      by_cases j2 : n * 2 = j
      · subst j2; rw [if_pos rfl, if_pos (by omega), prE_even, up1_at]
      · rw [if_neg j2, hcur j (by omega)]
        unfold prE
        rw [up1_ne _ _ _ _ (show j / 2 ≠ n by omega)]
theorem flatE_up1 (E : Nat → Int × Int) (n : Nat) (x y : Int) : flatE E n ++ [.int .i64 x, .int .i64 y] = flatE (up1 E n (x, y)) (n + 1) := by
  simp only [flatE, up1_at]
  rw [flatE_congr (F := up1 E n (x, y)) (fun i hi => (up1_ne _ _ _ _ (by omega)).symm)]
theorem info_ent : (Try.prog.info? 40).map (fun i => (i.zero, i.size, i.bytes)) = some (some (.agg #[.int .i64 0, .int .i64 0]), 2, 16) := by kernel_rfl
theorem pair_one (x y : Int) : ∀ u ∈ [Value.int .i64 x, Value.int .i64 y], u.oneCell' = true := by
  intro u hu; simp at hu; rcases hu with rfl | rfl <;> rfl
/-- append of one entry: the row is the old one, or new. -/
theorem wpList_append_ent {w : World} {ops : Array Oper} {rest : List Oper} {o : Oper} {a : Act} {Q : Exit → Act → World → Prop} (hgd : o.guard = none) (s x : Operand)
    (ho : o.op = .call { callee := .builtin .append, args := #[s, x], argTypes := #[35, 35] })
    {C n : Nat} {v : Value} {E : Nat → Int × Int} (h : Ents w C v n E) (hs : a.eval s = v) (ad : Addr) (id key : Int) (hx : a.eval x = .slice (some ad) 1 1)
    (hc : ∀ j u, [Value.int .i64 id, Value.int .i64 key][j]? = some u → w.cell? (ad.add j) = some u) (hn : n ≤ 4096) (hC : C ≤ w.heap.size)
    (K : ∀ v' w', Ents w' C v' (n + 1) (up1 E n (id, key)) → w.grownBy w' v.ownBlock → (v'.ownBlock = v.ownBlock ∨ ∃ g, v'.ownBlock = some g ∧ w.heap.size ≤ g) → wpList Try.prog ops Q rest (a.put o.dst v') w') :
    wpList Try.prog ops Q (o :: rest) a w := by
  obtain ⟨i0, hii, hz0, hz1, hz2⟩ := info_parts info_ent
  have fresh : ∀ v' w', w'.ownsRow w.heap.size 40 2 v' (n + 1) (flatE (up1 E n (id, key)) (n + 1)) → Ents w' C v' (n + 1) (up1 E n (id, key)) ∧ ∃ g, v'.ownBlock = some g ∧ w.heap.size ≤ g := by
    intro v' w' hv
    have hv : Ents w' w.heap.size v' (n + 1) (up1 E n (id, key)) := hv
    obtain ⟨g, c, rfl, _, hg, _⟩ := hv.some_ (by omega)
    exact ⟨hv.wider hC, g, rfl, hg⟩
  rcases h.2 with ⟨rfl, rfl⟩ | ⟨g, c, cur, rfl, h1, h2, h3, h4, h5, h6⟩
  · refine wpList_append_own w hgd s x _ ho w.heap.size 40 i0 _ 2 16 Try.underlying35 hii hz0 hz1 hz2 rfl (by decide) _ 0 [] hs (World.ownsRow_nil _ _ _ _) ad 1 1 [.int .i64 id, .int .i64 key] hx rfl hc (pair_one _ _) (by unfold maxLen; omega) (by omega) (Nat.le_refl _) ?_
    intro v' w' hv hg _
    obtain ⟨f1, f2⟩ := fresh v' w' (by rw [← flatE_up1]; exact hv)
    exact K v' w' f1 hg (.inr f2)
  · refine wpList_append_arg w hgd s x _ ho 40 i0 _ 2 16 Try.underlying35 hii hz0 hz1 hz2 rfl (by decide) g 0 n c (flatE E n) hs (flatE_len _ _) (fun j u hj => ?_) ad 1 1 [.int .i64 id, .int .i64 key] hx rfl hc (pair_one _ _) (fun hr j hj => ?_) (by unfold maxLen; omega) (by omega) (fun hr => ?_) (fun hr v' w' hv hg => ?_)
    · have hjl : j < n * 2 := by
        rcases Nat.lt_or_ge j (n * 2) with h' | h'
        · exact h'
        · rw [List.getElem?_eq_none (by rw [flatE_len]; exact h')] at hj; cases hj
      rw [Nat.zero_add, World.ownsRow.cellAt h j hjl]; exact hj
    · have hj : j < 2 := hj
      refine ⟨?_, World.ownsRow.frozenAt h _⟩
      rw [cell_of_row w g _ cur _ (0, 0) h2]
      rw [Array.getElem?_eq_getElem (by omega)]; rfl
    · have := h.room hr id key
      have e : w.setCells g (0 + n * 2) [.int .i64 id, .int .i64 key] = (w.setCell ⟨g, n * 2, none⟩ (.int .i64 id)).setCell ⟨g, n * 2 + 1, none⟩ (.int .i64 key) := by rw [Nat.zero_add]; rfl
      rw [e]
      exact K _ _ this ⟨rfl, rfl, rfl, by simp [World.setCell], fun k _ hk => by
        have hkg : k ≠ g := fun e => hk (by rw [e]; rfl)
        rw [Below.heap_setCell _ _ _ _ hkg, Below.heap_setCell _ _ _ _ hkg]⟩ (.inl rfl)
    · obtain ⟨f1, f2⟩ := fresh v' w' (by rw [← flatE_up1]; exact hv)
      exact K v' w' f1 ⟨hg.os, hg.tape, hg.output, hg.size, fun k hk _ => hg.block k hk (by simp)⟩ (.inr f2)
theorem HeapW.pushed {w w2 : World} {C H PB cap n : Nat} {v v' : Value} {E F : Nat → Int × Int} {P : Nat → Int} {o : Obj} (h : HeapW w C H PB v cap n E P) (hn : n < cap) (he : Ents w2 C v' (n + 1) F) (hg : (w.alloc o).grownBy w2 v.ownBlock)
    (hb : v'.ownBlock = v.ownBlock ∨ ∃ g, v'.ownBlock = some g ∧ (w.alloc o).heap.size ≤ g) :
    HeapW (w2.setCell ⟨H, 1, none⟩ v') C H PB v' cap (n + 1) F P ∧ Chg (foot H PB v) w (w2.setCell ⟨H, 1, none⟩ v') ∧ ∀ k, foot H PB v' k → foot H PB v k ∨ w.heap.size ≤ k := by
  have hH := (h.lt H (.inl rfl)).2
  have hP := (h.lt PB (.inr (.inl rfl))).2
  have hA : (w.alloc o).heap.size = w.heap.size + 1 := by simp
  have hbH : v'.ownBlock ≠ some H := by
    rcases hb with e | ⟨g, e, h1⟩
    · rw [e]; exact h.ne.2.1
    · rw [e]; intro e2; have : g = H := by simpa using e2
      omega
  have hbP : v'.ownBlock ≠ some PB := by
    rcases hb with e | ⟨g, e, h1⟩
    · rw [e]; exact h.ne.2.2
    · rw [e]; intro e2; have : g = PB := by simpa using e2
      omega
  have hk1 : Chg (foot H PB v) w w2 := ((Chg.refl _ w).alloc o).grown hg (fun k e => .inl (.inr (.inr e)))
  have bH : w2.heap[H]? = _ := ((hg.block H (by omega) (fun e => h.ne.2.1 e.symm)).trans (Below.heap_alloc w o H hH)).trans h.blk
  have bP : w2.heap[PB]? = w.heap[PB]? := (hg.block PB (by omega) (fun e => h.ne.2.2 e.symm)).trans (Below.heap_alloc w o PB hP)
  refine ⟨⟨?_, he.keep (fun k e => Below.heap_setCell w2 ⟨H, 1, none⟩ _ k (fun e' => hbH (by rw [e, e']))), ?_, h.lo, ⟨h.ne.1, hbH, hbP⟩, by have := h.len; omega⟩, hk1.setCell (.inl rfl) _ _, ?_⟩
  · have := heap_setCell_same w2 H 1 _ _ v' bH
    rw [this]; rfl
  · obtain ⟨cs, h1, r⟩ := h.pos
    exact Row.far (show Row w2 PB _ 4096 P from ⟨cs, h1.carry bP, r⟩) (fun e => h.ne.1 e.symm) _ _
  · rintro k (e | e | e)
    · exact .inl (.inl e)
    · exact .inl (.inr (.inl e))
    · rcases hb with e1 | ⟨g, e1, h1⟩
      · exact .inl (.inr (.inr (by rw [← e1]; exact e)))
      · right; rw [e1] at e; have : g = k := by simpa using e
        omega

theorem HeapW.grownAt {w w2 : World} {C H PB cap n : Nat} {v : Value} {E : Nat → Int × Int} {P : Nat → Int} {o : Obj} (h : HeapW w C H PB v cap n E P) (hg : (w.alloc o).grownBy w2 v.ownBlock) {i : Nat} (hi : i < 4096) :
    w2.cell? ⟨H, 1, none⟩ = some v ∧ w2.frozen? ⟨H, 1, none⟩ = false ∧ w2.cell? ⟨H, 2, none⟩ = some (.slice (some ⟨PB, 0, none⟩) 4096 4096) ∧ w2.cell? ⟨PB, i, none⟩ = some (.int .i64 (P i)) ∧ w2.frozen? ⟨PB, i, none⟩ = false := by
  have hH := (h.lt H (.inl rfl)).2
  have hP := (h.lt PB (.inr (.inl rfl))).2
  have hA : (w.alloc o).heap.size = w.heap.size + 1 := by simp
  have bH : w2.heap[H]? = _ := ((hg.block H (by omega) (fun e => h.ne.2.1 e.symm)).trans (Below.heap_alloc w o H hH)).trans h.blk
  have bP : w2.heap[PB]? = w.heap[PB]? := (hg.block PB (by omega) (fun e => h.ne.2.2 e.symm)).trans (Below.heap_alloc w o PB hP)
  have hr : Row w2 PB 3 4096 P := by obtain ⟨cs, h1, r⟩ := h.pos; exact ⟨cs, h1.carry bP, r⟩
  exact ⟨by simp [World.cell?, bH], by simp [World.frozen?, bH], by simp [World.cell?, bH], hr.cell hi, hr.frozen i⟩
theorem Chg.join {S T : Nat → Prop} {a b c : World} (h : Chg S a b) (k : Chg T b c) (hT : ∀ k, T k → S k ∨ a.heap.size ≤ k) : Chg S a c :=
  ⟨k.os.trans h.os, k.tape.trans h.tape, k.output.trans h.output, Nat.le_trans h.size k.size, fun i hi hn => (k.block i (by have := h.size; omega) (fun e => by
    rcases hT i e with h1 | h1
    · exact hn h1
    · omega)).trans (h.block i hi hn)⟩
theorem pair_cells (w : World) (x y : Value) (t : TypeId) : ∀ j u, [x, y][j]? = some u → (w.alloc (.cells #[x, y] t)).cell? ((⟨w.heap.size, 0, none⟩ : Addr).add j) = some u := by
  intro j u hj
  have h : ((⟨w.heap.size, 0, none⟩ : Addr).add j) = ⟨w.heap.size, j, none⟩ := by unfold Addr.add; split <;> simp_all
  rw [h, (Whole.new w t #[x, y]).read]
  simpa using hj
/-- The heap behind pointer H, of capacity cap, holds the n entries M; its blocks are those of S. -/
def HeapO (C H : Nat) (S : Nat → Prop) (cap n : Nat) (M : Int → Option Int) (w : World) : Prop :=
  ∃ (PB : Nat) (v : Value) (E : Nat → Int × Int) (P : Nat → Int), HeapW w C H PB v cap n E P ∧ PosOk E n P ∧ Cont E n M ∧ Hp E n ∧ (∀ k, foot H PB v k → S k) ∧ (∀ k, S k → C ≤ k ∧ k < w.heap.size)
/-- From w to w' no block but those of S has turned; what an object has come to lies in S' : in S or new. -/
def Trod (S S' : Nat → Prop) (w w' : World) : Prop := Chg S w w' ∧ ∀ k, S' k → S k ∨ w.heap.size ≤ k
theorem HeapO.done {C H PB cap n' : Nat} {S : Nat → Prop} {v v' : Value} {M' : Int → Option Int} {E' : Nat → Int × Int} {P' : Nat → Int} {w w' : World} (hS : ∀ k, foot H PB v k → S k)
    (h' : HeapW w' C H PB v' cap n' E' P') (hp' : PosOk E' n' P') (hc' : Cont E' n' M') (hh' : Hp E' n') (hk : Chg (foot H PB v) w w') (hf : ∀ k, foot H PB v' k → foot H PB v k ∨ w.heap.size ≤ k) :
    HeapO C H (foot H PB v') cap n' M' w' ∧ Trod S (foot H PB v') w w' :=
  ⟨⟨PB, v', E', P', h', hp', hc', hh', fun k hk => hk, h'.lt⟩, hk.wider (fun k _ => hS k), fun k hk => (hf k hk).elim (fun h => .inl (hS k h)) .inr⟩
theorem HeapO.same {C H cap n : Nat} {S : Nat → Prop} {M : Int → Option Int} {w w' : World} (h : HeapO C H S cap n M w) (hb : Below w.heap.size w w') : HeapO C H S cap n M w' ∧ Trod S S w w' := by
  obtain ⟨PB, v, E, P, h1, h2, h3, h4, h5, h6⟩ := h
  exact ⟨⟨PB, v, E, P, h1.below hb, h2, h3, h4, h5, fun k hk => by have := h6 k hk; have := hb.size; omega⟩, Chg.of_below hb, fun k hk => .inl hk⟩
/-- What a call that answers x leaves. -/
def HpAns (C H : Nat) (S : Nat → Prop) (cap n : Nat) (M : Int → Option Int) (x : Value) (w : World) (e : Ending) (w' : World) : Prop :=
  ∃ S', e = .returned x ∧ HeapO C H S' cap n M w' ∧ Trod S S' w w'
end Go.Proofs.Ytlnbjmmbjhglnaa
