/-
  append(row, make([]T, k)...) at a row of the call's own: k zero elements more, whether there is room or not; beside the objects (Inv.app_zero). Any layer. No program is named.
-/
import Derived.Test.YtcefpkibglideaaInvR
import Derived.Lib.AppendZerosOnto
import Derived.Laws.OwnMore
import Derived.Laws.CopyRow
namespace Go.Proofs.Ytcefpkibglideaa
open Go.ChangeShapes Go.WideShapes Go.ChangeAt Go.RowKit
set_option linter.unusedVariables false

section
universe u
variable {α : Type u} {cs : α → List Value} {m : Nat} {t TY tn : TypeId} {w w0 w1 : World} {v : Value} {l : List α} {P X : RP} {base : Nat}
theorem zero_cells {z0 : α} (k : Nat) : srs cs (List.replicate k z0) = (List.replicate k (cs z0)).flatten := by
  unfold srs; rw [List.flatMap_def, List.map_replicate]
theorem zeroCells_list (z : Array Value) (k : Nat) (hz : 0 < z.size) : (Builtin.zeroCells z k).toList = (List.replicate k z.toList).flatten := by
  unfold Builtin.zeroCells
  rw [Array.toList_map, Array.toList_range]
  induction k with
  | zero => simp
  | succ k ih =>
    rw [List.replicate_succ', List.flatten_append, ← ih, Nat.succ_mul, List.range_add, List.map_append, List.map_map]
    congr 1
    simp only [List.flatten_cons, List.flatten_nil, List.append_nil]
    apply List.ext_getElem
    · simp
    · intro i h1 h2
      have h3 : i < z.size := by simpa using h2
      simp [h3, Nat.add_comm, Nat.mod_eq_of_lt]
theorem run_append_fits_zeros {Pg : Program} (w : World) (base : Nat) (t tn ty e : TypeId) (i : TypeInfo) (z : Value) (size : Nat) (ht : Pg.underlying t = some (.slice e)) (htn : Pg.underlying tn = some (.int .i64)) (hi : Pg.info? e = some i) (hz : i.zero = some z) (hsize : i.size = size) (hzs : z.cells.size = size) (hsz : 0 < size)
    (g n cap : Nat) (xs : List Value) (hown : w.ownsRow base e size (.slice (some ⟨g, 0, none⟩) n cap) n xs) (k : Nat) (h0 : 0 < k) (hk : k ≤ 1000000) (h48 : k * i.bytes ≤ 281474976710656) (h1 : ∀ u ∈ z.cells.toList, u.oneCell' = true) (hroom : n + k ≤ cap) :
    ∃ w', (Builtin.append_ #[t, tn] ty #[.slice (some ⟨g, 0, none⟩) n cap, .int .i64 k]).run Pg w = .ok (.slice (some ⟨g, 0, none⟩) (n + k) cap) w' ∧
      w'.ownsRow base e size (.slice (some ⟨g, 0, none⟩) (n + k) cap) (n + k) (xs ++ (Builtin.zeroCells z.cells k).toList) ∧ w.grownBy w' (some g) := by
  subst hsize
  have hzl : (Builtin.zeroCells z.cells k).toList.length = k * i.size := by rw [Array.length_toList]; unfold Builtin.zeroCells; simp [hzs]
  have hlen : (xs ++ (Builtin.zeroCells z.cells k).toList).length = (n + k) * i.size := by rw [List.length_append, hown.1, hzl, Nat.add_mul]
  have hone : ∀ u ∈ (Builtin.zeroCells z.cells k).toList, u.oneCell' = true := by
    intro u hu
    rw [zeroCells_list z.cells k (by omega), List.mem_flatten] at hu
    obtain ⟨l, hl, hu⟩ := hu
    rw [List.eq_of_mem_replicate hl] at hu
    exact h1 u hu
  rcases hown.2 with ⟨h, _⟩ | ⟨g', cap', cur, h, hbg, hg, hnc, hcm, hcs, htake⟩
  · simp at h
  · simp only [Value.slice.injEq, Option.some.injEq, Addr.mk.injEq, and_true, true_and] at h
    obtain ⟨rfl, rfl⟩ := h
    have hfit : n * i.size + (Builtin.zeroCells z.cells k).toList.length ≤ cur.size := by rw [hzl, hcs, ← Nat.add_mul]; exact Nat.mul_le_mul_right _ hroom
    have hst := run_storeCells_at Pg g (n * i.size) e (Builtin.zeroCells z.cells k).toList 0 cur w hg (by simpa using hfit) hone
    simp only [Nat.add_zero] at hst
    have hkn : k ≠ 0 := by omega
    have hw : IntKind.i64.wrap (k : Int) = k := by rw [IntKind.wrap_i64]; omega
    have hneg : ¬ ((k : Int) < 0) := by omega
    have h48i : ¬ (281474976710656 < (k : Int) * (i.bytes : Int)) := by
      rw [← Int.natCast_mul]
      omega
    have hns : ¬ (k * i.size = 0) := Nat.mul_ne_zero hkn (by omega)
    have hr : (Builtin.append_ #[t, tn] ty #[.slice (some ⟨g, 0, none⟩) n cap, .int .i64 k]).run Pg w = .ok (.slice (some ⟨g, 0, none⟩) (n + k) cap) (w.setRow g (cur.toList.take (n * i.size) ++ (Builtin.zeroCells z.cells k).toList ++ cur.toList.drop (n * i.size + (Builtin.zeroCells z.cells k).toList.length)).toArray) := by
      simp [Builtin.append_, run_underlying ht, run_underlying htn, sizeOf, typeInfo, zeroValue, hi, hz, asInt, asIntOf, hw, hneg, h48i, hns, hroom, Addr.add_lit, hst]
    refine ⟨_, hr, ⟨hlen, .inr ⟨g, cap, _, rfl, hbg, setRow_heap w g cur _ e _ hg, hroom, hcm, ?_, ?_⟩⟩, ⟨rfl, rfl, rfl, by simp, fun k _ hk => setRow_other w g k _ (fun e => hk (by simp [e]))⟩⟩
    · simp only [List.size_toArray, List.length_append, List.length_take, List.length_drop, Array.length_toList] at hfit ⊢
      omega
    · rw [htake, ← hlen]
      exact List.take_left
theorem Elt.app_zero (E : Elt cs m t TY) (htn : Try.prog.underlying tn = some (.int .i64)) {z0 : α} (hz0 : (Try.prog.info? t).map (fun i => i.zero.map (·.cells.toList)) = some (some (cs z0))) {C n k : Nat} (h : w.ownsRow C t m v n (srs cs l)) (hn : n ≤ 100000) (h0 : 0 < k) (hk : k ≤ 100000) (hC : C ≤ w.heap.size) :
    ∃ A c w', (Builtin.append_ #[TY, tn] TY #[v, .int .i64 k]).run Try.prog w = .ok (.slice A (n + k) c) w' ∧ w'.ownsRow C t m (.slice A (n + k) c) (n + k) (srs cs (l ++ List.replicate k z0)) ∧ w.grownBy w' v.ownBlock ∧
      ((Value.slice A (n + k) c).ownBlock = v.ownBlock ∨ (Value.slice A (n + k) c).ownBlock = some w.heap.size) := by
  obtain ⟨z, bytes, hz, hby, hinf⟩ := E.inf
  obtain ⟨i0, hii, hzi, hsi, hbi⟩ := info_parts hinf
  rw [hii] at hz0
  simp only [Option.map_some, Option.some.injEq, hzi] at hz0
  have hpos := E.pos
  have hzc : z.cells.size = m := hz
  have hzs : (Builtin.zeroCells z.cells k).toList = srs cs (List.replicate k z0) := by rw [zeroCells_list _ _ (by omega), hz0, zero_cells]
  have hone : ∀ u ∈ z.cells.toList, u.oneCell' = true := by rw [hz0]; exact E.one z0
  have hkb : k * bytes ≤ 100000 * 1000 := Nat.mul_le_mul hk hby
  have hzl : (srs cs (List.replicate k z0)).length = k * m := by rw [srs_len E.len, List.length_replicate]
  have hlen : (srs cs (l ++ List.replicate k z0)).length = (n + k) * m := by rw [srs_app, List.length_append, h.1, hzl, Nat.add_mul]
  have grown : ∀ (old : Nat), old < n + k →
      (w.drew.alloc (.cells ((srs cs l).toArray ++ Builtin.zeroCells z.cells k ++ Builtin.zeroCells z.cells (grownCap w (n + k) old t - (n + k))) t)).ownsRow C t m
        (.slice (some ⟨w.heap.size, 0, none⟩) (n + k) (grownCap w (n + k) old t)) (n + k) (srs cs (l ++ List.replicate k z0)) := by
    intro old ho
    have hge := grownCap_ge w (n + k) old t
    have hcm : grownCap w (n + k) old t ≤ maxLen := grownCap_le_maxLen w (n + k) old t (by unfold maxLen; omega)
    refine ⟨hlen, .inr ⟨w.heap.size, _, _, rfl, hC, heap_alloc_new w.drew _, hge, hcm, ?_, ?_⟩⟩
    · simp only [Array.size_append, List.size_toArray, size_zeroCells, hzc, h.1, ← Nat.add_mul]
      congr 1
      omega
    · simp only [Array.toList_append, hzs]
      rw [← srs_app, ← hlen]
      exact List.take_left
  have keep : ∀ (o : Obj) (row : Option Nat), w.grownBy (w.drew.alloc o) row := fun o row => ⟨rfl, rfl, rfl, by simp, fun j hj _ => Below.heap_alloc w.drew o j hj⟩
  rcases h.2 with ⟨rfl, rfl⟩ | ⟨g, c, cur, rfl, k1, k2, k3, k4, k5, k6⟩
  · have hl : srs cs l = [] := List.eq_nil_of_length_eq_zero (by simpa using h.1)
    have hr := Lib.run_append_nil_zeros (P := Try.prog) w TY tn TY t i0 z .i64 .i64 E.und htn hii hzi k h0 (by omega) (by omega) (by rw [hbi]; omega)
    have hg := grown 0 (by omega)
    rw [hl] at hg
    have e0 : (([] : List Value).toArray ++ Builtin.zeroCells z.cells k) = Builtin.zeroCells z.cells k := by simp
    rw [e0] at hg
    rw [Nat.zero_add] at hg ⊢
    exact ⟨_, _, _, hr, hg, keep _ _, .inr rfl⟩
  · by_cases hf : n + k ≤ c
    · obtain ⟨w', hr, ho, hg⟩ := run_append_fits_zeros (Pg := Try.prog) w C TY tn TY t i0 z m E.und htn hii hzi hsi hzc hpos g n c _ h k h0 (by omega) (by rw [hbi]; omega) hone hf
      rw [hzs, ← srs_app] at ho
      exact ⟨_, _, _, hr, ho, hg, .inl rfl⟩
    · have hold : (Builtin.firstCells i0.size n (.slice (some ⟨g, 0, none⟩) n c)).run Try.prog w.drew = .ok (srs cs l).toArray w.drew := by
        refine run_firstCells_some (P := Try.prog) w.drew i0.size n ⟨g, 0, none⟩ n c (srs cs l) (by rw [hsi]; exact h.1) fun j u hj => ?_
        have hjl : j < n * m := by
          rcases Nat.lt_or_ge j (n * m) with h' | h'
          · exact h'
          · rw [List.getElem?_eq_none (by rw [h.1]; exact h')] at hj; cases hj
        have h9 := World.ownsRow.cellAt h j hjl
        rw [Addr.add_lit, Nat.zero_add]
        exact h9.trans hj
      have hbig : (n + k) * bytes ≤ 200000 * 1000 := Nat.mul_le_mul (by omega) hby
      have hr := Lib.run_append_grow_zeros (P := Try.prog) w TY tn TY t i0 z .i64 .i64 E.und htn hii hzi (some ⟨g, 0, none⟩) n c (srs cs l) hold k h0 (by omega) (by omega) (by omega) (by rw [hbi]; omega) (growslice_fits (by omega) (by rw [hbi]; omega))
      exact ⟨_, _, _, hr, grown c (by omega), keep _ _, .inr rfl⟩
theorem Inv.app_zero (E : Elt cs m t TY) (htn : Try.prog.underlying tn = some (.int .i64)) {z0 : α} (hz0 : (Try.prog.info? t).map (fun i => i.zero.map (·.cells.toList)) = some (some (cs z0))) (h : Inv base w0 (Star (RowP cs m t base v l) P) w1) (hP : Frm base P) (hn : l.length ≤ 100000) {k : Nat} (h0 : 0 < k) (hk : k ≤ 100000) :
    ∃ A c w2, (Builtin.append_ #[TY, tn] TY #[v, .int .i64 k]).run Try.prog w1 = .ok (.slice A (l.length + k) c) w2 ∧ Inv base w0 (Star (RowP cs m t base (.slice A (l.length + k) c) (l ++ List.replicate k z0)) P) w2 := by
  obtain ⟨T1, ⟨A1, B1, hT, hd, ⟨g1, g2⟩, hp⟩, hb, hbl, hs⟩ := h
  obtain ⟨A, c, w2, hrun, hv, hg, hat⟩ := E.app_zero htn hz0 g2 hn h0 hk hs
  have hch : Chg A1 w1 w2 := ⟨hg.os, hg.tape, hg.output, hg.size, fun k hk1 hk2 => hg.block k hk1 (fun e => hk2 ((g1 k).2 e.symm))⟩
  have hv' : w2.ownsRow base t m (.slice A (l.length + k) c) (l ++ List.replicate k z0).length (srs cs (l ++ List.replicate k z0)) := by rw [List.length_append, List.length_replicate]; exact hv
  refine ⟨A, c, w2, hrun, fun j => (Value.slice A (l.length + k) c).ownBlock = some j ∨ B1 j, ⟨fun j => (Value.slice A (l.length + k) c).ownBlock = some j, B1, fun j => Iff.rfl, fun j e hb1 => ?_, ⟨fun j => Iff.rfl, hv'⟩, hP.chg hp hch (fun j hk1 => hb j ((hT j).2 (.inl hk1))) (fun j hk1 hk2 => hd j hk2 hk1)⟩, fun j hk1 => ?_, hbl.trans (hch.below hs (fun j hk1 => hb j ((hT j).2 (.inl hk1)))), Nat.le_trans hs hg.size⟩
  · rcases hat with e2 | e2
    · rw [e2] at e
      exact hd j ((g1 j).2 e) hb1
    · rw [e2] at e
      have h9 := hP.lt hp j hb1
      have : w1.heap.size = j := by simpa using e
      omega
  · rcases hk1 with e | hb1
    · exact (own_lt hv e).1
    · exact hb j ((hT j).2 (.inr hb1))
end
end Go.Proofs.Ytcefpkibglideaa

