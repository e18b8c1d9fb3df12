/-
  Layer 10: contracts of the program's Station, Flow, Stations.
-/
import Derived.Test.YtgojbomdkdlclaaFlAdd
import Derived.Test.YtgojbomdkdlclaaFlFlows
namespace Go.Proofs.Ytgojbomdkdlclaa
open Go.ChangeShapes Go.WideShapes Go.ChangeAt Go.RowKit
set_option linter.unusedVariables false

def sta0 : Sta := ⟨0, ⟨#[]⟩, 0, 0⟩
theorem hs_yes {t : Tb} {i : Int} (h : hsB t i = true) : ∃ k : Nat, i = k ∧ k < t.S.length := by
  unfold hsB at h
  simp only [Bool.and_eq_true, decide_eq_true_eq] at h
  obtain ⟨k, rfl⟩ := Int.eq_ofNat_of_zero_le h.1
  exact ⟨k, rfl, by omega⟩
/-- A station in memory. -/
theorem PW.sta {w : World} {C H mb : Nat} {t : Tb} {vS vF : Value} (h : PW w C H mb t vS vF) {k : Nat} (hk : k < t.S.length) :
    ∃ g c, vS = .slice (some ⟨g, 0, none⟩) t.S.length c ∧ C ≤ g ∧ g < w.heap.size ∧ w.cell? ⟨g, k * 4, none⟩ = some (.int .i64 t.S[k].i) ∧ w.cell? ⟨g, k * 4 + 1, none⟩ = some (.string t.S[k].nm) ∧ w.cell? ⟨g, k * 4 + 2, none⟩ = some (.int .i64 t.S[k].w) ∧ w.cell? ⟨g, k * 4 + 3, none⟩ = some (.int .i64 t.S[k].r) := by
  obtain ⟨g, c, rfl, h1, h2⟩ := ow_at h.rowS (by omega)
  have hr := h.rowS
  have key : ∀ j, j < 4 → w.cell? ⟨g, k * 4 + j, none⟩ = (csS t.S[k])[j]? := fun j hj => by
    rw [hr.cellAt (k * 4 + j) (by omega), srs_at csS_len _ k j hk hj]
  exact ⟨g, c, rfl, h1, h2, key 0 (by omega), key 1 (by omega), key 2 (by omega), key 3 (by omega)⟩
theorem sta_size {t : Tb} (h : TbOk t) {k : Nat} (hk : k < t.S.length) : t.S[k].nm.size ≤ 24 := (fE_yes (h.nms _ (List.getElem_mem hk)).1).2.1
theorem station_no {C H : Nat} {S : Nat → Prop} {t : Tb} {w : World} (h : PO C H S t w) {i : Int} (hi : hsB t i = false) :
    Calls Try.prog 39 #[.pointer (some ⟨H, 0, none⟩), .int .i64 i] w (Quiet (.tuple #[.agg #[.int .i64 0, .string ⟨#[]⟩, .int .i64 0, .int .i64 0], .bool false]) w) := by
  have hb1 := (Below.refl w.heap.size w).alloc (Nat.le_refl _) (.cells #[.int .i64 0, .string ⟨#[]⟩, .int .i64 0, .int .i64 0] 68)
  have HS := hasStation_any (h.below hb1) i
  rw [hi] at HS
  have HS := Lib.hid HS
  have HF := Lib.hid hb1
  unfold Quiet
  clear h hi hb1
  go_enter Try.func39, Try.ntmps39
  go_wp2_with fail
  (with_reducible refine HS.out.mono ?_); rintro e w' ⟨rfl, rfl⟩
  go_wp2
  exact bodyPost_ret (v := .tuple #[.agg #[.int .i64 0, .string ⟨#[]⟩, .int .i64 0, .int .i64 0], .bool false]) (by simp [results, Try.results39, go_sem]) rfl ⟨rfl, HF.out⟩
theorem station_yes {C H : Nat} {S : Nat → Prop} {t : Tb} {w : World} (h : PO C H S t w) {k : Nat} (hk : k < t.S.length) :
    Calls Try.prog 39 #[.pointer (some ⟨H, 0, none⟩), .int .i64 k] w (Quiet (.tuple #[.agg #[.int .i64 t.S[k].i, .string t.S[k].nm, .int .i64 t.S[k].w, .int .i64 t.S[k].r], .bool true]) w) := by
  have hb1 := (Below.refl w.heap.size w).alloc (Nat.le_refl _) (.cells #[.int .i64 0, .string ⟨#[]⟩, .int .i64 0, .int .i64 0] 68)
  have HS := hasStation_any (h.below hb1) k
  rw [show hsB t k = true from by unfold hsB; simp [hk]] at HS
  have HS := Lib.hid HS
  have HCP := Lib.hid (fun w => copied_any t.S[k].i t.S[k].w t.S[k].r t.S[k].nm (by have := sta_size h.1 hk; omega) w)
  unfold Quiet at HCP
  obtain ⟨h0, ⟨vS, vF, mb, h1, hS⟩, hO⟩ := h.below hb1
  obtain ⟨c0, c1, c2, c3, c4, _⟩ := h1.cells
  obtain ⟨g, c, rfl, hg1, hg2, e0, e1, e2, e3⟩ := h1.sta hk
  have HW := Lib.hid (Whole.fresh w 68 #[.int .i64 0, .string ⟨#[]⟩, .int .i64 0, .int .i64 0])
  generalize t.S[k].i = q0 at *
  generalize t.S[k].nm = q1 at *
  generalize t.S[k].w = q2 at *
  generalize t.S[k].r = q3 at *
  have HB1 := Lib.hid hb1
  unfold Quiet
  clear h h1 hb1 c0 c1 c3 c4
  go_enter Try.func39, Try.ntmps39
  go_wp2_with fail
  (with_reducible refine HS.out.mono ?_); rintro e w' ⟨rfl, rfl⟩
  go_wp2_with fail
  (with_reducible refine (HCP.out _).mono ?_); rintro e w2 ⟨rfl, hb2⟩
  obtain ⟨d0, d1, d2, d3, g0, g1, g2, g3⟩ := (HW.out.later hb2).four
  have hb3 := HB1.out.trans (hb2.mono HB1.out.size)
  have HF := Lib.hid ((((hb3.setCell (p := ⟨w.heap.size, 0, none⟩) (Nat.le_refl _) (.int .i64 q0)).setCell (p := ⟨w.heap.size, 1, none⟩) (Nat.le_refl _) (.string q1)).setCell (p := ⟨w.heap.size, 2, none⟩) (Nat.le_refl _) (.int .i64 q2)).setCell (p := ⟨w.heap.size, 3, none⟩) (Nat.le_refl _) (.int .i64 q3))
  clear hb2 hb3 e0 e1 e2 e3 c2
  go_wp2
  exact bodyPost_ret (v := .tuple #[.agg #[.int .i64 q0, .string q1, .int .i64 q2, .int .i64 q3], .bool true]) (by simp [results, Try.results39, go_sem, d0, d1, d2, d3]) rfl ⟨rfl, HF.out⟩
set_option maxRecDepth 100000 in
theorem flow_no {C H : Nat} {S : Nat → Prop} {t : Tb} {w : World} (h : PO C H S t w) {i : Int} (hi : thrB t.F t.G i = false) :
    Calls Try.prog 40 #[.pointer (some ⟨H, 0, none⟩), .int .i64 i] w (Quiet (.tuple #[.agg #[.int .i64 0, .int .i64 0, .int .i64 0, .int .i64 0, .int .i64 0, .int .i64 0, .int .i64 0], .bool false]) w) := by
  have hb1 := (Below.refl w.heap.size w).alloc (Nat.le_refl _) (.cells #[.int .i64 0, .int .i64 0, .int .i64 0, .int .i64 0, .int .i64 0, .int .i64 0, .int .i64 0] 72)
  have HS := hasFlow_any (h.below hb1) i
  rw [hi] at HS
  have HS := Lib.hid HS
  have HF := Lib.hid hb1
  unfold Quiet
  clear h hi hb1
  go_enter Try.func40, Try.ntmps40
  go_wp2_with fail
  (with_reducible refine HS.out.mono ?_); rintro e w' ⟨rfl, rfl⟩
  go_wp2
  exact bodyPost_ret (v := .tuple #[.agg #[.int .i64 0, .int .i64 0, .int .i64 0, .int .i64 0, .int .i64 0, .int .i64 0, .int .i64 0], .bool false]) (by simp [results, Try.results40, go_sem]) rfl ⟨rfl, HF.out⟩
set_option maxRecDepth 100000 in
theorem flow_yes {C H : Nat} {S : Nat → Prop} {t : Tb} {w : World} (h : PO C H S t w) {k : Nat} (hk : k < t.F.length) (hg : ∃ h : k < t.G.length, t.G[k] = false) :
    Calls Try.prog 40 #[.pointer (some ⟨H, 0, none⟩), .int .i64 k] w (Quiet (.tuple #[.agg #[.int .i64 t.F[k].i, .int .i64 t.F[k].s, .int .i64 t.F[k].w, .int .i64 t.F[k].p, .int .i64 t.F[k].b, .int .i64 t.F[k].lg, .int .i64 t.F[k].ld], .bool true]) w) := by
  have hb1 := (Below.refl w.heap.size w).alloc (Nat.le_refl _) (.cells #[.int .i64 0, .int .i64 0, .int .i64 0, .int .i64 0, .int .i64 0, .int .i64 0, .int .i64 0] 72)
  have HS := hasFlow_any (h.below hb1) k
  rw [thr_nat h.1.len hk, show (t.G[k]'(by have := h.1.len; omega)) = false from hg.2] at HS
  have HS := Lib.hid HS
  obtain ⟨h0, ⟨vS, vF, mb, h1, hS⟩, hO⟩ := h.below hb1
  obtain ⟨c0, c1, c2, c3, c4, _⟩ := h1.cells
  obtain ⟨g, c, rfl, hC, hlt, e0, e1, e2, e3, e4, e5, e6, _⟩ := h1.there h0 hk hg
  generalize t.F[k].i = q0 at *
  generalize t.F[k].s = q1 at *
  generalize t.F[k].w = q2 at *
  generalize t.F[k].p = q3 at *
  generalize t.F[k].b = q4 at *
  generalize t.F[k].lg = q5 at *
  generalize t.F[k].ld = q6 at *
  have HF := Lib.hid ((Below.refl w.heap.size w).alloc (Nat.le_refl _) (.cells #[.int .i64 q0, .int .i64 q1, .int .i64 q2, .int .i64 q3, .int .i64 q4, .int .i64 q5, .int .i64 q6] 72))
  unfold Quiet
  clear h h1 hb1 c0 c1 c2 c4
  go_enter Try.func40, Try.ntmps40
  go_wp2_with fail
  (with_reducible refine HS.out.mono ?_); rintro e w' ⟨rfl, rfl⟩
  go_wp2
  exact bodyPost_ret (v := .tuple #[.agg #[.int .i64 q0, .int .i64 q1, .int .i64 q2, .int .i64 q3, .int .i64 q4, .int .i64 q5, .int .i64 q6], .bool true]) (by simp [results, Try.results40, go_sem]) rfl ⟨rfl, HF.out⟩
end Go.Proofs.Ytgojbomdkdlclaa

