/-
  Layer 5: contracts of the reference's Take and of the statement's empty; one contract for each call. Every input.
-/
import Derived.Test.YtpdoommjmmlhfaaRgRef
namespace Go.Proofs.Ytpdoommjmmlhfaa
open Go.ChangeShapes Go.WideShapes Go.ChangeAt Go.RowKit
set_option linter.unusedVariables false

theorem rrins_any {w : World} {C R cap n : Nat} {L : Nat → Int} {T : Nat → Prop} (h : RRO C R T cap n L w) (x : Int) (front : Bool) :
    Calls Try.prog 23 #[.pointer (some ⟨R, 0, none⟩), .int .i64 x, .bool front] w (RrAns C R T cap (insN cap n) (insL cap n L x front) (.int .i64 (insE cap n)) w) := by
  unfold insN insL insE
  by_cases e : n = cap
  · subst e; rw [if_pos rfl, if_pos rfl, if_pos rfl]; exact rrins_full h x front
  · rw [if_neg e, if_neg e, if_neg e]
    cases front
    · exact rrins_back h (by have := h.size; omega) x
    · exact rrins_front h (by have := h.size; omega) x
theorem rrtake_no {w : World} {C R cap n : Nat} {L : Nat → Int} {T : Nat → Prop} (h : RRO C R T cap n L w) (i : Int) (hi : i < 0 ∨ (n : Int) ≤ i) :
    Calls Try.prog 24 #[.pointer (some ⟨R, 0, none⟩), .int .i64 i] w (RrAns C R T cap n L (.tuple #[.int .i64 0, .bool false]) w) := by
  have HE := Lib.hid (RrAns.stay h (Below.refl _ _) (.tuple #[.int .i64 0, .bool false]))
  obtain ⟨v, h1, _, _⟩ := h
  obtain ⟨c0, c1, _⟩ := h1.cells
  obtain ⟨A, c, rfl⟩ := own_shape h1.own
  have hlen := h1.len
  clear h1
  rcases (by omega : i < 0 ∨ (¬ i < 0 ∧ (n : Int) ≤ i)) with h1 | ⟨h1, h2⟩
  all_goals
    clear hi
    go_enter Try.func24, Try.ntmps24
    go_wp2
    go_ret2
    exact HE.out
set_option maxRecDepth 100000 in
set_option maxHeartbeats 8000000 in
theorem rrtake_in {w : World} {C R cap n : Nat} {L : Nat → Int} {T : Nat → Prop} (h : RRO C R T cap (n + 1) L w) (j : Nat) (hj : j < n + 1) :
    Calls Try.prog 24 #[.pointer (some ⟨R, 0, none⟩), .int .i64 j] w (RrAns C R T cap n (rmvN L j) (.tuple #[.int .i64 (L j), .bool true]) w) := by
  obtain ⟨v, h1, h5, h6⟩ := h
  obtain ⟨_, c1, fz⟩ := h1.cells
  have hRl := (h1.lt R (.inl rfl)).2
  have hlen := h1.len
  obtain ⟨g, c, cur, rfl, hCg, hcur, hnc, _, _, _⟩ : ∃ g c cur, v = .slice (some ⟨g, 0, none⟩) (n + 1) c ∧ C ≤ g ∧ w.heap[g]? = some (.cells cur 3 (0, 0)) ∧ n + 1 ≤ c ∧ c ≤ maxLen ∧ cur.size = c * 1 ∧ cur.toList.take ((n + 1) * 1) = flatN L (n + 1) := by
    rcases h1.own.2 with ⟨hv, h0⟩ | h2
    · omega
    · exact h2
  have hgl : g < w.heap.size := lt_of_block hcur
  have hgR : g ≠ R := fun e => h1.ne (by rw [← e]; rfl)
  have hcells : ∀ k, k < n + 1 → w.cell? ⟨g, k, none⟩ = some (.int .i64 (L k)) := fun k hk => by
    rw [World.ownsRow.cellAt h1.own k (by omega)]; exact flatN_at L (n + 1) k hk
  have a1 := hcells j hj
  have HCL := Lib.hid hcells
  have hjn : (j : Int) < (n : Int) + 1 := by omega
  have hn4 : n + 1 ≤ 4096 := by omega
  have HW := Lib.hid h1
  have HS := Lib.hid h5
  have s1 : IntKind.i64.wrap ((j : Int) + 1) = (j : Int) + 1 := IntWalk.i64_in _ (by omega)
  have H1 := Lib.hid (row_empty w 3 1)
  have HN1 : Hid (∀ i u, (flatN L j)[i]? = some u → (w.alloc (.cells #[] 3)).drew.cell? ((⟨g, 0, none⟩ : Addr).add i) = some u) := Lib.hid ((flat_parts (W := (w.alloc (.cells #[] 3)).drew) (fun k hk => cell_alloc_of (hcells k hk) _) j).1 (by omega))
  have HN2 : Hid (∀ W, Below w.heap.size w W → ∀ i u, ((flatN L (n + 1)).drop (j + 1))[i]? = some u → W.cell? ((⟨g, j + 1, none⟩ : Addr).add i) = some u) := Lib.hid (fun W hb => (flat_parts (fun k hk => (hb.cell (p := ⟨g, k, none⟩) hgl).trans (hcells k hk)) (j + 1)).2)
  clear h1 h5 h6 hcells hcur hCg
  by_cases hcj : c = j + 1
  · obtain rfl : j = n := by omega
    subst hcj
    have hjc : (j : Int) ≤ (j : Int) + 1 := by omega
    have hj1 : (j : Int) + 1 ≤ (j : Int) + 1 := by omega
    have hj2 : 0 ≤ (j : Int) + 1 := by omega
    go_enter Try.func24, Try.ntmps24
    go_wp2_with fail
    go_region_law (first
      | (refine step_append_nums rfl (.tmp 26) (.tmp 32) rfl w.heap.size 0 _ [] (by simp [Act.eval, Act.put]) H1.out ⟨g, 0, none⟩ j (j + 1) (flatN L j) (by simp [Act.eval, Act.put]) (flatN_len _ _) HN1.out (flatN_one _ _) (by omega) (by simp) ?_; intro v1 w1 hv1 hg1; have HB1 := Lib.hid (row_grown_new (w := w) hg1); have HV1 : Hid (w1.ownsRow w.heap.size 3 1 v1 j (flatN L j)) := Lib.hid (by simpa using hv1); clear hv1 hg1; have b1 := (HB1.out.cell (p := ⟨R, 1, none⟩) hRl).trans c1)
      | (refine step_append_nums rfl (.tmp 33) (.tmp 40) rfl w.heap.size j v1 (flatN L j) (by simp [Act.eval, Act.put]) HV1.out ⟨g, 0, none⟩ 0 0 [] (by simp [Act.eval, Act.put]) rfl (fun i u hu => by simp at hu) (fun u hu => by simp at hu) (by omega) HB1.out.size ?_; intro v2 w2 hv2 hg2; have HB2 := Lib.hid (row_grown HB1.out HV1.out hg2); have HV2 : Hid (w2.ownsRow w.heap.size 3 1 v2 j (flatN (rmvN L j) j)) := Lib.hid (by have h := hv2; rw [List.append_nil, Nat.add_zero, flat_last L j] at h; exact h); clear hv2 hg2; obtain ⟨A2, cc2, rfl⟩ := own_shape HV2.out; have d1 := (HB2.out.cell (p := ⟨R, 1, none⟩) hRl).trans c1; have d2 := (HB2.out.frozen (p := ⟨R, 1, none⟩) hRl).trans fz))
    all_goals
      have HF := Lib.hid (fun W hW => RrAns.made (w' := W) (x := .tuple #[.int .i64 (L j), .bool true]) HW.out HS.out HB2.out HV2.out (by omega) hW)
      clear HB1 HV1 HB2 HV2 d1 d2 b1
      go_wp2
      go_ret2
      exact HF.out _ (Below.refl _ _)
  · have hjc : (j : Int) ≤ c := by omega
    have hj1 : (j : Int) + 1 ≤ (n : Int) + 1 := by omega
    have hj2 : 0 ≤ (j : Int) + 1 := by omega
    go_enter Try.func24, Try.ntmps24
    go_wp2_with fail
    go_region_law (first
      | (refine step_append_nums rfl (.tmp 26) (.tmp 32) rfl w.heap.size 0 _ [] (by simp [Act.eval, Act.put]) H1.out ⟨g, 0, none⟩ j c (flatN L j) (by simp [Act.eval, Act.put]) (flatN_len _ _) HN1.out (flatN_one _ _) (by omega) (by simp) ?_; intro v1 w1 hv1 hg1; have HB1 := Lib.hid (row_grown_new (w := w) hg1); have HV1 : Hid (w1.ownsRow w.heap.size 3 1 v1 j (flatN L j)) := Lib.hid (by simpa using hv1); clear hv1 hg1; have b1 := (HB1.out.cell (p := ⟨R, 1, none⟩) hRl).trans c1)
      | (refine step_append_nums rfl (.tmp 33) (.tmp 40) rfl w.heap.size j v1 (flatN L j) (by simp [Act.eval, Act.put]) HV1.out ⟨g, j + 1, none⟩ (n - j) (c - (j + 1)) ((flatN L (n + 1)).drop (j + 1)) (by simp [Act.eval, Act.put]) (by rw [List.length_drop, flatN_len]; omega) (HN2.out _ HB1.out) (fun u hu => flatN_one L (n + 1) u (List.mem_of_mem_drop hu)) (by omega) HB1.out.size ?_; intro v2 w2 hv2 hg2; have HB2 := Lib.hid (row_grown HB1.out HV1.out hg2); have HV2 : Hid (w2.ownsRow w.heap.size 3 1 v2 n (flatN (rmvN L j) n)) := Lib.hid (by have h := hv2; rw [flat_rmvN L n j hj, show j + (n - j) = n by omega] at h; exact h); clear hv2 hg2; obtain ⟨A2, cc2, rfl⟩ := own_shape HV2.out; have d1 := (HB2.out.cell (p := ⟨R, 1, none⟩) hRl).trans c1; have d2 := (HB2.out.frozen (p := ⟨R, 1, none⟩) hRl).trans fz))
    all_goals
      have HF := Lib.hid (fun W hW => RrAns.made (w' := W) (x := .tuple #[.int .i64 (L j), .bool true]) HW.out HS.out HB2.out HV2.out (by omega) hW)
      clear HB1 HV1 HB2 HV2 d1 d2 b1
      go_wp2
      go_ret2
      exact HF.out _ (Below.refl _ _)
theorem rrtake_any {w : World} {C R cap n : Nat} {L : Nat → Int} {T : Nat → Prop} (h : RRO C R T cap n L w) (i : Int) :
    Calls Try.prog 24 #[.pointer (some ⟨R, 0, none⟩), .int .i64 i] w (RrAns C R T cap (takN n i) (takL L n i) (.tuple #[.int .i64 (takV L n i), .bool (inR n i)]) w) := by
  unfold takN takL takV
  by_cases hi : 0 ≤ i ∧ i < n
  · rw [inR_yes hi.1 hi.2]
    obtain ⟨n, rfl⟩ : ∃ m, n = m + 1 := ⟨n - 1, by omega⟩
    obtain ⟨j, rfl⟩ := Int.eq_ofNat_of_zero_le hi.1
    exact rrtake_in h j (by omega)
  · rw [inR_no (by omega)]; exact rrtake_no h i (by omega)
theorem empty_any (b : Bool) (w : World) : Calls Try.prog 25 #[.bool b] w fun e w' => e = .returned (.int .i64 (if b = true then 0 else 5)) ∧ w = w' := by
  cases b
  all_goals
    go_enter Try.func25, Try.ntmps25
    go_wp2
    go_ret
    exact ⟨rfl, rfl⟩
end Go.Proofs.Ytpdoommjmmlhfaa

