/-
  Layer 4: contracts of the reference's Remove and Pop. Every input.
-/
import Derived.Test.YtlnbjmmbjhglnaaHpRef3
namespace Go.Proofs.Ytlnbjmmbjhglnaa
open Go.ChangeShapes Go.WideShapes Go.ChangeAt Go.RowKit
set_option linter.unusedVariables false

/-- Entry i taken out. -/
def rmv (E : Nat → Int × Int) (i : Nat) : Nat → Int × Int := fun j => if j < i then E j else E (j + 1)
theorem Dist.rmv_ {E : Nat → Int × Int} {n i : Nat} (h : Dist E (n + 1)) : Dist (rmv E i) n := by
  intro a b ha hb e
  unfold rmv at e
  split at e <;> split at e
  · exact h a b (by omega) (by omega) e
  · have := h a (b + 1) (by omega) (by omega) e; omega
  · have := h (a + 1) b (by omega) (by omega) e; omega
  · have := h (a + 1) (b + 1) (by omega) (by omega) e; omega
theorem Cont.rmv_ {E : Nat → Int × Int} {n i : Nat} {M : Int → Option Int} (h : Cont E (n + 1) M) (hd : Dist E (n + 1)) (hi : i < n + 1) : Cont (rmv E i) n (delM M (E i).1) := by
  intro id k
  unfold delM
  constructor
  · intro e
    by_cases h1 : id = (E i).1
    · rw [if_pos h1] at e; cases e
    · rw [if_neg h1] at e
      obtain ⟨j, hj, he⟩ := (h id k).1 e
      have hji : j ≠ i := fun c => h1 (by rw [← c, he])
      rcases (by omega : j < i ∨ i < j) with h2 | h2
      · exact ⟨j, by omega, by unfold rmv; rw [if_pos h2]; exact he⟩
      · exact ⟨j - 1, by omega, by unfold rmv; rw [if_neg (by omega), show j - 1 + 1 = j by omega]; exact he⟩
  · rintro ⟨j, hj, he⟩
    unfold rmv at he
    by_cases h2 : j < i
    · rw [if_pos h2] at he
      have h1 : id ≠ (E i).1 := fun c => by have := hd j i (by omega) hi (by rw [he]; exact c); omega
      rw [if_neg h1]; exact (h id k).2 ⟨j, by omega, he⟩
    · rw [if_neg h2] at he
      have h1 : id ≠ (E i).1 := fun c => by have := hd (j + 1) i (by omega) hi (by rw [he]; exact c); omega
      rw [if_neg h1]; exact (h id k).2 ⟨j + 1, by omega, he⟩
theorem flat_rmv (E : Nat → Int × Int) (n i : Nat) (hi : i < n + 1) : flatE E i ++ (flatE E (n + 1)).drop ((i + 1) * 2) = flatE (rmv E i) n := by
  have hl : (flatE E i ++ (flatE E (n + 1)).drop ((i + 1) * 2)).length = n * 2 := by rw [List.length_append, List.length_drop, flatE_len, flatE_len]; omega
  refine flatE_ext hl (fun j hj => ?_)
  by_cases h : j < i * 2
  · rw [List.getElem?_append_left (by rw [flatE_len]; exact h), flatE_at E i j h]
    have e : rmv E i (j / 2) = E (j / 2) := by unfold rmv; rw [if_pos (by omega)]
    unfold prE; rw [e]
  · rw [List.getElem?_append_right (by rw [flatE_len]; omega), flatE_len, List.getElem?_drop, flatE_at E (n + 1) _ (by omega)]
    have e : rmv E i (j / 2) = E (j / 2 + 1) := by unfold rmv; rw [if_neg (by omega)]
    unfold prE
    rw [e, show ((i + 1) * 2 + (j - i * 2)) / 2 = j / 2 + 1 by omega, show ((i + 1) * 2 + (j - i * 2)) % 2 = j % 2 by omega]
/-- append of entries to a row of the call's own, as one step of a region that draws. -/
theorem step_append_ents {ops : Array Oper} {o : Oper} {a : Act} {w : World} {K : Act → World → Prop} {Q : Exit → Act → World → Prop} {X : Prop} (hgd : o.guard = none) (s x : Operand)
    (ho : o.op = .call { callee := .builtin .append, args := #[s, x], argTypes := #[35, 35] })
    (base n : Nat) (v : Value) (xs : List Value) (hs : a.eval s = v) (hown : w.ownsRow base 40 2 v n xs)
    (ad : Addr) (m c : Nat) (news : List Value) (hx : a.eval x = .slice (some ad) m c) (hl : news.length = m * 2) (hc : ∀ j u, news[j]? = some u → w.cell? (ad.add j) = some u) (h1 : ∀ u ∈ news, u.oneCell' = true)
    (hn : n + m ≤ 8192) (hb : base ≤ w.heap.size)
    (hK : ∀ v' w', w'.ownsRow base 40 2 v' (n + m) (xs ++ news) → w.grownBy w' v.ownBlock → K (a.put o.dst v') w') :
    if Region.wanted o (yielded ops a.tmps) = true then Oper.wp Try.prog o a w K Q else X := by
  obtain ⟨i0, hii, hz0, hz1, hz2⟩ := info_parts info_ent
  have hw : Region.wanted o (yielded ops a.tmps) = true := by simp [Region.wanted, hgd]
  rw [if_pos hw]
  exact wp_append_own w s x _ ho base 40 i0 _ 2 16 Try.underlying35 hii hz0 hz1 hz2 rfl (by decide) v n xs hs hown ad m c news hx hl hc h1 (by unfold maxLen; omega) (by omega) hb (fun v' w' h2 h3 _ => hK v' w' h2 h3)
theorem flatE_one (E : Nat → Int × Int) (n : Nat) : ∀ u ∈ flatE E n, u.oneCell' = true := by
  intro u hu
  obtain ⟨j, hj, rfl⟩ := List.mem_iff_getElem.1 hu
  have e := flatE_at E n j (by rw [flatE_len] at hj; exact hj)
  rw [List.getElem?_eq_getElem hj] at e
  rw [Option.some.inj e]; rfl
theorem own_empty (w : World) : (w.alloc (.cells #[] 40)).ownsRow w.heap.size 40 2 (.slice (some ⟨w.heap.size, 0, none⟩) 0 0) 0 [] :=
  World.ownsRow_made w #[] 0 (Nat.le_refl _) (by unfold maxLen; omega) rfl
theorem grown_new {w w1 : World} (hg : (w.alloc (.cells #[] 40)).drew.grownBy w1 (Value.slice (some ⟨w.heap.size, 0, none⟩) 0 0).ownBlock) : Below w.heap.size w w1 :=
  (((Below.refl _ _).alloc (Nat.le_refl _) _).drew).grown hg (by simp) (fun k e => by have : w.heap.size = k := by simpa [Value.ownBlock] using e
                                                                                      omega)
theorem grown_own {w w1 w2 : World} {v : Value} {n : Nat} {xs : List Value} (hb : Below w.heap.size w w1) (hv : w1.ownsRow w.heap.size 40 2 v n xs) (hg : w1.grownBy w2 v.ownBlock) : Below w.heap.size w w2 :=
  hb.grown hg hb.size (fun k e => (World.ownsRow.lt hv k e).1)
theorem RefW.renewed {w w2 : World} {C R cap n : Nat} {v v' : Value} {E F : Nat → Int × Int} (h : RefW w C R v cap (n + 1) E) (hb : Below w.heap.size w w2) (he : Ents w2 w.heap.size v' n F) :
    RefW (w2.setCell ⟨R, 1, none⟩ v') C R v' cap n F ∧ Chg (rfoot R v) w (w2.setCell ⟨R, 1, none⟩ v') ∧ ∀ k, rfoot R v' k → rfoot R v k ∨ w.heap.size ≤ k := by
  have hR := (h.lt R (.inl rfl)).2
  have hC : C ≤ w.heap.size := by have := h.lo; omega
  have b : w2.heap[R]? = _ := (hb.block R hR).trans h.blk
  have hne : v'.ownBlock ≠ some R := fun e => by have := (he.lt R e).1; omega
  refine ⟨⟨?_, (he.wider hC).keep (fun k e => Below.heap_setCell w2 ⟨R, 1, none⟩ _ k (fun e' => hne (by rw [e, e']))), h.lo, hne, by have := h.len; omega⟩, (Chg.of_below hb).setCell (.inl rfl) _ _, ?_⟩
  · have := heap_setCell_same w2 R 1 _ _ v' b
    rw [this]; rfl
  · rintro k (e | e)
    · exact .inl (.inl e)
    · exact .inr (he.lt k e).1
theorem flat_part {w : World} {C g c n cap R : Nat} {E : Nat → Int × Int} (h : RefW w C R (.slice (some ⟨g, 0, none⟩) n c) cap n E) {W : World} (hk : ∀ o, W.cell? ⟨g, o, none⟩ = w.cell? ⟨g, o, none⟩) (i : Nat) :
    (∀ j u, (flatE E i)[j]? = some u → i ≤ n → W.cell? ((⟨g, 0, none⟩ : Addr).add j) = some u) ∧ ∀ j u, ((flatE E n).drop (i * 2))[j]? = some u → W.cell? ((⟨g, i * 2, none⟩ : Addr).add j) = some u := by
  have key : ∀ j u, (flatE E n)[j]? = some u → W.cell? ⟨g, j, none⟩ = some u := fun j u e => by
    have hj : j < n * 2 := by
      rcases Nat.lt_or_ge j (n * 2) with h' | h'
      · exact h'
      · rw [List.getElem?_eq_none (by rw [flatE_len]; exact h')] at e; cases e
    rw [hk, World.ownsRow.cellAt h.ents j hj]; exact e
  refine ⟨fun j u e hi => ?_, fun j u e => ?_⟩
  · rw [Addr.add_lit, Nat.zero_add]
    refine key j u ?_
    have hj : j < i * 2 := by
      rcases Nat.lt_or_ge j (i * 2) with h' | h'
      · exact h'
      · rw [List.getElem?_eq_none (by rw [flatE_len]; exact h')] at e; cases e
    rw [flatE_at E i j hj] at e
    rw [flatE_at E n j (by omega)]; exact e
  · rw [Addr.add_lit]
    refine key _ u ?_
    rw [List.getElem?_drop] at e; exact e
theorem add_lit (g o j : Nat) : ((⟨g, o, none⟩ : Addr).add j) = ⟨g, o + j, none⟩ := Addr.add_lit g o j
set_option maxRecDepth 100000 in
set_option maxHeartbeats 8000000 in
theorem rrem_in {C R cap n : Nat} {S : Nat → Prop} {M : Int → Option Int} {w : World} {v : Value} {E : Nat → Int × Int} (h1 : RefW w C R v cap (n + 1) E) (h2 : Dist E (n + 1)) (h3 : Cont E (n + 1) M) (h5 : ∀ k, rfoot R v k → S k) {j : Nat} (hj : j < n + 1) :
    Calls Try.prog 26 #[.pointer (some ⟨R, 0, none⟩), .int .i64 (E j).1] w (RfAns C R S cap n (delM M (E j).1) (.tuple #[.int .i64 (E j).2, .int .i64 0]) w) := by
  have HFD := Lib.hid (at_yes h1 h2 hj rfl)
  obtain ⟨_, c1, fz⟩ := h1.cells
  have hRl := (h1.lt R (.inl rfl)).2
  have hCl : C ≤ w.heap.size := by have := h1.lo; omega
  obtain ⟨g, c, rfl, hnc, _, hgl⟩ := h1.ents.some_ (by omega)
  have hgR : g ≠ R := fun e => h1.ne (by rw [← e]; rfl)
  obtain ⟨a1, a2⟩ := h1.ents.cell hj
  have hjn : (j : Int) < (n : Int) + 1 := by omega
  have hn4 : n + 1 ≤ 4096 := by have := h1.len; omega
  have HW := Lib.hid h1
  have HD := Lib.hid (h2.rmv_ (i := j))
  have HC := Lib.hid (h3.rmv_ h2 hj)
  have HS := Lib.hid h5
  have s1 : IntKind.i64.wrap ((j : Int) + 1) = (j : Int) + 1 := IntWalk.i64_in _ (by omega)
  have H1 := Lib.hid (own_empty w)
  clear h1 h2 h3 h5
  by_cases hcj : c = j + 1
  · obtain rfl : j = n := by omega
    subst hcj
    have hjc : (j : Int) ≤ (j : Int) + 1 := by omega
    have hj1 : (j : Int) + 1 ≤ (j : Int) + 1 := by omega
    have hj2 : 0 ≤ (j : Int) + 1 := by omega
    go_enter Try.func26, Try.ntmps26
    go_wp2_with fail
    (with_reducible refine HFD.out.mono ?_)
    rintro e w1 ⟨rfl, rfl⟩
    go_wp2_with fail
    have HN1 : Hid (∀ i u, (flatE E j)[i]? = some u → (w.alloc (.cells #[] 40)).drew.cell? ((⟨g, 0, none⟩ : Addr).add i) = some u) := Lib.hid (fun i u e => (flat_part HW.out (W := (w.alloc (.cells #[] 40)).drew) (fun o => World.cell?_alloc_lt w _ ⟨g, o, none⟩ hgl) j).1 i u e (by omega))
    go_region_law (first
      | (refine step_append_ents rfl (.tmp 22) (.tmp 28) rfl w.heap.size 0 _ [] (by simp [Act.eval, Act.put]) H1.out ⟨g, 0, none⟩ j (j + 1) (flatE E j) (by simp [Act.eval, Act.put]) (flatE_len _ _) HN1.out (flatE_one _ _) (by omega) (by simp) ?_; intro v1 w1 hv1 hg1; have HB1 := Lib.hid (grown_new (w := w) hg1); have HV1 : Hid (w1.ownsRow w.heap.size 40 2 v1 j (flatE E j)) := Lib.hid (by simpa using hv1); clear hv1 hg1; have b1 := (HB1.out.cell (p := ⟨R, 1, none⟩) hRl).trans c1)
      | (refine step_append_ents rfl (.tmp 29) (.tmp 36) rfl w.heap.size j v1 (flatE E j) (by simp [Act.eval, Act.put]) HV1.out ⟨g, 0, none⟩ 0 0 [] (by simp [Act.eval, Act.put]) rfl (fun i u hu => by simp at hu) (fun u hu => by simp at hu) (by omega) HB1.out.size ?_; intro v2 w2 hv2 hg2; have HB2 := Lib.hid (grown_own HB1.out HV1.out hg2); have HV2 : Hid (Ents w2 w.heap.size v2 j (rmv E j)) := Lib.hid (Ents.same (E := E) (by have h := hv2; rw [List.append_nil, Nat.add_zero] at h; exact h) (fun i hi => by unfold rmv; rw [if_pos hi])); clear hv2 hg2; obtain ⟨A2, cc2, rfl⟩ := HV2.out.shape; have d1 := (HB2.out.cell (p := ⟨R, 1, none⟩) hRl).trans c1; have d2 := (HB2.out.frozen (p := ⟨R, 1, none⟩) hRl).trans fz))
    all_goals
      obtain ⟨q1, q2, q3⟩ := HW.out.renewed HB2.out HV2.out
      have HF := Lib.hid (fun W (hW : Below (w2.setCell ⟨R, 1, none⟩ (.slice A2 j cc2)).heap.size (w2.setCell ⟨R, 1, none⟩ (.slice A2 j cc2)) W) => (show RfAns C R S cap j (delM M (E j).1) (.tuple #[.int .i64 (E j).2, .int .i64 0]) w (.returned (.tuple #[.int .i64 (E j).2, .int .i64 0])) W from ⟨_, rfl, RefO.done HS.out (q1.below hW) HD.out HC.out (q2.trans (Chg.of_below hW)) q3⟩))
      clear q1 q2 q3 HB1 HV1 HB2 HV2 d1 d2 b1
      go_wp2
      go_ret2
      exact HF.out _ (Below.refl _ _)
  · have hjc : (j : Int) ≤ c := by omega
    have hj1 : (j : Int) + 1 ≤ (n : Int) + 1 := by omega
    have hj2 : 0 ≤ (j : Int) + 1 := by omega
    go_enter Try.func26, Try.ntmps26
    go_wp2_with fail
    (with_reducible refine HFD.out.mono ?_)
    rintro e w1 ⟨rfl, rfl⟩
    go_wp2_with fail
    have HN1 : Hid (∀ i u, (flatE E j)[i]? = some u → (w.alloc (.cells #[] 40)).drew.cell? ((⟨g, 0, none⟩ : Addr).add i) = some u) := Lib.hid (fun i u e => (flat_part HW.out (W := (w.alloc (.cells #[] 40)).drew) (fun o => World.cell?_alloc_lt w _ ⟨g, o, none⟩ hgl) j).1 i u e (by omega))
    have HN2 : Hid (∀ W, Below w.heap.size w W → ∀ i u, ((flatE E (n + 1)).drop ((j + 1) * 2))[i]? = some u → W.cell? ((⟨g, (j + 1) * 2, none⟩ : Addr).add i) = some u) := Lib.hid (fun W hb => (flat_part HW.out (W := W) (fun o => hb.cell (p := ⟨g, o, none⟩) hgl) (j + 1)).2)
    go_region_law (first
      | (refine step_append_ents rfl (.tmp 22) (.tmp 28) rfl w.heap.size 0 _ [] (by simp [Act.eval, Act.put]) H1.out ⟨g, 0, none⟩ j c (flatE E j) (by simp [Act.eval, Act.put]) (flatE_len _ _) HN1.out (flatE_one _ _) (by omega) (by simp) ?_; intro v1 w1 hv1 hg1; have HB1 := Lib.hid (grown_new (w := w) hg1); have HV1 : Hid (w1.ownsRow w.heap.size 40 2 v1 j (flatE E j)) := Lib.hid (by simpa using hv1); clear hv1 hg1; have b1 := (HB1.out.cell (p := ⟨R, 1, none⟩) hRl).trans c1)
      | (refine step_append_ents rfl (.tmp 29) (.tmp 36) rfl w.heap.size j v1 (flatE E j) (by simp [Act.eval, Act.put]) HV1.out ⟨g, (j + 1) * 2, none⟩ (n - j) (c - (j + 1)) ((flatE E (n + 1)).drop ((j + 1) * 2)) (by simp [Act.eval, Act.put]) (by rw [List.length_drop, flatE_len]; omega) (HN2.out _ HB1.out) (fun u hu => flatE_one E (n + 1) u (List.mem_of_mem_drop hu)) (by omega) HB1.out.size ?_; intro v2 w2 hv2 hg2; have HB2 := Lib.hid (grown_own HB1.out HV1.out hg2); have HV2 : Hid (Ents w2 w.heap.size v2 n (rmv E j)) := Lib.hid (by have h := hv2; rw [flat_rmv E n j hj, show j + (n - j) = n by omega] at h; exact h); clear hv2 hg2; obtain ⟨A2, cc2, rfl⟩ := HV2.out.shape; have d1 := (HB2.out.cell (p := ⟨R, 1, none⟩) hRl).trans c1; have d2 := (HB2.out.frozen (p := ⟨R, 1, none⟩) hRl).trans fz))
    all_goals
      obtain ⟨q1, q2, q3⟩ := HW.out.renewed HB2.out HV2.out
      have HF := Lib.hid (fun W (hW : Below (w2.setCell ⟨R, 1, none⟩ (.slice A2 n cc2)).heap.size (w2.setCell ⟨R, 1, none⟩ (.slice A2 n cc2)) W) => (show RfAns C R S cap n (delM M (E j).1) (.tuple #[.int .i64 (E j).2, .int .i64 0]) w (.returned (.tuple #[.int .i64 (E j).2, .int .i64 0])) W from ⟨_, rfl, RefO.done HS.out (q1.below hW) HD.out HC.out (q2.trans (Chg.of_below hW)) q3⟩))
      clear q1 q2 q3 HB1 HV1 HB2 HV2 d1 d2 b1
      go_wp2
      go_ret2
      exact HF.out _ (Below.refl _ _)
set_option maxRecDepth 100000 in
set_option maxHeartbeats 4000000 in
theorem rrem_any {C R cap n : Nat} {S : Nat → Prop} {M : Int → Option Int} {w : World} (h : RefO C R S cap n M w) (id : Int) :
    Calls Try.prog 26 #[.pointer (some ⟨R, 0, none⟩), .int .i64 id] w (RfAns C R S cap (remN n M id) (remM M id) (.tuple #[.int .i64 ((M id).getD 0), .int .i64 (updErr M id)]) w) := by
  unfold remN remM updErr
  by_cases hm : (M id).isSome = true
  · rw [if_pos hm, if_pos hm, if_pos hm]
    obtain ⟨v, E, h1, h2, h3, h5, h6⟩ := h
    obtain ⟨j, hj, he, hv⟩ := h3.find hm
    obtain ⟨n, rfl⟩ : ∃ m, n = m + 1 := ⟨n - 1, by omega⟩
    rw [hv, Nat.add_sub_cancel]
    subst he
    exact rrem_in h1 h2 h3 h5 hj
  · rw [if_neg hm, if_neg hm, if_neg hm]
    have hn := isSome_not hm
    rw [hn]
    have HE := Lib.hid (RfAns.stay h (Below.refl _ _) (.tuple #[.int .i64 0, .int .i64 6]))
    obtain ⟨v, E, h1, h2, h3, h5, h6⟩ := h
    have HFD := Lib.hid (at_no h1 (h3.none_at hn))
    clear h1 h2 h3 h5 h6 hm hn
    go_enter Try.func26, Try.ntmps26
    go_wp2_with fail
    (with_reducible refine HFD.out.mono ?_)
    rintro e w1 ⟨rfl, rfl⟩
    go_wp2
    go_ret2
    exact HE.out
end Go.Proofs.Ytlnbjmmbjhglnaa
