/-
  Layer 4: contract of the reference's Entries. Every input.
-/
import Derived.Test.YtlnbjmmbjhglnaaHpRef4
import Derived.Laws.AppendOwnNone
namespace Go.Proofs.Ytlnbjmmbjhglnaa
open Go.ChangeShapes Go.WideShapes Go.ChangeAt Go.RowKit
set_option linter.unusedVariables false

/-- x put in at place k. -/
def ins (F : Nat → Int × Int) (k : Nat) (x : Int × Int) : Nat → Int × Int := fun j => if j < k then F j else if j = k then x else F (j - 1)
/-- F holds, ascending, the first i entries of E. -/
def Sorts (E F : Nat → Int × Int) (i : Nat) : Prop := Asc F i ∧ ∀ x, (∃ j, j < i ∧ E j = x) ↔ ∃ j, j < i ∧ F j = x
theorem sorts_nil (E F : Nat → Int × Int) : Sorts E F 0 := ⟨fun a b h1 h2 => by omega, fun x => ⟨fun ⟨j, h, _⟩ => by omega, fun ⟨j, h, _⟩ => by omega⟩⟩
theorem Sorts.ins_ {E F : Nat → Int × Int} {i k : Nat} (h : Sorts E F i) (hd : Dist E (i + 1)) (hk : k ≤ i) (h1 : ∀ j, j < k → lt2 (F j) (E i)) (h2 : k < i → ¬ lt2 (F k) (E i)) : Sorts E (ins F k (E i)) (i + 1) := by
  obtain ⟨ha, hc⟩ := h
  have h3 : ∀ j, k ≤ j → j < i → lt2 (E i) (F j) := by
    intro j hkj hj
    have hne : F k ≠ E i := fun e => by
      obtain ⟨p, hp, e2⟩ := (hc (F k)).2 ⟨k, by omega, rfl⟩
      have := hd p i (by omega) (by omega) (by rw [e2, e]); omega
    have h4 : lt2 (E i) (F k) := by
      rcases lt2_tri (F k) (E i) with e | e | e
      · exact absurd e (h2 (by omega))
      · exact absurd e hne
      · exact e
    rcases (by omega : j = k ∨ k < j) with rfl | h5
    · exact h4
    · exact lt2_trans h4 (ha k j h5 hj)
  refine ⟨fun a b hab hb => ?_, fun x => ?_⟩
  · unfold ins
    by_cases a1 : a < k
    · rw [if_pos a1]
      by_cases b1 : b < k
      · rw [if_pos b1]; exact ha a b hab (by omega)
      · rw [if_neg b1]
        by_cases b2 : b = k
        · rw [if_pos b2]; exact h1 a a1
        · rw [if_neg b2]; exact ha a (b - 1) (by omega) (by omega)
    · rw [if_neg a1]
      by_cases a2 : a = k
      · rw [if_pos a2, if_neg (by omega), if_neg (by omega)]; exact h3 (b - 1) (by omega) (by omega)
      · rw [if_neg a2, if_neg (by omega), if_neg (by omega)]; exact ha (a - 1) (b - 1) (by omega) (by omega)
  · constructor
    · rintro ⟨j, hj, e⟩
      rcases (by omega : j = i ∨ j < i) with rfl | hj2
      · exact ⟨k, by omega, by unfold ins; rw [if_neg (by omega), if_pos rfl]; exact e⟩
      · obtain ⟨p, hp, e2⟩ := (hc x).1 ⟨j, hj2, e⟩
        by_cases p1 : p < k
        · exact ⟨p, by omega, by unfold ins; rw [if_pos p1]; exact e2⟩
        · exact ⟨p + 1, by omega, by unfold ins; rw [if_neg (by omega), if_neg (by omega), Nat.add_sub_cancel]; exact e2⟩
    · rintro ⟨j, hj, e⟩
      unfold ins at e
      by_cases j1 : j < k
      · rw [if_pos j1] at e
        obtain ⟨p, hp, e2⟩ := (hc x).2 ⟨j, by omega, e⟩
        exact ⟨p, by omega, e2⟩
      · rw [if_neg j1] at e
        by_cases j2 : j = k
        · rw [if_pos j2] at e; exact ⟨i, by omega, e⟩
        · rw [if_neg j2] at e
          obtain ⟨p, hp, e2⟩ := (hc x).2 ⟨j - 1, by omega, e⟩
          exact ⟨p, by omega, e2⟩
theorem Sorts.cont {E F : Nat → Int × Int} {n : Nat} {M : Int → Option Int} (h : Sorts E F n) (hc : Cont E n M) : Cont F n M := fun id k => by rw [hc id k]; exact h.2 (id, k)
theorem flat_ins (F : Nat → Int × Int) (i k : Nat) (x : Int × Int) (hk : k ≤ i) : (flatE F k ++ [Value.int .i64 x.1, Value.int .i64 x.2]) ++ (flatE F i).drop (k * 2) = flatE (ins F k x) (i + 1) := by
  have hl : ((flatE F k ++ [Value.int .i64 x.1, Value.int .i64 x.2]) ++ (flatE F i).drop (k * 2)).length = (i + 1) * 2 := by
    rw [List.length_append, List.length_append, List.length_drop, flatE_len, flatE_len]; simp; omega
  refine flatE_ext hl (fun j hj => ?_)
  have hl1 : (flatE F k ++ [Value.int .i64 x.1, Value.int .i64 x.2]).length = k * 2 + 2 := by rw [List.length_append, flatE_len]; rfl
  by_cases h : j < k * 2
  · rw [List.getElem?_append_left (by rw [hl1]; omega), List.getElem?_append_left (by rw [flatE_len]; exact h), flatE_at F k j h]
    have e : ins F k x (j / 2) = F (j / 2) := by unfold ins; rw [if_pos (by omega)]
    unfold prE; rw [e]
  · by_cases h2 : j < k * 2 + 2
    · rw [List.getElem?_append_left (by rw [hl1]; omega), List.getElem?_append_right (by rw [flatE_len]; omega), flatE_len]
      have e : ins F k x (j / 2) = x := by unfold ins; rw [if_neg (by omega), if_pos (by omega)]
      unfold prE; rw [e]
      rcases (by omega : j = k * 2 ∨ j = k * 2 + 1) with rfl | rfl
      · rw [Nat.sub_self, if_pos (by omega)]; rfl
      · rw [show k * 2 + 1 - k * 2 = 1 by omega, if_neg (by omega)]; rfl
    · rw [List.getElem?_append_right (by rw [hl1]; omega), hl1, List.getElem?_drop, flatE_at F i _ (by omega)]
      have e : ins F k x (j / 2) = F (j / 2 - 1) := by unfold ins; rw [if_neg (by omega), if_neg (by omega)]
      unfold prE
      rw [e, show (k * 2 + (j - (k * 2 + 2))) / 2 = j / 2 - 1 by omega, show (k * 2 + (j - (k * 2 + 2))) % 2 = j % 2 by omega]
theorem own_empty2 {w0 W : World} (h : w0.heap.size ≤ W.heap.size) : (W.alloc (.cells #[] 40)).ownsRow w0.heap.size 40 2 (.slice (some ⟨W.heap.size, 0, none⟩) 0 0) 0 [] :=
  World.ownsRow_made W #[] 0 h (by unfold maxLen; omega) rfl
/-- append of entries to a row of the call's own. -/
theorem wpList_append_ents {w : World} {ops : Array Oper} {rest : List Oper} {o : Oper} {a : Act} {Q : Exit → Act → World → Prop} (hgd : o.guard = none) (s x : Operand)
    (ho : o.op = .call { callee := .builtin .append, args := #[s, x], argTypes := #[35, 35] })
    (base n : Nat) (v : Value) (xs : List Value) (hs : a.eval s = v) (hown : w.ownsRow base 40 2 v n xs)
    (ad : Addr) (m c : Nat) (news : List Value) (hx : a.eval x = .slice (some ad) m c) (hl : news.length = m * 2) (hc : ∀ j u, news[j]? = some u → w.cell? (ad.add j) = some u) (h1 : ∀ u ∈ news, u.oneCell' = true)
    (hn : n + m ≤ 8192) (hb : base ≤ w.heap.size)
    (hK : ∀ v' w', w'.ownsRow base 40 2 v' (n + m) (xs ++ news) → w.grownBy w' v.ownBlock → wpList Try.prog ops Q rest (a.put o.dst v') w') :
    wpList Try.prog ops Q (o :: rest) a w := by
  obtain ⟨i0, hii, hz0, hz1, hz2⟩ := info_parts info_ent
  exact wpList_append_own w hgd s x _ ho base 40 i0 _ 2 16 Try.underlying35 hii hz0 hz1 hz2 rfl (by decide) v n xs hs hown ad m c news hx hl hc h1 (by unfold maxLen; omega) (by omega) hb (fun v' w' h2 h3 _ => hK v' w' h2 h3)
theorem ent_part {w : World} {C g c n : Nat} {E : Nat → Int × Int} (h : Ents w C (.slice (some ⟨g, 0, none⟩) n c) n E) {W : World} (hk : ∀ o, W.cell? ⟨g, o, none⟩ = w.cell? ⟨g, o, none⟩) (i : Nat) :
    (∀ j u, (flatE E i)[j]? = some u → i ≤ n → W.cell? ((⟨g, 0, none⟩ : Addr).add j) = some u) ∧ ∀ j u, ((flatE E n).drop (i * 2))[j]? = some u → W.cell? ((⟨g, i * 2, none⟩ : Addr).add j) = some u := by
  have key : ∀ j u, (flatE E n)[j]? = some u → W.cell? ⟨g, j, none⟩ = some u := fun j u e => by
    have hj : j < n * 2 := by
      rcases Nat.lt_or_ge j (n * 2) with h' | h'
      · exact h'
      · rw [List.getElem?_eq_none (by rw [flatE_len]; exact h')] at e; cases e
    rw [hk, World.ownsRow.cellAt h j hj]; exact e
  refine ⟨fun j u e hi => ?_, fun j u e => ?_⟩
  · rw [Addr.add_lit, Nat.zero_add]
    refine key j u ?_
    have hj : j < i * 2 := by
      rcases Nat.lt_or_ge j (i * 2) with h' | h'
      · exact h'
      · rw [List.getElem?_eq_none (by rw [flatE_len]; exact h')] at e; cases e
    rw [flatE_at E i j hj] at e
    rw [flatE_at E n j (by omega)]; exact e
  · rw [Addr.add_lit]
    refine key _ u ?_
    rw [List.getElem?_drop] at e; exact e
theorem grown_new' {w w1 : World} (hg : (w.alloc (.cells #[] 40)).grownBy w1 (Value.slice (some ⟨w.heap.size, 0, none⟩) 0 0).ownBlock) : Below w.heap.size w w1 :=
  ((Below.refl _ _).alloc (Nat.le_refl _) _).grown hg (by simp) (fun k e => by have : w.heap.size = k := by simpa [Value.ownBlock] using e
                                                                               omega)
set_option maxRecDepth 100000 in
set_option maxHeartbeats 8000000 in
theorem rentries_any {C R cap n : Nat} {S : Nat → Prop} {M : Int → Option Int} {w : World} (h : RefO C R S cap n M w) :
    Calls Try.prog 15 #[.pointer (some ⟨R, 0, none⟩)] w (ListAns M n w) := by
  obtain ⟨v, E, h1, h2, h3, h5, h6⟩ := h
  obtain ⟨_, c1, _⟩ := h1.cells
  have hRl := (h1.lt R (.inl rfl)).2
  have hn4 : n ≤ 4096 := by have := h1.len; omega
  have HEN := Lib.hid h1.ents
  obtain ⟨EA, ec, rfl⟩ := h1.ents.shape
  have HDI := Lib.hid h2
  have HCO := Lib.hid h3
  obtain ⟨i0, hii, hz0, hz1, hz2⟩ := info_parts info_ent
  clear h1 h2 h3 h5 h6
  go_enter Try.func15, Try.ntmps15
  go_wp2_with fail
  go_loopw [3, 4] (fun o s wr => ∃ (i : Nat) (F : Nat → Int × Int), i ≤ n ∧ s = .int .i64 i ∧ Hid (Ents wr w.heap.size o i F) ∧ Hid (i = 0 → o = .slice none 0 0) ∧ Hid (Sorts E F i) ∧ Hid (Below w.heap.size w wr)) (fun _ s _ => n - (intOf s).toNat)
  case atStart => exact ⟨0, E, Nat.zero_le _, rfl, Lib.hid (Ents.nil _ _ _), Lib.hid (fun _ => rfl), Lib.hid (sorts_nil _ _), Lib.hid (Below.refl _ _)⟩
  case round =>
    obtain ⟨wo, rfl⟩ : ∃ wo : World, wo = wr := ⟨_, rfl⟩
    obtain ⟨i, F, hi, rfl, HO, HNI, HSO, HBo⟩ := hrel
    by_cases hlt : i < n
    · have hlt' : (i : Int) < n := by omega
      obtain ⟨eg, c', ee, _, _, hegl⟩ := HEN.out.some_ (by omega)
      obtain ⟨rfl, rfl⟩ : EA = some ⟨eg, 0, none⟩ ∧ ec = c' := by simpa using ee
      obtain ⟨e1, e2⟩ := HEN.out.cell (i := i) hlt
      clear ee
      obtain ⟨OA, oc, rfl⟩ := HO.out.shape
      have co : wo.cell? ⟨R, 1, none⟩ = _ := (HBo.out.cell (p := ⟨R, 1, none⟩) hRl).trans c1
      go_wp2_with fail
      go_loopw [5] (fun s wr => ∃ k : Nat, s = .int .i64 k ∧ k ≤ i ∧ Hid (∀ j, j < k → lt2 (F j) (E i)) ∧ Hid (Below wo.heap.size wo wr)) (fun s _ => i - (intOf s).toNat)
      case atStart => exact ⟨0, rfl, Nat.zero_le _, Lib.hid (fun j hj => by omega), Lib.hid (Below.refl _ _)⟩
      case round =>
        obtain ⟨k, rfl, hk, HLT, HBr⟩ := hrel
        have HBq := Lib.hid (HBo.out.trans (HBr.out.mono HBo.out.size))
        have cr := (HBq.out.cell (p := ⟨R, 1, none⟩) hRl).trans c1
        have f1 := (HBq.out.cell (p := ⟨eg, i * 2, none⟩) hegl).trans e1
        have f2 := (HBq.out.cell (p := ⟨eg, i * 2 + 1, none⟩) hegl).trans e2
        have HOr := Lib.hid (HO.out.keep (w' := wr) (fun q hq => HBr.out.block q (HO.out.lt q hq).2))
        by_cases hki : k < i
        · have hki' : decide ((k : Int) < (i : Int)) = true := decide_eq_true (by omega)
          have hki2 : (k : Int) < (i : Int) := by omega
          obtain ⟨og, oc', oe, hoc, hog, hogl⟩ := HOr.out.some_ (by omega)
          obtain ⟨rfl, rfl⟩ : OA = some ⟨og, 0, none⟩ ∧ oc = oc' := by simpa using oe
          obtain ⟨g1, g2⟩ := HOr.out.cell (i := k) hki
          clear oe co
          have HL := Lib.hid (less_any (F k) (E i) wr.drew)
          go_wp2_with fail
          refine wp_region_tail 16 (by kernel_rfl) (by kernel_rfl) ?_
          simp only [List.take_succ_cons, List.take_zero, List.drop_succ_cons, List.drop_zero]
          repeat still_step
          refine wpStill_nil ?_
          go_wp2_with fail
          by_cases hl : lt2 (F k) (E i)
          · rw [decide_eq_true hl] at HL
            (with_reducible refine HL.out.mono ?_)
            rintro e w1 ⟨rfl, hb1⟩
            have HB1 := Lib.hid (HBr.out.trans (((Below.refl _ _).drew.trans hb1).mono HBr.out.size))
            have HLT1 : Hid (∀ j, j < k + 1 → lt2 (F j) (E i)) := Lib.hid (fun j hj => by
              rcases (by omega : j = k ∨ j < k) with rfl | h
              · exact hl
              · exact HLT.out j h)
            clear hb1 HL HOr HBq cr f1 f2 g1 g2 hl
            go_wp2
            go_roundw
            case rel => exact ⟨k + 1, by go_num, by omega, HLT1, HB1⟩
            case measure => simp [intOf]; omega
          · rw [decide_eq_false hl] at HL
            (with_reducible refine HL.out.mono ?_)
            rintro e wx ⟨rfl, hb1⟩
            have hbx : Below wr.heap.size wr wx := (Below.refl _ _).drew.trans hb1
            have HBx := Lib.hid (HBq.out.trans (hbx.mono HBq.out.size))
            have HOx := Lib.hid (HOr.out.keep (w' := wx) (fun q hq => hbx.block q (HOr.out.lt q hq).2))
            have HNL : k < i → ¬ lt2 (F k) (E i) := fun _ => hl
            have hogx : og < wx.heap.size := by have := hbx.size; omega
            clear hb1 hbx HL HOr HBq cr f1 f2 g1 g2 hl
            have hkc : (k : Int) ≤ oc := by omega
            have hki9 : (k : Int) ≤ i := by omega
            have hkc2 : ¬ oc = k := by omega
            have HP1 := Lib.hid (ent_part HOx.out (W := wx.alloc (.cells #[] 40)) (fun o => World.cell?_alloc_lt wx _ ⟨og, o, none⟩ hogx) k).1
            have HP2 := Lib.hid (fun W (hb : Below wx.heap.size wx W) => (ent_part HOx.out (W := W) (fun o => hb.cell (p := ⟨og, o, none⟩) hogx) k).2)
            go_wp2_with (first
              | (at_builtin; refine wpList_append_ents rfl (.tmp 36) (.tmp 39) rfl wx.heap.size 0 _ [] rfl (own_empty2 (Nat.le_refl _)) ⟨og, 0, none⟩ k oc (flatE F k) rfl (flatE_len _ _) (fun j u e => HP1.out j u e (by omega)) (flatE_one _ _) (by omega) (by simp) ?_; intro v1 w1 hv1 hg1; have HB1 := Lib.hid (grown_new' (w := wx) hg1); have HV1 : Hid (w1.ownsRow wx.heap.size 40 2 v1 k (flatE F k)) := Lib.hid (by have h := hv1; rw [List.nil_append, Nat.zero_add] at h; exact h); clear hv1 hg1; have b1 := ((HBx.out.trans (HB1.out.mono HBx.out.size)).cell (p := ⟨R, 1, none⟩) hRl).trans c1; have b2 := ((HBx.out.trans (HB1.out.mono HBx.out.size)).cell (p := ⟨eg, i * 2, none⟩) hegl).trans e1; have b3 := ((HBx.out.trans (HB1.out.mono HBx.out.size)).cell (p := ⟨eg, i * 2 + 1, none⟩) hegl).trans e2)
              | (at_builtin; refine wpList_append_ents rfl (.tmp 41) (.tmp 49) rfl wx.heap.size k v1 (flatE F k) rfl (World.ownsRow.alloc HV1.out _) ⟨w1.heap.size, 0, none⟩ 1 1 [.int .i64 (E i).1, .int .i64 (E i).2] rfl rfl (pair_cells w1 _ _ _) (pair_one _ _) (by omega) (by have := HB1.out.size; simp at this ⊢; omega) ?_; intro v2 w2 hv2 hg2; have HB2 := Lib.hid ((HB1.out.alloc HB1.out.size _).grown hg2 (by have := HB1.out.size; simp at this ⊢; omega) (fun q e => (World.ownsRow.lt HV1.out q e).1)); have HV2 := Lib.hid hv2; clear hv2 hg2)
              | (at_builtin; refine wpList_append_ents rfl (.tmp 51) (.tmp 54) rfl wx.heap.size (k + 1) v2 (flatE F k ++ [.int .i64 (E i).1, .int .i64 (E i).2]) rfl HV2.out ⟨og, k * 2, none⟩ (i - k) (oc - k) ((flatE F i).drop (k * 2)) rfl (by rw [List.length_drop, flatE_len]; omega) (HP2.out _ HB2.out) (fun u hu => flatE_one F i u (List.mem_of_mem_drop hu)) (by omega) HB2.out.size ?_; intro v3 w3 hv3 hg3; have HB3 := Lib.hid (grown_own HB2.out HV2.out hg3); have HV3 : Hid (Ents w3 wx.heap.size v3 (i + 1) (ins F k (E i))) := Lib.hid (by have h := hv3; rw [flat_ins F i k (E i) (by omega), show k + 1 + (i - k) = i + 1 by omega] at h; exact h); clear hv3 hg3))
            have HS3 := Lib.hid (HSO.out.ins_ (HDI.out.fewer (by omega)) (by omega) HLT.out (by first | exact HNL | (intro hx; omega)))
            have HV4 := Lib.hid (HV3.out.wider HBx.out.size)
            have HB4 := Lib.hid (HBx.out.trans (HB3.out.mono HBx.out.size))
            clear HV3 HB3 HV2 HB2 HV1 HB1 b1 b2 b3
            go_wp2
            go_roundw
            case rel => exact ⟨i + 1, _, by omega, by go_num, HV4, Lib.hid (fun h => by omega), HS3, HB4⟩
            case measure => simp [intOf]; omega
        · have hki' : decide ((k : Int) < (i : Int)) = false := decide_eq_false (by omega)
          have hki2 : (i : Int) ≤ k := by omega
          by_cases h0 : i = 0
          · subst h0
            obtain rfl : k = 0 := by omega
            obtain ⟨rfl, rfl⟩ : OA = none ∧ oc = 0 := by have := HNI.out rfl; simpa using this
            clear hki' hki2 hki hk
            have e1z : w.cell? ⟨eg, 0, none⟩ = some (.int .i64 (E 0).1) := e1
            have e2z : w.cell? ⟨eg, 1, none⟩ = some (.int .i64 (E 0).2) := e2
            clear e1 e2 f1 f2
            have e1 := e1z
            have e2 := e2z
            clear e1z e2z
            go_wp2_with fail
            go_quiet (fail)
            have HBx := Lib.hid (Below_drewN HBq.out nq)
            clear HOr HBq HO HBr HBo HNI
            generalize wr.drewN nq = wx at *
            clear cr co
            have HB1 := Lib.hid ((Below.refl wx.heap.size wx).alloc (Nat.le_refl _) (.cells #[] 40))
            have HV1 : Hid ((wx.alloc (.cells #[] 40)).ownsRow wx.heap.size 40 2 (.slice (some ⟨wx.heap.size, 0, none⟩) 0 0) 0 (flatE F 0)) := Lib.hid (own_empty2 (Nat.le_refl _))
            have b1 := ((HBx.out.trans (HB1.out.mono HBx.out.size)).cell (p := ⟨R, 1, none⟩) hRl).trans c1
            have b2 := ((HBx.out.trans (HB1.out.mono HBx.out.size)).cell (p := ⟨eg, 0, none⟩) hegl).trans e1
            have b3 := ((HBx.out.trans (HB1.out.mono HBx.out.size)).cell (p := ⟨eg, 1, none⟩) hegl).trans e2
            have hpc := pair_cells (wx.alloc (.cells #[] 40)) (.int .i64 (E 0).1) (.int .i64 (E 0).2) 40
            rw [show (wx.alloc (.cells #[] 40)).heap.size = wx.heap.size + 1 by simp] at hpc
            have HPC := Lib.hid hpc
            clear hpc
            go_wp2_with (first
              | (at_builtin; refine wpList_append_ents rfl (.tmp 41) (.tmp 49) rfl wx.heap.size 0 _ (flatE F 0) rfl (World.ownsRow.alloc HV1.out _) ⟨wx.heap.size + 1, 0, none⟩ 1 1 [.int .i64 (E 0).1, .int .i64 (E 0).2] rfl rfl HPC.out (pair_one _ _) (by omega) (by have := HB1.out.size; simp at this ⊢; omega) ?_; intro v2 w2 hv2 hg2; have HB2 := Lib.hid ((HB1.out.alloc HB1.out.size _).grown hg2 (by have := HB1.out.size; simp at this ⊢; omega) (fun q e => (World.ownsRow.lt HV1.out q e).1)); have HV2 := Lib.hid hv2; clear hv2 hg2)
              | (at_builtin; refine wpList_append_own_none rfl (.tmp 51) (.tmp 54) 35 rfl wx.heap.size 40 i0 2 Try.underlying35 hii v2 (0 + 1) _ rfl HV2.out rfl ?_; have HB3 := HB2; have HV3 : Hid (Ents w2 wx.heap.size v2 (0 + 1) (ins F 0 (E 0))) := Lib.hid (by have h := HV2.out; have e3 := flat_ins F 0 0 (E 0) (Nat.le_refl _); rw [List.drop_eq_nil_of_le (by rw [flatE_len]; omega), List.append_nil] at e3; rw [e3] at h; exact h)))
            have HS3 := Lib.hid (HSO.out.ins_ (HDI.out.fewer (by omega)) (by omega) HLT.out (by first | exact HNL | (intro hx; omega)))
            have HV4 := Lib.hid (HV3.out.wider HBx.out.size)
            have HB4 := Lib.hid (HBx.out.trans (HB3.out.mono HBx.out.size))
            clear HV3 HB3 HV2 HB2 HV1 HB1 b1 b2 b3
            go_wp2
            go_roundw
            case rel => exact ⟨0 + 1, _, by omega, by go_num, HV4, Lib.hid (fun h => by omega), HS3, HB4⟩
            case measure => simp [intOf]; omega
          · obtain ⟨og, oc', oe, hoc, hog, hogl⟩ := HOr.out.some_ (by omega)
            obtain ⟨rfl, rfl⟩ : OA = some ⟨og, 0, none⟩ ∧ oc = oc' := by simpa using oe
            clear oe co
            by_cases hoci : oc = i
            · obtain rfl : i = k := by omega
              obtain rfl : i = oc := hoci.symm
              clear hki2 hki' hk hki
              go_wp2_with fail
              go_quiet (fail)
              have HBx := Lib.hid (Below_drewN HBq.out nq)
              have HOx := Lib.hid (show Ents (wr.drewN nq) w.heap.size _ _ F from HOr.out)
              have hogx : og < (wr.drewN nq).heap.size := hogl
              clear HOr HBq HO HBr HBo HNI hogl cr f1 f2
              generalize wr.drewN nq = wx at *
              have hkc : (i : Int) ≤ i := by omega
              have hki9 : (i : Int) ≤ i := by omega
              have HP1 := Lib.hid (ent_part HOx.out (W := wx.alloc (.cells #[] 40)) (fun o => World.cell?_alloc_lt wx _ ⟨og, o, none⟩ hogx) i).1
              have HP2 := Lib.hid (fun W (hb : Below wx.heap.size wx W) => (ent_part HOx.out (W := W) (fun o => hb.cell (p := ⟨og, o, none⟩) hogx) i).2)
              go_wp2_with (first
                | (at_builtin; refine wpList_append_ents rfl (.tmp 36) (.tmp 39) rfl wx.heap.size 0 _ [] rfl (own_empty2 (Nat.le_refl _)) ⟨og, 0, none⟩ i i (flatE F i) rfl (flatE_len _ _) (fun j u e => HP1.out j u e (by omega)) (flatE_one _ _) (by omega) (by simp) ?_; intro v1 w1 hv1 hg1; have HB1 := Lib.hid (grown_new' (w := wx) hg1); have HV1 : Hid (w1.ownsRow wx.heap.size 40 2 v1 i (flatE F i)) := Lib.hid (by have h := hv1; rw [List.nil_append, Nat.zero_add] at h; exact h); clear hv1 hg1; have b1 := ((HBx.out.trans (HB1.out.mono HBx.out.size)).cell (p := ⟨R, 1, none⟩) hRl).trans c1; have b2 := ((HBx.out.trans (HB1.out.mono HBx.out.size)).cell (p := ⟨eg, i * 2, none⟩) hegl).trans e1; have b3 := ((HBx.out.trans (HB1.out.mono HBx.out.size)).cell (p := ⟨eg, i * 2 + 1, none⟩) hegl).trans e2)
                | (at_builtin; refine wpList_append_ents rfl (.tmp 41) (.tmp 49) rfl wx.heap.size i v1 (flatE F i) rfl (World.ownsRow.alloc HV1.out _) ⟨w1.heap.size, 0, none⟩ 1 1 [.int .i64 (E i).1, .int .i64 (E i).2] rfl rfl (pair_cells w1 _ _ _) (pair_one _ _) (by omega) (by have := HB1.out.size; simp at this ⊢; omega) ?_; intro v2 w2 hv2 hg2; have HB2 := Lib.hid ((HB1.out.alloc HB1.out.size _).grown hg2 (by have := HB1.out.size; simp at this ⊢; omega) (fun q e => (World.ownsRow.lt HV1.out q e).1)); have HV2 := Lib.hid hv2; clear hv2 hg2)
                | (at_builtin; refine wpList_append_ents rfl (.tmp 51) (.tmp 54) rfl wx.heap.size (i + 1) v2 (flatE F i ++ [.int .i64 (E i).1, .int .i64 (E i).2]) rfl HV2.out ⟨og, 0, none⟩ 0 0 [] rfl rfl (fun j u hu => by simp at hu) (fun u hu => by simp at hu) (by omega) HB2.out.size ?_; intro v3 w3 hv3 hg3; have HB3 := Lib.hid (grown_own HB2.out HV2.out hg3); have HV3 : Hid (Ents w3 wx.heap.size v3 (i + 1) (ins F i (E i))) := Lib.hid (by have h := hv3; rw [List.append_nil, Nat.add_zero] at h; have e3 := flat_ins F i i (E i) (Nat.le_refl _); rw [List.drop_eq_nil_of_le (by rw [flatE_len]; omega), List.append_nil] at e3; rw [e3] at h; exact h); clear hv3 hg3))
              have HS3 := Lib.hid (HSO.out.ins_ (HDI.out.fewer (by omega)) (by omega) HLT.out (by first | exact HNL | (intro hx; omega)))
              have HV4 := Lib.hid (HV3.out.wider HBx.out.size)
              have HB4 := Lib.hid (HBx.out.trans (HB3.out.mono HBx.out.size))
              clear HV3 HB3 HV2 HB2 HV1 HB1 b1 b2 b3
              go_wp2
              go_roundw
              case rel => exact ⟨i + 1, _, by omega, by go_num, HV4, Lib.hid (fun h => by omega), HS3, HB4⟩
              case measure => simp [intOf]; omega
            · go_wp2_with fail
              go_quiet (fail)
              have HBx := Lib.hid (Below_drewN HBq.out nq)
              have HOx := Lib.hid (show Ents (wr.drewN nq) w.heap.size _ _ F from HOr.out)
              have hogx : og < (wr.drewN nq).heap.size := hogl
              clear HOr HBq HO HBr HBo HNI hogl cr f1 f2
              generalize wr.drewN nq = wx at *
              have hkc : (k : Int) ≤ oc := by omega
              have hki9 : (k : Int) ≤ i := by omega
              have hkc2 : ¬ oc = k := by omega
              have HP1 := Lib.hid (ent_part HOx.out (W := wx.alloc (.cells #[] 40)) (fun o => World.cell?_alloc_lt wx _ ⟨og, o, none⟩ hogx) k).1
              have HP2 := Lib.hid (fun W (hb : Below wx.heap.size wx W) => (ent_part HOx.out (W := W) (fun o => hb.cell (p := ⟨og, o, none⟩) hogx) k).2)
              go_wp2_with (first
                | (at_builtin; refine wpList_append_ents rfl (.tmp 36) (.tmp 39) rfl wx.heap.size 0 _ [] rfl (own_empty2 (Nat.le_refl _)) ⟨og, 0, none⟩ k oc (flatE F k) rfl (flatE_len _ _) (fun j u e => HP1.out j u e (by omega)) (flatE_one _ _) (by omega) (by simp) ?_; intro v1 w1 hv1 hg1; have HB1 := Lib.hid (grown_new' (w := wx) hg1); have HV1 : Hid (w1.ownsRow wx.heap.size 40 2 v1 k (flatE F k)) := Lib.hid (by have h := hv1; rw [List.nil_append, Nat.zero_add] at h; exact h); clear hv1 hg1; have b1 := ((HBx.out.trans (HB1.out.mono HBx.out.size)).cell (p := ⟨R, 1, none⟩) hRl).trans c1; have b2 := ((HBx.out.trans (HB1.out.mono HBx.out.size)).cell (p := ⟨eg, i * 2, none⟩) hegl).trans e1; have b3 := ((HBx.out.trans (HB1.out.mono HBx.out.size)).cell (p := ⟨eg, i * 2 + 1, none⟩) hegl).trans e2)
                | (at_builtin; refine wpList_append_ents rfl (.tmp 41) (.tmp 49) rfl wx.heap.size k v1 (flatE F k) rfl (World.ownsRow.alloc HV1.out _) ⟨w1.heap.size, 0, none⟩ 1 1 [.int .i64 (E i).1, .int .i64 (E i).2] rfl rfl (pair_cells w1 _ _ _) (pair_one _ _) (by omega) (by have := HB1.out.size; simp at this ⊢; omega) ?_; intro v2 w2 hv2 hg2; have HB2 := Lib.hid ((HB1.out.alloc HB1.out.size _).grown hg2 (by have := HB1.out.size; simp at this ⊢; omega) (fun q e => (World.ownsRow.lt HV1.out q e).1)); have HV2 := Lib.hid hv2; clear hv2 hg2)
                | (at_builtin; refine wpList_append_ents rfl (.tmp 51) (.tmp 54) rfl wx.heap.size (k + 1) v2 (flatE F k ++ [.int .i64 (E i).1, .int .i64 (E i).2]) rfl HV2.out ⟨og, k * 2, none⟩ (i - k) (oc - k) ((flatE F i).drop (k * 2)) rfl (by rw [List.length_drop, flatE_len]; omega) (HP2.out _ HB2.out) (fun u hu => flatE_one F i u (List.mem_of_mem_drop hu)) (by omega) HB2.out.size ?_; intro v3 w3 hv3 hg3; have HB3 := Lib.hid (grown_own HB2.out HV2.out hg3); have HV3 : Hid (Ents w3 wx.heap.size v3 (i + 1) (ins F k (E i))) := Lib.hid (by have h := hv3; rw [flat_ins F i k (E i) (by omega), show k + 1 + (i - k) = i + 1 by omega] at h; exact h); clear hv3 hg3))
              have HS3 := Lib.hid (HSO.out.ins_ (HDI.out.fewer (by omega)) (by omega) HLT.out (by first | exact HNL | (intro hx; omega)))
              have HV4 := Lib.hid (HV3.out.wider HBx.out.size)
              have HB4 := Lib.hid (HBx.out.trans (HB3.out.mono HBx.out.size))
              clear HV3 HB3 HV2 HB2 HV1 HB1 b1 b2 b3
              go_wp2
              go_roundw
              case rel => exact ⟨i + 1, _, by omega, by go_num, HV4, Lib.hid (fun h => by omega), HS3, HB4⟩
              case measure => simp [intOf]; omega
    · obtain rfl : i = n := by omega
      obtain ⟨A2, c2, e2, hp⟩ := HO.out.prs
      obtain ⟨OA, oc, rfl⟩ := HO.out.shape
      obtain ⟨rfl, rfl⟩ : OA = A2 ∧ oc = c2 := by simpa using e2
      have HF := Lib.hid (show ListAns M i w (.returned (.slice OA i oc)) wo from ⟨OA, oc, F, rfl, hp, HSO.out.1, HSO.out.cont HCO.out, HBo.out⟩)
      have co : wo.cell? ⟨R, 1, none⟩ = _ := (HBo.out.cell (p := ⟨R, 1, none⟩) hRl).trans c1
      clear e2 hp HO HNI
      go_wp2
      go_ret
      exact HF.out
end Go.Proofs.Ytlnbjmmbjhglnaa
