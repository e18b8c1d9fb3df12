/-
  Layer 9: contracts of Shadowed, program's (with ContainsFunc and its closure) and reference's.
-/
import Derived.Test.YtfkbohfelacaoaaDoorRuCls
import Derived.Test.YtfkbohfelacaoaaDoorLbCmp
namespace Go.Proofs.YtfkbohfelacaoaaDoor
open Go.ChangeShapes Go.WideShapes Go.ChangeAt Go.RowKit
set_option linter.unusedVariables false

set_option maxHeartbeats 1000000 in
theorem clos_any (es rs : ByteArray) (ec ef el en rc rf rl rn : Int) (g : Nat) (w : World) (hr : Five w g (.string rs) (.int .i64 rc) (.int .i64 rf) (.int .i64 rl) (.int .i64 rn)) :
    Calls Tryd.prog 51 #[.agg #[.string es, .int .i64 ec, .int .i64 ef, .int .i64 el, .int .i64 en], .pointer (some ⟨g, 0, none⟩)] w (BoolAns (cov ⟨es, ec, ef, el, en⟩ ⟨rs, rc, rf, rl, rn⟩) w) := by
  have H := Lib.hid (fun w => cov_any es rs ec ef el en rc rf rl rn w)
  unfold BoolAns at H
  unfold BoolAns
  have hlt := cell_lt hr.1
  obtain ⟨d0, d1, d2, d3, d4⟩ := hr
  go_enter Tryd.func51, Tryd.ntmps51
  go_wp2_with fail
  (with_reducible refine (H.out _).mono ?_); rintro e w1 ⟨rfl, hb⟩
  have HB := Lib.hid (((Below.refl _ _).alloc (Nat.le_refl _) _).trans (hb.mono (by simp)))
  clear hb d0 d1 d2 d3 d4
  go_wp2
  go_ret
  exact ⟨rfl, HB.out⟩
/-- The first rule of the list that covers r, counted from k; -1 if there is none. -/
def ixR (r : Rul) : List Rul → Nat → Int
  | [], _ => -1
  | a :: l, k => if cov a r then (k : Int) else ixR r l (k + 1)
theorem ixR_any (r : Rul) : ∀ (l : List Rul) (k : Nat), decide (0 ≤ ixR r l k) = l.any fun a => cov a r
  | [], k => rfl
  | a :: l, k => by
    rw [ixR, List.any_cons]
    cases h : cov a r
    · rw [if_neg (by decide), Bool.false_or, ixR_any r l (k + 1)]
    · rw [if_pos rfl, Bool.true_or]; exact decide_eq_true (by omega)
theorem ixR_drop (r : Rul) {l : List Rul} {k : Nat} (hk : k < l.length) : ixR r (l.drop k) k = if cov l[k] r then (k : Int) else ixR r (l.drop (k + 1)) (k + 1) := by
  rw [List.drop_eq_getElem_cons hk, ixR]
theorem ixR_end (r : Rul) (l : List Rul) : ixR r (l.drop l.length) l.length = -1 := by rw [List.drop_length]; rfl
theorem RuAt.take {w : World} {B : Nat} {A : Option Addr} {l : List Rul} (h : RuAt w B A l) (k : Nat) : RuAt w B A (l.take k) := fun i hi => by
  have hi' : i < l.length := by rw [List.length_take] at hi; omega
  obtain ⟨b, off, e, hb, c⟩ := h i hi'
  rw [List.getElem_take]
  exact ⟨b, off, e, hb, c⟩
def IxAns (r : Rul) (M : List Rul) (w : World) (e : Ending) (w' : World) : Prop := e = .returned (.int .i64 (ixR r M 0)) ∧ Below w.heap.size w w'
set_option maxHeartbeats 2000000 in
theorem index_any (M : List Rul) (n : Nat) (hMn : M.length = n) (A : Option Addr) (cap g : Nat) (rs : ByteArray) (rc rf rl rn : Int) (w : World) (hr : RuAt w w.heap.size A M) (hn : n ≤ cap) (hcap : cap ≤ 9223372036854775807) (hg : Five w g (.string rs) (.int .i64 rc) (.int .i64 rf) (.int .i64 rl) (.int .i64 rn)) :
    Calls Tryd.prog 67 #[.slice A n cap, .func (Fn.func 51) #[] #[.pointer (some ⟨g, 0, none⟩)]] w (IxAns ⟨rs, rc, rf, rl, rn⟩ M w) := by
  have HM := Lib.hid (fun s1 c1 f1 l1 n1 w h => clos_any s1 rs c1 f1 l1 n1 rc rf rl rn g w h)
  unfold BoolAns at HM
  have HD := Lib.hid (fun k hk => ixR_drop ⟨rs, rc, rf, rl, rn⟩ (l := M) (k := k) hk)
  have HE := Lib.hid (ixR_end ⟨rs, rc, rf, rl, rn⟩ M)
  have HR0 := Lib.hid hr
  have HG0 := Lib.hid hg
  clear hr hg
  unfold IxAns
  go_enter Tryd.func67, Tryd.ntmps67
  go_wp2
  go_loopw [8] (fun s8 wr => ∃ k : Nat, k ≤ n ∧ s8 = .int .i64 k ∧ Hid (Five wr g (.string rs) (.int .i64 rc) (.int .i64 rf) (.int .i64 rl) (.int .i64 rn)) ∧ Hid (Below w.heap.size w wr) ∧ Hid (RuAt wr w.heap.size A M) ∧ Hid (ixR ⟨rs, rc, rf, rl, rn⟩ (M.drop k) k = ixR ⟨rs, rc, rf, rl, rn⟩ M 0)) (fun s8 _ => n - (intOf s8).toNat)
  case atStart => exact ⟨0, Nat.zero_le _, rfl, HG0, Lib.hid (Below.refl _ _), HR0, Lib.hid rfl⟩
  case round =>
    obtain ⟨k, hk, rfl, HG, HB, HR, HF⟩ := hrel
    clear HR0 HG0
    by_cases hlt : k < n
    · have hltM : k < M.length := by omega
      obtain ⟨b, off, rfl, hb, c0, c1, c2, c3, c4⟩ := HR.out k hltM
      have hF := HF.out
      rw [HD.out k hltM] at hF
      have hFh := Lib.hid hF
      clear hF HF
      obtain ⟨r, hrk⟩ : ∃ r, M[k] = r := ⟨_, rfl⟩
      rw [hrk] at c0 c1 c2 c3 c4 hFh
      clear hrk
      obtain ⟨es, ec, ef, el, en⟩ := r
      simp only at c0 c1 c2 c3 c4
      have hbw := HB.out.size
      have K := Lib.hid (HM.out es ec ef el en wr HG.out)
      cases hm : cov ⟨es, ec, ef, el, en⟩ ⟨rs, rc, rf, rl, rn⟩
      · rw [hm] at K hFh
        have HF2 := Lib.hid ((if_neg (by decide)).symm.trans hFh.out)
        clear hFh hm
        go_wp2_with fail
        (with_reducible refine K.out.mono ?_); rintro e w2 ⟨rfl, hb2⟩
        have HG2 := Lib.hid (HG.out.later hb2)
        have HR2 := Lib.hid (HR.out.below hb2 hbw)
        have HB2 := Lib.hid (HB.out.trans (hb2.mono HB.out.size))
        clear hb2 HG HR HB c0 c1 c2 c3 c4 K
        go_wp2
        go_roundw
        case rel => exact ⟨k + 1, by omega, by go_num, HG2, HB2, HR2, HF2⟩
        case measure => simp [intOf]; omega
      · rw [hm] at K hFh
        have HF2 := Lib.hid ((if_pos rfl).symm.trans hFh.out)
        clear hFh hm
        go_wp2_with fail
        (with_reducible refine K.out.mono ?_); rintro e w2 ⟨rfl, hb2⟩
        have HB2 := Lib.hid (HB.out.trans (hb2.mono HB.out.size))
        clear hb2 HG HR HB c0 c1 c2 c3 c4 K
        go_wp2
        go_ret
        exact ⟨ret_int HF2.out, HB2.out⟩
    · obtain rfl : k = n := by omega
      have hE := HE.out
      rw [hMn] at hE
      have HF2 := Lib.hid (HF.out.symm.trans hE)
      clear HF HR HG hE
      go_wp2
      go_ret
      exact ⟨ret_int HF2.out.symm, HB.out⟩
theorem contains_any (M : List Rul) (n : Nat) (hMn : M.length = n) (A : Option Addr) (cap g : Nat) (rs : ByteArray) (rc rf rl rn : Int) (w : World) (hr : RuAt w w.heap.size A M) (hn : n ≤ cap) (hcap : cap ≤ 9223372036854775807) (hg : Five w g (.string rs) (.int .i64 rc) (.int .i64 rf) (.int .i64 rl) (.int .i64 rn)) :
    Calls Tryd.prog 50 #[.slice A n cap, .func (Fn.func 51) #[] #[.pointer (some ⟨g, 0, none⟩)]] w (BoolAns (M.any fun a => cov a ⟨rs, rc, rf, rl, rn⟩) w) := by
  have K := Lib.hid (index_any M n hMn A cap g rs rc rf rl rn w hr hn hcap hg)
  unfold IxAns at K
  unfold BoolAns
  rw [← ixR_any ⟨rs, rc, rf, rl, rn⟩ M 0]
  generalize ixR ⟨rs, rc, rf, rl, rn⟩ M 0 = x at *
  clear hr hg
  go_enter Tryd.func50, Tryd.ntmps50
  go_wp2_with fail
  (with_reducible refine K.out.mono ?_); rintro e w2 ⟨rfl, hb⟩
  have HB := Lib.hid hb
  clear hb
  go_wp2
  go_ret
  exact ⟨rfl, HB.out⟩
/-- The shadowed ones among the first k, as a row of numbers of the call's own. -/
def shK (L : List Rul) (k : Nat) : List Nat := (List.range k).filter (shB L)
theorem shK_next (L : List Rul) (k : Nat) : shK L (k + 1) = shK L k ++ if shB L k then [k] else [] := by
  unfold shK; rw [List.range_succ, List.filter_append, List.filter_cons, List.filter_nil]
theorem shK_len (L : List Rul) (k : Nat) : (shK L k).length ≤ k := by
  unfold shK; have := List.length_filter_le (shB L) (List.range k); rw [List.length_range] at this; exact this
structure SK (W0 w : World) (L : List Rul) (k : Nat) (v : Value) : Prop where
  row : w.ownsRow W0.heap.size 3 1 v (shK L k).length (rc (shK L k))
  below : Below W0.heap.size W0 w
theorem SK.start (w : World) (L : List Rul) : SK w w L 0 (.slice none 0 0) := ⟨⟨rfl, .inl ⟨rfl, rfl⟩⟩, Below.refl _ _⟩
theorem SK.keep {W0 w w' : World} {L : List Rul} {k : Nat} {v : Value} (h : SK W0 w L k v) (hb : Below w.heap.size w w') : SK W0 w' L k v := by
  refine ⟨⟨h.row.1, ?_⟩, h.below.trans (hb.mono h.below.size)⟩
  rcases h.row.2 with h1 | ⟨g, cap, cur, h1, h2, h3, h4⟩
  · exact .inl h1
  · exact .inr ⟨g, cap, cur, h1, h2, (hb.block g (lt_of_block h3)).trans h3, h4⟩
theorem SK.no {W0 w : World} {L : List Rul} {k : Nat} {v : Value} (h : SK W0 w L k v) (hs : shB L k = false) : SK W0 w L (k + 1) v := by
  have e : shK L (k + 1) = shK L k := by rw [shK_next, hs]; simp
  exact ⟨by rw [e]; exact h.row, h.below⟩
theorem SK.yes {W0 w w' : World} {L : List Rul} {k : Nat} {v v' : Value} {o : Obj} (h : SK W0 w L k v) (hs : shB L k = true) (hr : w'.ownsRow W0.heap.size 3 1 v' ((shK L k).length + 1) (rc (shK L k) ++ [.int .i64 (k : Int)])) (hg : (w.alloc o).grownBy w' v.ownBlock) : SK W0 w' L (k + 1) v' := by
  have e : shK L (k + 1) = shK L k ++ [k] := by rw [shK_next, hs]; rfl
  refine ⟨?_, (h.below.alloc h.below.size o).grown hg (by have := h.below.size; simp; omega) (own_block5 h.row)⟩
  rw [e, List.length_append]
  have e2 : rc (shK L k ++ [k]) = rc (shK L k) ++ [.int .i64 (k : Int)] := by unfold rc; rw [List.map_append]; rfl
  rw [e2]
  exact hr
def ShAns (L : List Rul) (w : World) (e : Ending) (w' : World) : Prop := ∃ v, e = .returned v ∧ SK w w' L L.length v
set_option maxHeartbeats 2000000 in
theorem shadowed_any (L : List Rul) (A : Option Addr) (cap : Nat) (w : World) (hr : RuAt w w.heap.size A L) (hn : L.length ≤ cap) (hcap : cap ≤ 9223372036854775807) (hL : L.length ≤ 1000000) :
    Calls Tryd.prog 26 #[.slice A L.length cap] w (ShAns L w) := by
  obtain ⟨i0, hii, hz0, hz1, hz2⟩ := info_parts rcInfo
  have HR := Lib.hid hr
  have HRI := Lib.hid hr
  have HC := Lib.hid (fun M n hMn A cap g rs rc rf rl rn w hr hn hcap hg => contains_any M n hMn A cap g rs rc rf rl rn w hr hn hcap hg)
  unfold BoolAns at HC
  have HS := Lib.hid (fun i hi => shB_at (l := L) (i := i) hi)
  have hln := Lib.hid (fun k => shK_len L k)
  clear hr
  go_enter Tryd.func26, Tryd.ntmps26
  go_wp2
  go_loopw [3, 8] (fun v s8 wr => ∃ k : Nat, k ≤ L.length ∧ s8 = .int .i64 k ∧ Hid (RuAt wr w.heap.size A L) ∧ Hid (SK w wr L k v)) (fun _ s8 _ => L.length - (intOf s8).toNat)
  case atStart => exact ⟨0, Nat.zero_le _, rfl, HR, Lib.hid (SK.start w L)⟩
  case round =>
    obtain ⟨k, hk, rfl, HR, HK⟩ := hrel
    by_cases hlt : k < L.length
    · obtain ⟨b, off, rfl, hb, c0, c1, c2, c3, c4⟩ := HR.out k hlt
      have hs := HS.out k hlt
      obtain ⟨r, hrk⟩ : ∃ r, L[k] = r := ⟨_, rfl⟩
      rw [hrk] at c0 c1 c2 c3 c4 hs
      clear hrk
      obtain ⟨rs, rc', rf, rl, rn⟩ := r
      simp only at c0 c1 c2 c3 c4
      have hsz := HK.out.below.size
      have hw2 := Whole.fresh wr 29 #[.string rs, .int .i64 rc', .int .i64 rf, .int .i64 rl, .int .i64 rn]
      have hbw := (Below.refl wr.heap.size wr).alloc (Nat.le_refl _) (.cells #[.string rs, .int .i64 rc', .int .i64 rf, .int .i64 rl, .int .i64 rn] 29)
      have hr2 := ((HR.out.below hbw hsz).take k).wider (B' := (wr.alloc (.cells #[.string rs, .int .i64 rc', .int .i64 rf, .int .i64 rl, .int .i64 rn] 29)).heap.size) (by simp; omega)
      have K := Lib.hid (HC.out (L.take k) k (by rw [List.length_take]; omega) _ cap wr.heap.size rs rc' rf rl rn _ hr2 (by omega) hcap hw2.five')
      rw [← hs] at K
      have HRw := Lib.hid (HR.out.below hbw hsz)
      have HKw := Lib.hid (HK.out.keep hbw)
      have hkl := hln.out k
      clear hr2 hw2 hbw hs HR HK
      go_wp2_with fail
      (with_reducible refine K.out.mono ?_); rintro e w2 ⟨rfl, hb2⟩
      have HR2 := Lib.hid (HRw.out.below hb2 (by simp; omega))
      have HK2 := Lib.hid (HKw.out.keep hb2)
      have hs2 := HK2.out.below.size
      clear hb2 HRw HKw K c0 c1 c2 c3 c4
      cases hm : shB L k
      · have HK3 := Lib.hid (HK2.out.no hm)
        clear hm HK2
        go_wp2
        go_roundw
        case rel => exact ⟨k + 1, by omega, by go_num, HR2, HK3⟩
        case measure => simp [intOf]; omega
      · have HG := Lib.hid (fun v' w' hr hg => HK2.out.yes (v' := v') (w' := w') (o := .cells #[.int .i64 (k : Int)] 3) hm hr hg)
        have hrow := HK2.out.row
        clear hm
        go_wp2_with (at_builtin; refine wpList_append_own _ rfl (.tmp 18) (.tmp 20) 22 rfl w.heap.size 3 i0 (.int .i64 0) 1 8 Tryd.underlying22 hii hz0 hz1 hz2 rfl (by decide) _ (shK L k).length (rc (shK L k)) rfl (hrow.alloc _) ⟨w2.heap.size, 0, none⟩ 1 1 [.int .i64 (k : Int)] rfl rfl (rcCell _ _ _) (rcOne _) (by unfold maxLen; omega) (by omega) (by simp; omega) ?_; intro v4 w4 hv4 hg4 _)
        have HK4 := Lib.hid (HG.out v4 w4 hv4 hg4)
        have HR4 := Lib.hid (HRI.out.below HK4.out.below (Nat.le_refl _))
        clear HG hrow hv4 hg4 HK2
        go_wp2
        go_roundw
        case rel => exact ⟨k + 1, by omega, by go_num, HR4, HK4⟩
        case measure => simp [intOf]; omega
    · obtain rfl : k = L.length := by omega
      have HF := Lib.hid HK.out
      clear HR HK
      go_wp2
      go_ret
      exact ⟨_, rfl, HF.out⟩
theorem any_take {L : List Rul} {r : Rul} {k : Nat} (hk : k < L.length) : ((L.take (k + 1)).any fun a => cov a r) = (((L.take k).any fun a => cov a r) || cov L[k] r) := by
  rw [List.take_succ_eq_append_getElem hk, List.any_append]; simp
theorem any_hit {L : List Rul} {r : Rul} {k i : Nat} (hk : k < i) (hi : i ≤ L.length) (h : cov (L[k]'(by omega)) r = true) : ((L.take i).any fun a => cov a r) = true :=
  List.any_eq_true.2 ⟨L[k]'(by omega), List.mem_take_iff_getElem.2 ⟨k, by omega, rfl⟩, h⟩
theorem held2O {w0 w w' : World} {b1 o b2 o2 : Nat} {p0 p1 p2 p3 p4 q0 q1 q2 q3 q4 : Value} (hb : Below w.heap.size w w')
    (h : w.cell? ⟨b1, o, none⟩ = some p0 ∧ w.cell? ⟨b1, o + 1, none⟩ = some p1 ∧ w.cell? ⟨b1, o + 2, none⟩ = some p2 ∧ w.cell? ⟨b1, o + 3, none⟩ = some p3 ∧ w.cell? ⟨b1, o + 4, none⟩ = some p4 ∧
      w.cell? ⟨b2, o2, none⟩ = some q0 ∧ w.cell? ⟨b2, o2 + 1, none⟩ = some q1 ∧ w.cell? ⟨b2, o2 + 2, none⟩ = some q2 ∧ w.cell? ⟨b2, o2 + 3, none⟩ = some q3 ∧ w.cell? ⟨b2, o2 + 4, none⟩ = some q4 ∧ Below w0.heap.size w0 w) :
    w'.cell? ⟨b1, o, none⟩ = some p0 ∧ w'.cell? ⟨b1, o + 1, none⟩ = some p1 ∧ w'.cell? ⟨b1, o + 2, none⟩ = some p2 ∧ w'.cell? ⟨b1, o + 3, none⟩ = some p3 ∧ w'.cell? ⟨b1, o + 4, none⟩ = some p4 ∧
      w'.cell? ⟨b2, o2, none⟩ = some q0 ∧ w'.cell? ⟨b2, o2 + 1, none⟩ = some q1 ∧ w'.cell? ⟨b2, o2 + 2, none⟩ = some q2 ∧ w'.cell? ⟨b2, o2 + 3, none⟩ = some q3 ∧ w'.cell? ⟨b2, o2 + 4, none⟩ = some q4 ∧ Below w0.heap.size w0 w' := by
  obtain ⟨h0, h1, h2, h3, h4, k0, k1, k2, k3, k4, h5⟩ := h
  exact ⟨cell_later h0 hb, cell_later h1 hb, cell_later h2 hb, cell_later h3 hb, cell_later h4 hb, cell_later k0 hb, cell_later k1 hb, cell_later k2 hb, cell_later k3 hb, cell_later k4 hb, h5.trans (hb.mono h5.size)⟩
set_option maxHeartbeats 4000000 in
theorem shadowedR_any (L : List Rul) (A : Option Addr) (cap : Nat) (w : World) (hr : RuAt w w.heap.size A L) (hn : L.length ≤ cap) (hcap : cap ≤ 9223372036854775807) (hL : L.length ≤ 1000000) (hz : ∀ r ∈ L, r.st.size ≤ 2000000) :
    Calls Tryd.prog 28 #[.slice A L.length cap] w (ShAns L w) := by
  obtain ⟨i0, hii, hz0, hz1, hz2⟩ := info_parts rcInfo
  have HR := Lib.hid hr
  have HRI := Lib.hid hr
  have HC := Lib.hid (fun s1 s2 c1 f1 l1 n1 c2 f2 l2 n2 h1 h2 w => covR_any s1 s2 c1 f1 l1 n1 c2 f2 l2 n2 h1 h2 w)
  unfold BoolAns at HC
  have HS := Lib.hid (fun i hi => shB_at (l := L) (i := i) hi)
  have hln := Lib.hid (fun k => shK_len L k)
  have HLz := Lib.hid (fun k (hk : k < L.length) => hz L[k] (List.getElem_mem _))
  have HT := Lib.hid (fun r k hk => any_take (L := L) (r := r) (k := k) hk)
  have HH := Lib.hid (fun r k i hk hi h => any_hit (L := L) (r := r) (k := k) (i := i) hk hi h)
  clear hr hz
  go_enter Tryd.func28, Tryd.ntmps28
  go_wp2
  go_loopw [3, 4] (fun v s4 wr => ∃ k : Nat, k ≤ L.length ∧ s4 = .int .i64 k ∧ Hid (RuAt wr w.heap.size A L) ∧ Hid (SK w wr L k v)) (fun _ s4 _ => L.length - (intOf s4).toNat)
  case atStart => exact ⟨0, Nat.zero_le _, rfl, HR, Lib.hid (SK.start w L)⟩
  case round =>
    obtain ⟨i, hi, rfl, HR, HK⟩ := hrel
    by_cases hlt : i < L.length
    · have hs := HS.out i hlt
      obtain ⟨r, hrk⟩ : ∃ r, L[i] = r := ⟨_, rfl⟩
      rw [hrk] at hs
      have HI := Lib.hid hrk
      have hkl := hln.out i
      have HSi := Lib.hid hs
      clear hs hrk
      go_wp2_with fail
      obtain ⟨wo, rfl⟩ : ∃ wo : World, wo = wr := ⟨_, rfl⟩
      go_loopw [3, 5] (fun v s5 wr => ∃ k : Nat, k ≤ i ∧ s5 = .int .i64 k ∧ Hid (RuAt wr w.heap.size A L) ∧ Hid (SK w wr L i v) ∧ Hid (((L.take k).any fun a => cov a r) = false)) (fun _ s5 _ => i - (intOf s5).toNat)
      case atStart => exact ⟨0, Nat.zero_le _, rfl, HR, HK, Lib.hid rfl⟩
      case round =>
        obtain ⟨k, hk, rfl, HR2, HK2, HN⟩ := hrel
        clear HR HK
        by_cases hki : k < i
        · have hkL : k < L.length := by omega
          obtain ⟨b, off, rfl, hb, c0, c1, c2, c3, c4⟩ := HR2.out k hkL
          obtain ⟨b', off', e', _, p0, p1, p2, p3, p4⟩ := HR2.out i hlt
          simp only [Option.some.injEq, Addr.mk.injEq, and_true] at e'
          obtain ⟨rfl, rfl⟩ := e'
          have hz1' := HLz.out k hkL
          have hz2' := HLz.out i hlt
          have hT := HT.out r k hkL
          have hH := HH.out r k i hki (by omega)
          obtain ⟨e, hek⟩ : ∃ e, L[k] = e := ⟨_, rfl⟩
          rw [hek] at c0 c1 c2 c3 c4 hz1' hT hH
          rw [HI.out] at p0 p1 p2 p3 p4 hz2'
          clear hek HI
          obtain ⟨es, ec, ef, el, en⟩ := e
          obtain ⟨rs, rc', rf, rl, rn⟩ := r
          simp only at c0 c1 c2 c3 c4 p0 p1 p2 p3 p4 hz1' hz2'
          have K := Lib.hid (fun w => HC.out es rs ec ef el en rc' rf rl rn hz1' hz2' w)
          rw [HN.out, Bool.false_or] at hT
          have hTh := Lib.hid hT
          have hHh := Lib.hid hH
          have hsz := HK2.out.below.size
          have H0 : wr.drew.cell? ⟨b, off + k * 5, none⟩ = some (.string es) ∧ wr.drew.cell? ⟨b, off + k * 5 + 1, none⟩ = some (.int .i64 ec) ∧ wr.drew.cell? ⟨b, off + k * 5 + 2, none⟩ = some (.int .i64 ef) ∧ wr.drew.cell? ⟨b, off + k * 5 + 3, none⟩ = some (.int .i64 el) ∧ wr.drew.cell? ⟨b, off + k * 5 + 4, none⟩ = some (.int .i64 en) ∧ wr.drew.cell? ⟨b, off + i * 5, none⟩ = some (.string rs) ∧ wr.drew.cell? ⟨b, off + i * 5 + 1, none⟩ = some (.int .i64 rc') ∧ wr.drew.cell? ⟨b, off + i * 5 + 2, none⟩ = some (.int .i64 rf) ∧ wr.drew.cell? ⟨b, off + i * 5 + 3, none⟩ = some (.int .i64 rl) ∧ wr.drew.cell? ⟨b, off + i * 5 + 4, none⟩ = some (.int .i64 rn) ∧ Below wr.heap.size wr wr.drew := ⟨c0, c1, c2, c3, c4, p0, p1, p2, p3, p4, (Below.refl _ _).drew⟩
          clear c0 c1 c2 c3 c4 p0 p1 p2 p3 p4 hz1' hz2' hT hH HN HS HLz HT HH
          cases hm : cov ⟨es, ec, ef, el, en⟩ ⟨rs, rc', rf, rl, rn⟩
          · rw [hm] at K hTh
            clear hm hHh
            go_wp2_with fail
            go_region_held3 (fun w' => w'.cell? ⟨b, off + k * 5, none⟩ = some (.string es) ∧ w'.cell? ⟨b, off + k * 5 + 1, none⟩ = some (.int .i64 ec) ∧ w'.cell? ⟨b, off + k * 5 + 2, none⟩ = some (.int .i64 ef) ∧ w'.cell? ⟨b, off + k * 5 + 3, none⟩ = some (.int .i64 el) ∧ w'.cell? ⟨b, off + k * 5 + 4, none⟩ = some (.int .i64 en) ∧ w'.cell? ⟨b, off + i * 5, none⟩ = some (.string rs) ∧ w'.cell? ⟨b, off + i * 5 + 1, none⟩ = some (.int .i64 rc') ∧ w'.cell? ⟨b, off + i * 5 + 2, none⟩ = some (.int .i64 rf) ∧ w'.cell? ⟨b, off + i * 5 + 3, none⟩ = some (.int .i64 rl) ∧ w'.cell? ⟨b, off + i * 5 + 4, none⟩ = some (.int .i64 rn) ∧ Below wr.heap.size wr w')
              ((first | exact held2O (by assumption) (by assumption) | exact H0))
              ((go_at_call 25; (with_reducible refine (K.out _).mono ?_); rintro e w' ⟨rfl, hb⟩))
            rename_i hH2
            obtain ⟨_, _, _, _, _, _, _, _, _, _, hb3⟩ := hH2
            have HR3 := Lib.hid (HR2.out.below hb3 hsz)
            have HK3 := Lib.hid (HK2.out.keep hb3)
            clear hb3 HR2 HK2 H0 K
            go_wp2
            go_roundw
            case rel => exact ⟨k + 1, by omega, by go_num, HR3, HK3, hTh⟩
            case measure => simp [intOf]; omega
          · rw [hm] at K
            have hsh := HSi.out.trans (hHh.out hm)
            clear hm hHh hTh
            go_wp2_with fail
            go_region_held3 (fun w' => w'.cell? ⟨b, off + k * 5, none⟩ = some (.string es) ∧ w'.cell? ⟨b, off + k * 5 + 1, none⟩ = some (.int .i64 ec) ∧ w'.cell? ⟨b, off + k * 5 + 2, none⟩ = some (.int .i64 ef) ∧ w'.cell? ⟨b, off + k * 5 + 3, none⟩ = some (.int .i64 el) ∧ w'.cell? ⟨b, off + k * 5 + 4, none⟩ = some (.int .i64 en) ∧ w'.cell? ⟨b, off + i * 5, none⟩ = some (.string rs) ∧ w'.cell? ⟨b, off + i * 5 + 1, none⟩ = some (.int .i64 rc') ∧ w'.cell? ⟨b, off + i * 5 + 2, none⟩ = some (.int .i64 rf) ∧ w'.cell? ⟨b, off + i * 5 + 3, none⟩ = some (.int .i64 rl) ∧ w'.cell? ⟨b, off + i * 5 + 4, none⟩ = some (.int .i64 rn) ∧ Below wr.heap.size wr w')
              ((first | exact held2O (by assumption) (by assumption) | exact H0))
              ((go_at_call 25; (with_reducible refine (K.out _).mono ?_); rintro e w' ⟨rfl, hb⟩))
            rename_i hH2
            obtain ⟨_, _, _, _, _, _, _, _, _, _, hb3⟩ := hH2
            have HK3 := Lib.hid (HK2.out.keep hb3)
            have hsz3 := HK3.out.below.size
            have HG := Lib.hid (fun v5 w5 hr hg => HK3.out.yes (v' := v5) (w' := w5) (o := .cells #[.int .i64 (i : Int)] 3) hsh hr hg)
            have hrow := HK3.out.row
            clear hb3 HR2 HK2 H0 K hb HR
            go_wp2_with (at_builtin; refine wpList_append_own _ rfl (.tmp 26) (.tmp 28) 22 rfl w.heap.size 3 i0 (.int .i64 0) 1 8 Tryd.underlying22 hii hz0 hz1 hz2 rfl (by decide) _ (shK L i).length (rc (shK L i)) rfl (hrow.alloc _) ⟨w'.heap.size, 0, none⟩ 1 1 [.int .i64 (i : Int)] rfl rfl (rcCell _ _ _) (rcOne _) (by unfold maxLen; omega) (by omega) (by simp; omega) ?_; intro v4 w4 hv4 hg4 _)
            have HK4 := Lib.hid (HG.out v4 w4 hv4 hg4)
            have HR4 := Lib.hid (HRI.out.below HK4.out.below (Nat.le_refl _))
            clear HG hrow hv4 hg4 HK3
            go_wp2
            go_roundw
            case rel => exact ⟨i + 1, by omega, by go_num, HR4, HK4⟩
            case measure => simp [intOf]; omega
        · obtain rfl : k = i := by omega
          have HK3 := Lib.hid (HK2.out.no (HSi.out.trans HN.out))
          clear HK2 HN HS HLz HT HH HI HSi
          go_wp2
          go_roundw
          case rel => exact ⟨k + 1, by omega, by go_num, HR2, HK3⟩
          case measure => simp [intOf]; omega
    · obtain rfl : i = L.length := by omega
      have HF := Lib.hid HK.out
      clear HR HK
      go_wp2
      go_ret
      exact ⟨_, rfl, HF.out⟩
end Go.Proofs.YtfkbohfelacaoaaDoor

