/-
  Layer 3: the contract of the reference's Fill. Every input; no condition.
-/
import Derived.Test.YtbhgkifalihheaaShFillP
import Derived.Deep.QuietTactic
import Derived.BigQuiet
namespace Go.Proofs.Ytbhgkifalihheaa
open Go.ChangeShapes Go.WideShapes Go.ChangeAt Go.RowKit
set_option linter.unusedVariables false

/-- The cells of the pairs at the positions of a list. -/
def flatL (I V : Nat → Int) : List Nat → List Value
  | [] => []
  | p :: l => .int .i64 (I p) :: .int .i64 (V p) :: flatL I V l
theorem flatL_append (I V : Nat → Int) (l : List Nat) (p : Nat) : flatL I V (l ++ [p]) = flatL I V l ++ [.int .i64 (I p), .int .i64 (V p)] := by
  induction l with
  | nil => rfl
  | cons q l ih => simp only [List.cons_append, flatL, ih]
theorem flatL_at (I V : Nat → Int) (l : List Nat) : ∀ j, j < l.length * 2 → (flatL I V l)[j]? = some (prs (fun k => I (l.getD k 0)) (fun k => V (l.getD k 0)) j) := by
  induction l with
  | nil => intro j hj; simp at hj
  | cons p l ih =>
    intro j hj
    rcases (by omega : j = 0 ∨ j = 1 ∨ 2 ≤ j) with rfl | rfl | h
    · rfl
    · rfl
    · obtain ⟨i, rfl⟩ : ∃ i, j = i + 2 := ⟨j - 2, by omega⟩
      show (flatL I V l)[i]? = _
      rw [ih i (by simp at hj; omega)]
      unfold prs
      rw [show (i + 2) % 2 = i % 2 by omega, show (i + 2) / 2 = i / 2 + 1 by omega]
      rfl
theorem Prs.of_list {w : World} {base : Nat} {t : TypeId} {A : Option Addr} {c n : Nat} {l : List Nat} {I V : Nat → Int} (hn : l.length = n) (h : w.ownsRow base t 2 (.slice A n c) n (flatL I V l)) : Prs w base w.heap.size A n (fun k => I (l.getD k 0)) (fun k => V (l.getD k 0)) := by
  intro j hj
  rcases h.2 with ⟨hv, hn⟩ | ⟨g, cap, cur, hv, hg, hh, hn, _, hc, htake⟩
  · omega
  · simp only [Value.slice.injEq] at hv
    obtain ⟨rfl, _, rfl⟩ := hv
    refine ⟨g, 0, rfl, hg, lt_of_block hh, ?_⟩
    rw [cell_of_row w g (0 + j) cur t (0, 0) hh, Nat.zero_add]
    have := flatL_at I V l j (by omega)
    rw [← htake, List.getElem?_take, if_pos hj] at this
    simpa using this
/-- A row of another element type stays while one grows. -/
theorem own_beside {w w' : World} {base base' : Nat} {e e' : TypeId} {s s' n n' : Nat} {v v' : Value} {xs xs' : List Value} (h : w.ownsRow base e s v n xs) (h' : w.ownsRow base' e' s' v' n' xs') (hg : w.grownBy w' v'.ownBlock) (hne : e ≠ e') : w'.ownsRow base e s v n xs := by
  obtain ⟨h1, h2⟩ := h
  refine ⟨h1, ?_⟩
  rcases h2 with h2 | ⟨g, cap, cur, hv, hb, hh, r⟩
  · exact .inl h2
  · refine .inr ⟨g, cap, cur, hv, hb, (hg.block g (lt_of_block hh) ?_).trans hh, r⟩
    rcases h'.2 with ⟨rfl, _⟩ | ⟨g', cap', cur', rfl, _, hh', _⟩
    · simp [Value.ownBlock]
    · intro he
      have hgg : g = g' := by simpa [Value.ownBlock] using he
      subst hgg
      rw [hh] at hh'
      simp at hh'
      exact hne hh'.2
/-- The open parts are valid. -/
theorem open_valid {n : Nat} {I V G C : Nat → Int} (hval : VParts n I V) : VParts (opens G C n).length (fun k => I (opAt G C n k)) (fun k => V (opAt G C n k)) := by
  refine ⟨by have := hval.1; have := opens_len G C n; omega, fun k hk => ?_⟩
  obtain ⟨p1, p2, p3, p4⟩ := hval.2 _ (opAt_mem hk).1
  refine ⟨p1, fun h0 => ?_, p3, p4⟩
  have h1 := opens_lt G C n (k - 1) k (by omega) hk
  have hmono : ∀ q p, p < q → q < n → I p < I q := by
    intro q
    induction q with
    | zero => intro p h; omega
    | succ q ih =>
      intro p hpq hq
      have hs := (hval.2 (q + 1) hq).2.1 (by omega)
      rw [show q + 1 - 1 = q by omega] at hs
      rcases (by omega : p = q ∨ p < q) with rfl | h
      · exact hs
      · have := ih p h (by omega); omega
  exact hmono _ _ h1 (opAt_mem hk).1
theorem refSplit_open {n : Nat} {I V G C : Nat → Int} {r : Int} (hval : VParts n I V) (hi : Fits n I) (r0 : -9223372036854775808 ≤ r) (r1 : r ≤ 9223372036854775807) (hm : 0 < (opens G C n).length) (A : Option Addr) (c : Nat) (w : World)
    (hp : Prs w 0 w.heap.size A (opens G C n).length (fun k => I (opAt G C n k)) (fun k => V (opAt G C n k))) :
    Calls Try.prog 21 #[.int .i64 r, .slice A (opens G C n).length c] w fun e w' => ∃ (A2 : Option Addr) (c2 : Nat), e = .returned (.tuple #[.slice A2 (opens G C n).length c2, .int .i64 0]) ∧
      Nums w' w.heap.size w'.heap.size A2 (opens G C n).length (spl r (fun k => V (opAt G C n k)) (opens G C n).length) ∧ Below w.heap.size w w' := by
  have hval' := open_valid (G := G) (C := C) hval
  have hl := opens_len G C n
  have h := refSplit_any r A (opens G C n).length c (fun k => I (opAt G C n k)) (fun k => V (opAt G C n k)) w r0 r1 (by have := hval.1; omega) (fun k hk => hi _ (opAt_mem hk).1) (fun k hk => by
    have h2 : 1 ≤ V (opAt G C n k) ∧ V (opAt G C n k) ≤ 2147483648 := (hval'.2 k hk).2.2
    show -9223372036854775808 ≤ V (opAt G C n k) ∧ V (opAt G C n k) ≤ 9223372036854775807
    omega) hp
  unfold SplitTo spLen spErr at h
  rw [if_pos hval', if_pos hval', if_neg (by omega)] at h
  exact h
set_option maxRecDepth 100000 in
set_option maxHeartbeats 8000000 in
theorem refFill_any (a : Int) (A D : Option Addr) (n nc ca cd : Nat) (I V C : Nat → Int) (w : World) (a1 : a ≤ 9223372036854775807) (hn : n ≤ 9223372036854775807) (hnc : nc ≤ 9223372036854775807) (hi : Fits n I) (hv : Fits n V) (hfc : Fits nc C) (hp : Prs w 0 w.heap.size A n I V) (hd : Nums w 0 w.heap.size D nc C) :
    Calls Try.prog 25 #[.int .i64 a, .slice A n ca, .slice D nc cd] w (FillAns a n nc I V C w) := by
  have HV := Lib.hid (refValid_any A n ca I V w hn hi hv hp)
  by_cases hok : VParts n I V ∧ nc = n ∧ 0 ≤ a
  · obtain ⟨hval, rfl, a0⟩ := hok
    rw [vparts_yes hval] at HV
    have ha0 : ¬ a < 0 := by omega
    have hn64 := hval.1
    have hnn : ((nc : Int) != (nc : Int)) = false := by simp
    have HVAL := Lib.hid hval
    have HI := Lib.hid hi
    have HFC := Lib.hid hfc
    obtain ⟨i0, hii, hz0, hz1, hz2⟩ := info_parts infoInt64
    clear hval hi hv hfc
    go_enter Try.func25, Try.ntmps25
    go_wp2_with fail
    (with_reducible refine HV.out.mono ?_)
    rintro e w1 ⟨rfl, hb1⟩
    go_wp2_with fail
    go_loop [9] (fun i => ∃ k : Nat, k ≤ nc ∧ i = .int .i64 k ∧ (∀ j, j < k → 0 ≤ C j ∧ C j ≤ 2199023255552)) (fun i => nc - (intOf i).toNat)
    case atStart => exact ⟨0, Nat.zero_le _, rfl, fun j hj => by omega⟩
    case round =>
      obtain ⟨k, hk, rfl, hokc⟩ := hrel
      by_cases hlt : k < nc
      · obtain ⟨b, off, rfl, _, hb, c1⟩ := Nums.at_ (Cells.below hd hb1 (Nat.le_refl _)) hlt
        obtain ⟨q0, q1⟩ := HFC.out k hlt
        have HOK := Lib.hid hokc
        clear hd hp hokc
        by_cases h1 : C k < 0
        · have HE := Lib.hid (FillAns.bad (a := a) (n := nc) (nc := nc) (I := I) (V := V) (C := C) (fun h => by have := h.2.2.1 k hlt; omega) hb1)
          go_wp2
          go_ret3
          exact HE.out
        · by_cases h2 : 2199023255552 < C k
          · have HE := Lib.hid (FillAns.bad (a := a) (n := nc) (nc := nc) (I := I) (V := V) (C := C) (fun h => by have := h.2.2.1 k hlt; omega) hb1)
            go_wp2
            go_ret3
            exact HE.out
          · have h3 : Hid (0 ≤ C k ∧ C k ≤ 2199023255552) := by constructor <;> omega
            go_wp2
            go_round
            case rel => exact ⟨k + 1, by omega, by go_num, fun j hj => by
              rcases (by omega : j < k ∨ j = k) with h | rfl
              · exact HOK.out j h
              · exact h3.out⟩
            case measure => simp [intOf]; omega
      · obtain rfl : nc = k := by omega
        have hcap : VCaps nc C := hokc
        have HD := Lib.hid (fun (w' : World) (g j : Nat) => FillAns.done (a := a) (nc := nc) (I := I) (V := V) (C := C) (w := w) (w' := w') (g := g) (j := j) ⟨HVAL.out, rfl, hcap, a0⟩)
        have HIT := Lib.hid (fun j => fillIt_ok (C := C) (V := V) (n := nc) (a := a) a0 a1 hn64 (fun i hi => (HVAL.out.2 i hi).2.2) (fun i hi => (hcap i hi).1) j)
        have HLESS := Lib.hid (fun s => fillRnd_ok (C := C) (V := V) (n := nc) (a := a) (s := s) a1 hn64 (fun i hi => (HVAL.out.2 i hi).2.2))
        have HCAP := Lib.hid hcap
        have HP := Lib.hid hp
        have HDD := Lib.hid hd
        clear hcap hokc hp hd
        go_wp2_with (at_make; refine wpList_make_full _ rfl _ _ 31 rfl w.heap.size 2 i0 (.int .i64 0) 1 Try.underlying31 hii hz0 hz1 .i64 .i64 _ _ nc rfl rfl rfl rfl (by rw [hz2]; omega) (by unfold maxLen; omega) hb1.size ?_; intro w3 hown hg)
        have hgs := hb1.size
        have hrow := Row.of_make (cap := nc) hown
        have hb3 := hb1.grown hg hb1.size (by intro k hk; cases hk)
        clear hown hg hb1
        generalize w1.heap.size = g at *
        go_loopw [11] (fun r wr => ∃ j : Nat, r = .int .i64 (fillIt C V nc a j).2 ∧ Row wr g 2 nc (fillIt C V nc a j).1 ∧ (∀ i, i < j → ¬ fillEnd C nc (fillIt C V nc a i)) ∧ Below w.heap.size w wr) (fun r _ => (intOf r).toNat)
        case atStart => exact ⟨0, rfl, hrow, fun i hi => by omega, hb3⟩
        case round =>
          obtain ⟨wo, rfl⟩ : ∃ wo : World, wo = wr := ⟨_, rfl⟩
          obtain ⟨j, rfl, hX, hfirst, hB⟩ := hrel
          clear hrow hb3
          have hfo := HIT.out j hfirst
          have HFI := Lib.hid hfirst
          clear hfirst
          have hs2 : Hid (fillIt C V nc a (j + 1) = fillRnd C V nc (fillIt C V nc a j)) := rfl
          have HFO := Lib.hid hfo
          have hr1 := hfo.2.2.1
          clear hfo
          by_cases hr : 0 < (fillIt C V nc a j).2
          · obtain ⟨s, hss⟩ : ∃ s, s = fillIt C V nc a j := ⟨_, rfl⟩
            rw [← hss] at hX HFO hr hr1
            rw [← hss]
            have HSS := Lib.hid hss
            clear hss
            obtain ⟨i1, hii', hy0, hy1, hy2⟩ := info_parts info_part
            obtain ⟨i2, hij', hx0, hx1, hx2⟩ := info_parts infoInt
            have hwo := hB.size
            have hglt := hX.lt
            go_wp2
            go_loopw [12, 13, 14] (fun v u i w2 => ∃ k : Nat, k ≤ nc ∧ i = .int .i64 k ∧ w2.ownsRow wo.heap.size 39 2 v (opens s.1 C k).length (flatL I V (opens s.1 C k)) ∧ w2.ownsRow wo.heap.size 3 1 u (opens s.1 C k).length (posVals (opens s.1 C k)) ∧ Below wo.heap.size wo w2) (fun _ _ i _ => nc - (intOf i).toNat)
            case atStart => exact ⟨0, Nat.zero_le _, rfl, World.ownsRow_nil _ _ _ _, World.ownsRow_nil _ _ _ _, Below.refl _ _⟩
            case round =>
              obtain ⟨k, hk, rfl, hv1, hv2, hB2⟩ := hrel
              have hBw := hB.trans (hB2.mono hwo)
              by_cases hlt : k < nc
              · obtain ⟨b, off, rfl, _, hb, c1⟩ := Nums.at_ (Cells.below HDD.out hBw (Nat.le_refl _)) hlt
                obtain ⟨b2, off2, rfl, _, hb2, c2, c3⟩ := Prs.at_ (Cells.below HP.out hBw (Nat.le_refl _)) hlt
                have hX2 := hX.below hB2 hglt
                have c4 := hX2.cell hlt
                have hl := opens_len s.1 C k
                have hw2 := hB2.size
                clear hX2 hBw
                by_cases h1 : s.1 k < C k
                · have HO : Hid (opens s.1 C (k + 1) = opens s.1 C k ++ [k]) := by show (if s.1 k < C k then _ else _) = _; rw [if_pos h1]
                  go_wp2
                  go_quiet (fail)
                  generalize hw7 : World.drewN _ _ = w7
                  have d2 : w7.cell? ⟨b2, off2 + k * 2, none⟩ = some (.int .i64 (I k)) := by rw [← hw7]; exact c2
                  have d3 : w7.cell? ⟨b2, off2 + k * 2 + 1, none⟩ = some (.int .i64 (V k)) := by rw [← hw7]; exact c3
                  have hv1' : w7.ownsRow wo.heap.size 39 2 u12 (opens s.1 C k).length (flatL I V (opens s.1 C k)) := by rw [← hw7]; exact hv1
                  have hv2' : w7.ownsRow wo.heap.size 3 1 u13 (opens s.1 C k).length (posVals (opens s.1 C k)) := by rw [← hw7]; exact hv2
                  have hB7 : Below wo.heap.size wo w7 := by rw [← hw7]; exact Below_drewN hB2 _
                  have hs7 := hB7.size
                  clear hw7 hv1 hv2 hB2 c1 c2 c3 c4 hw2
                  have ho1 := hv1'.alloc (.cells #[.int .i64 (I k), .int .i64 (V k)] 39)
                  go_wp2_with (first
                    | (at_builtin; refine wpList_append_own _ rfl (.tmp 72) (.tmp 77) 23 rfl wo.heap.size 39 i1 (.agg #[.int .i64 0, .int .i64 0]) 2 16 Try.underlying23 hii' hy0 hy1 hy2 rfl (by decide) _ (opens s.1 C k).length (flatL I V (opens s.1 C k)) rfl ho1 ⟨w7.heap.size, 0, none⟩ 1 1 [.int .i64 (I k), .int .i64 (V k)] rfl rfl (cells2 _ _ _ _) (one2 _ _) (by unfold maxLen; omega) (by omega) (by simp; omega) ?_; intro v8 w8 hown8 hg8 _; have hB8 := (hB7.alloc hs7 _).grown hg8 (by simp; omega) (own_block ho1); have hs8 := hB8.size; have ho2 := (own_beside (hv2'.alloc _) ho1 hg8 (by decide)).alloc (.cells #[.int .i64 (k : Int)] 3); have ho8 := Lib.hid (hown8.alloc (.cells #[.int .i64 (k : Int)] 3)); clear hg8 hown8 ho1)
                    | (at_builtin; refine wpList_append_own _ rfl (.tmp 79) (.tmp 81) 22 rfl wo.heap.size 3 i2 (.int .i64 0) 1 8 Try.underlying22 hij' hx0 hx1 hx2 rfl (by decide) _ (opens s.1 C k).length (posVals (opens s.1 C k)) rfl ho2 ⟨w8.heap.size, 0, none⟩ 1 1 [.int .i64 (k : Int)] rfl rfl (cells1 _ _ _) (one1 _) (by unfold maxLen; omega) (by omega) (by simp; omega) ?_; intro v9 w9 hown9 hg9 _; have hB9 := (hB8.alloc hs8 _).grown hg9 (by simp; omega) (own_block ho2); have ho9 := own_beside ho8.out ho2 hg9 (by decide); clear hg9 ho2 ho8))
                  have p1 : w9.ownsRow wo.heap.size 39 2 v8 (opens s.1 C (k + 1)).length (flatL I V (opens s.1 C (k + 1))) := by
                    rw [HO.out, flatL_append, List.length_append]; exact ho9
                  have p2 : w9.ownsRow wo.heap.size 3 1 v9 (opens s.1 C (k + 1)).length (posVals (opens s.1 C (k + 1))) := by
                    rw [HO.out]; unfold posVals; rw [List.map_append, List.length_append]; exact hown9
                  clear ho9 hown9
                  go_wp2
                  go_roundw
                  case rel => exact ⟨k + 1, by omega, by go_num, p1, p2, hB9⟩
                  case measure => simp [intOf]; omega
                · have HO : Hid (opens s.1 C (k + 1) = opens s.1 C k) := by show (if s.1 k < C k then _ else _) = _; rw [if_neg h1]
                  go_wp2
                  go_quiet (fail)
                  go_wp2
                  go_roundw
                  case rel => exact ⟨k + 1, by omega, by go_num, by rw [HO.out]; exact hv1, by rw [HO.out]; exact hv2, Below_drewN hB2 _⟩
                  case measure => simp [intOf]; omega
              · obtain rfl : nc = k := by omega
                obtain ⟨A4, c4, rfl⟩ := own_shape hv1
                obtain ⟨A5, c5, rfl⟩ := own_shape hv2
                have hw2 := hB2.size
                have hX2 := hX.below hB2 hglt
                by_cases hm : (opens s.1 C nc).length = 0
                · have HFIN := Lib.hid (FillAns.done (a := a) (nc := nc) (I := I) (V := V) (C := C) (j := j) ⟨HVAL.out, rfl, HCAP.out, a0⟩ hgs (by rw [← HSS.out]; exact hX2) hBw (by rw [← HSS.out]; exact .inr hm) HFI.out)
                  rw [← HSS.out] at HFIN
                  have hm0 : (((opens s.1 C nc).length : Int) == 0) = true := by rw [hm]; rfl
                  clear hm hX2 hBw hB2 hv1 hv2 hX hB hs2
                  go_wp2
                  go_ret3
                  exact HFIN.out
                · have hne : ¬ fillEnd C nc s := by
                    rintro (h | h)
                    · omega
                    · exact hm h
                  have HFL := Lib.hid (HLESS.out s HFO.out hne)
                  have HNE := Lib.hid hne
                  have hm' : (((opens s.1 C nc).length : Int) == 0) = false := beq_eq_false_iff_ne.2 (by omega)
                  have HF := Lib.hid (round_facts a1 hn64 (fun i hi => (HVAL.out.2 i hi).2.2) HFO.out hne)
                  have HLT := Lib.hid (opens_lt s.1 C nc)
                  have hpo : Prs wr 0 wr.heap.size A4 (opens s.1 C nc).length (fun k => I (opAt s.1 C nc k)) (fun k => V (opAt s.1 C nc k)) := Cells.wider (Prs.of_list rfl hv1) (Nat.zero_le _) (Nat.le_refl _)
                  have hat : Nums wr wo.heap.size wr.heap.size A5 (opens s.1 C nc).length (fun k => (opAt s.1 C nc k : Int)) := Nums.of_own hv2
                  have HSP := Lib.hid (refSplit_open (r := s.2) HVAL.out HI.out (by omega) (by omega) (by omega) A4 c4 wr hpo)
                  have hdw := Cells.below HDD.out hBw (Nat.le_refl _)
                  have hRN : Hid (fillRnd C V nc s = fillTo C (opAt s.1 C nc) (spl s.2 (fun k => V (opAt s.1 C nc k)) (opens s.1 C nc).length) s.1 s.2 (opens s.1 C nc).length) := rfl
                  have hlen := opens_len s.1 C nc
                  clear hm hne hpo hv1 hv2 hX hB hB2
                  generalize hM : (opens s.1 C nc).length = m at *
                  generalize hPP : opAt s.1 C nc = at_ at *
                  clear hM hPP
                  obtain ⟨w2, rfl⟩ : ∃ w2 : World, w2 = wr := ⟨_, rfl⟩
                  go_wp2_with fail
                  (with_reducible refine HSP.out.mono ?_)
                  rintro e w5 ⟨A2, c2, rfl, hn2, hb5⟩
                  have hB5 := hBw.trans (hb5.mono hBw.size)
                  have hX5 := hX2.below hb5 hX2.lt
                  have ho5 := Cells.below hat hb5 (Nat.le_refl _)
                  have hd5 := Cells.below hdw hb5 hBw.size
                  have hs5 := hb5.size
                  have hsw := hBw.size
                  clear hX2 hb5 hBw hat hdw HSP
                  go_wp2_with fail
                  obtain ⟨_, _, f3, f4, f5⟩ := HF.out
                  have HF3 := Lib.hid f3
                  have HF4 := Lib.hid f4
                  have HF5 := Lib.hid f5
                  clear f3 f4 f5 HF
                  have hB5z : Only g w5 w5 := Only.refl _ _
                  have hgw2 : g < w2.heap.size := by have := hX5.lt; omega
                  go_loopw [11, 17] (fun q i wq => ∃ k : Nat, k ≤ m ∧ i = .int .i64 k ∧ q = .int .i64 (fillTo C at_ (spl s.2 (fun k => V (at_ k)) m) s.1 s.2 k).2 ∧ Row wq g 2 nc (fillTo C at_ (spl s.2 (fun k => V (at_ k)) m) s.1 s.2 k).1 ∧ Only g w5 wq) (fun _ i _ => m - (intOf i).toNat)
                  case atStart => exact ⟨0, Nat.zero_le _, rfl, rfl, hX5, Only.refl _ _⟩
                  case round =>
                    obtain ⟨k, hk, rfl, rfl, hX, hO⟩ := hrel
                    clear hX5 hB5z
                    have hfo := fillTo_ok (C := C) (X := spl s.2 (fun k => V (at_ k)) m) (G := s.1) (at_ := at_) (r := s.2) (a := a) (n := nc) (fun k hk => (HF3.out k hk).1) HLT.out (fun k hk => (HF4.out k hk).1) HF5.out HFO.out.1 HFO.out.2.2.2 HFO.out.2.2.1 k hk
                    have hfs : Hid (fillTo C at_ (spl s.2 (fun k => V (at_ k)) m) s.1 s.2 (k + 1) = (upd (fillTo C at_ (spl s.2 (fun k => V (at_ k)) m) s.1 s.2 k).1 (at_ k) ((fillTo C at_ (spl s.2 (fun k => V (at_ k)) m) s.1 s.2 k).1 (at_ k) + min (spl s.2 (fun k => V (at_ k)) m k) (C (at_ k) - (fillTo C at_ (spl s.2 (fun k => V (at_ k)) m) s.1 s.2 k).1 (at_ k))), (fillTo C at_ (spl s.2 (fun k => V (at_ k)) m) s.1 s.2 k).2 - min (spl s.2 (fun k => V (at_ k)) m k) (C (at_ k) - (fillTo C at_ (spl s.2 (fun k => V (at_ k)) m) s.1 s.2 k).1 (at_ k)))) := rfl
                    by_cases hlt : k < m
                    · have hat := (HF3.out k hlt).1
                      have hx4 := HF4.out k hlt
                      have hcp := HCAP.out _ hat
                      have hgb := hfo.1 _ hat
                      have hrb : (fillTo C at_ (spl s.2 (fun k => V (at_ k)) m) s.1 s.2 k).2 ≤ 9223372036854775807 := by have := hfo.2.2.1; omega
                      have hrb0 : 0 ≤ (fillTo C at_ (spl s.2 (fun k => V (at_ k)) m) s.1 s.2 k).2 := by
                        have h1 := hfo.2.1
                        have h2 := sumTo_mono hk (fun k hk => (HF4.out k hk).1)
                        have h3 := HF5.out
                        omega
                      have hl2 := hO.size
                      obtain ⟨b1, off1, rfl, _, hbb1, c1⟩ := Nums.at_ (Cells.only ho5 hO (by omega) (by omega)) hlt
                      obtain ⟨b2, off2, rfl, _, hbb2, c2'⟩ := Nums.at_ (Cells.only hn2 hO (by omega) (Nat.le_refl _)) hlt
                      obtain ⟨b3, off3, rfl, _, hbb3, c3⟩ := Nums.at_ (Cells.only hd5 hO (by omega) (by omega)) hat
                      have c4' := hX.cell hat
                      have f4 := hX.frozen (at_ k)
                      have hati : (at_ k : Int) < nc := by omega
                      clear hfo ho5 hn2 hd5
                      generalize fillTo C at_ (spl s.2 (fun k => V (at_ k)) m) s.1 s.2 k = t at *
                      generalize spl s.2 (fun k => V (at_ k)) m k = x at *
                      have hat_ : at_ k < nc := hat
                      go_wp2
                      go_region
                      go_wp2
                      go_roundw
                      case rel => exact ⟨k + 1, by omega, by go_num, by rw [hfs.out], by rw [hfs.out]; exact (hX.set_ hat _).drew, (hO.trans (Only.setCell g _ _ _)).drew⟩
                      case measure => simp [intOf]; omega
                    · obtain rfl : m = k := by omega
                      have hBe := hB5.trans ((hO.below (by omega)).mono hgs)
                      have h1 : (fillRnd C V nc s).2 < s.2 := HFL.out.2
                      rw [hRN.out] at h1
                      have HL1 := Lib.hid h1
                      clear hfo ho5 hn2 hd5 hfs hO hB5 h1
                      go_wp2
                      go_roundw
                      case rel => exact ⟨j + 1, by rw [hs2.out, ← HSS.out, hRN.out], by rw [hs2.out, ← HSS.out, hRN.out]; exact hX, fun i hi => by
                        rcases (by omega : i < j ∨ i = j) with h | rfl
                        · exact HFI.out i h
                        · rw [← HSS.out]; exact HNE.out, hBe⟩
                      case measure =>
                        have h1 := HL1.out
                        show (fillTo C at_ (spl s.2 (fun k => V (at_ k)) m) s.1 s.2 m).2.toNat < s.2.toNat
                        omega
          · have HFIN := Lib.hid (HD.out wo g j hgs hX hB (.inl (by omega)) HFI.out)
            clear hs2
            generalize fillIt C V nc a j = s at *
            go_wp2
            go_ret3
            exact HFIN.out
  · have HE := Lib.hid (fun (w' : World) (hb : Below w.heap.size w w') => FillAns.bad (a := a) (n := n) (nc := nc) (I := I) (V := V) (C := C) (fun h => hok ⟨h.1, h.2.1, h.2.2.2⟩) hb)
    by_cases hval : VParts n I V
    · rw [vparts_yes hval] at HV
      by_cases hl : nc = n
      · have ha : a < 0 := by
          rcases (by omega : a < 0 ∨ 0 ≤ a) with h | h
          · exact h
          · exact absurd ⟨hval, hl, h⟩ hok
        subst hl
        have hnn : ((nc : Int) != (nc : Int)) = false := by simp
        clear hok hi hv hp hd hval hfc
        go_enter Try.func25, Try.ntmps25
        go_wp2_with fail
        (with_reducible refine HV.out.mono ?_)
        rintro e w1 ⟨rfl, hb1⟩
        go_wp2
        go_ret3
        exact HE.out _ hb1
      · have hl' : ((nc : Int) != (n : Int)) = true := by rw [bne_iff_ne]; omega
        clear hok hi hv hp hd hval hl hfc
        go_enter Try.func25, Try.ntmps25
        go_wp2_with fail
        (with_reducible refine HV.out.mono ?_)
        rintro e w1 ⟨rfl, hb1⟩
        go_wp2
        go_ret3
        exact HE.out _ hb1
    · rw [vparts_no hval] at HV
      clear hok hi hv hp hd hval hfc
      go_enter Try.func25, Try.ntmps25
      go_wp2_with fail
      (with_reducible refine HV.out.mono ?_)
      rintro e w1 ⟨rfl, hb1⟩
      go_wp2
      go_ret3
      exact HE.out _ hb1
end Go.Proofs.Ytbhgkifalihheaa
