/-
  Layer 9: Has on a list of numbers; the walk of RulesShadowed.
-/
import Derived.Test.YtfkbohfelacaoaaDoorRuShd
import Derived.Test.YtfkbohfelacaoaaDoorRuClsW
import Derived.Test.YtfkbohfelacaoaaDoorEqInt
namespace Go.Proofs.YtfkbohfelacaoaaDoor
open Go.ChangeShapes Go.WideShapes Go.ChangeAt Go.RowKit
set_option linter.unusedVariables false

set_option maxHeartbeats 1000000 in
theorem has_int (A : Option Addr) (n c : Nat) (X : Nat → Int) (L B : Nat) (x : Int) (b : Bool) (hb : b = true ↔ ∃ k, k < n ∧ X k = x) (w : World) (hn : n ≤ 9223372036854775807) (ha : Nums w L B A n X) :
    Calls Tryd.prog 29 #[.slice A n c, .int .i64 x] w (BoolAns b w) := by
  have HB := Lib.hid hb
  clear hb
  unfold BoolAns
  go_enter Tryd.func29, Tryd.ntmps29
  go_wp2
  go_loopw [5] (fun i wr => ∃ k : Nat, k ≤ n ∧ i = .int .i64 k ∧ Hid (∀ j, j < k → ¬ X j = x) ∧ ∃ q, wr = w.drewN q) (fun i _ => n - (intOf i).toNat)
  case atStart => exact ⟨0, Nat.zero_le _, rfl, Lib.hid (fun j hj => by omega), 0, rfl⟩
  case round =>
    obtain ⟨k, hk, rfl, HN, q, rfl⟩ := hrel
    by_cases hlt : k < n
    · obtain ⟨b', off, rfl, _, _, c1⟩ := Nums.at_ ha hlt
      by_cases e : X k = x
      · have HR := Lib.hid (HB.out.2 ⟨k, hlt, e⟩)
        have d1 : (X k == x) = true := by rw [beq_iff_eq]; exact e
        clear HB HN ha e
        generalize X k = y at *
        go_wp2
        try go_quiet (fail)
        try go_wp2
        go_ret
        first
          | exact ⟨ret_bool HR.out.symm, Below_drewN (Below.refl _ _) _⟩
          | exact ⟨ret_bool HR.out.symm, (Below_drewN (Below.refl _ _) _).drew⟩
      · have d1 : (X k == x) = false := by rw [beq_eq_false_iff_ne]; exact e
        have HN2 := Lib.hid (show ∀ j, j < k + 1 → ¬ X j = x from fun j hj => by
          rcases Nat.lt_succ_iff_lt_or_eq.1 hj with h | rfl
          · exact HN.out j h
          · exact e)
        clear e HN
        generalize X k = y at *
        go_wp2
        try go_quiet (fail)
        try go_wp2
        go_roundw
        case rel => exact ⟨k + 1, by omega, by go_num, HN2, _, rfl⟩
        case measure => simp [intOf]; omega
    · obtain rfl : k = n := by omega
      have HR := Lib.hid (show b = false by
        cases h : b
        · rfl
        · obtain ⟨j, h1, h2⟩ := HB.out.1 h; exact absurd h2 (HN.out j h1))
      clear ha HB HN
      go_wp2
      go_ret
      exact ⟨ret_bool HR.out.symm, Below_drewN (Below.refl _ _) q⟩
/-- The numbers of an own row. -/
def shX (N : List Nat) (k : Nat) : Int := ((N.getD k 0 : Nat) : Int)
theorem own_nums {w : World} {base c : Nat} {A : Option Addr} {N : List Nat} (h : w.ownsRow base 3 1 (.slice A N.length c) N.length (rc N)) : Nums w 0 w.heap.size A N.length (shX N) := fun j hj => by
  obtain ⟨b, off, e, k⟩ := (own_LC h).at hj
  refine ⟨b, off, e, Nat.zero_le _, cell_lt k, ?_⟩
  have : shX N j = (N[j] : Int) := by unfold shX; rw [List.getD_eq_getElem?_getD, List.getElem?_eq_getElem hj]; rfl
  show _ = some (Value.int .i64 (shX N j))
  rw [this]; exact k
theorem shX_mem {N : List Nat} {i : Nat} : (∃ k, k < N.length ∧ shX N k = (i : Int)) ↔ i ∈ N := by
  constructor
  · rintro ⟨k, hk, e⟩
    have : shX N k = (N[k] : Int) := by unfold shX; rw [List.getD_eq_getElem?_getD, List.getElem?_eq_getElem hk]; rfl
    rw [this] at e
    have e' : N[k] = i := by omega
    rw [← e']; exact List.getElem_mem _
  · intro h
    obtain ⟨k, hk, e⟩ := List.getElem_of_mem h
    refine ⟨k, hk, ?_⟩
    unfold shX; rw [List.getD_eq_getElem?_getD, List.getElem?_eq_getElem hk, e]; rfl
theorem RL.more {B : Nat} {A : Option Addr} {len cap K : Nat} {w0 w w4 : World} {base : Nat} {l : List Rul} {v v' : Value} {st : ByteArray} {c f m n : Int} (h : RL B A len cap K w0 base l v w) (hg : ruOk ⟨st, c, f, m, n⟩ = true ∧ st.size ≤ 24)
    (hr : w4.ownsRow base 29 5 v' (l.length + 1) (rcs l ++ rc5 ⟨st, c, f, m, n⟩)) (hgr : (w.alloc (.cells #[.string st, .int .i64 c, .int .i64 f, .int .i64 m, .int .i64 n] 29)).grownBy w4 v.ownBlock) : RL B A len cap K w0 base (l ++ [⟨st, c, f, m, n⟩]) v' w4 ∧ Below base w w4 := by
  have hs := h.size
  have hl := h.lt
  obtain ⟨k, hk, h3⟩ := h.has
  have hb : Below base w w4 := ((Below.refl base w).alloc (by omega) _).grown hgr (by simp; omega) (own_block5 h.row)
  refine ⟨⟨⟨k, hk, h3.1.kept (hb.mono (by omega)), h3.2.trans (hb.mono (by omega))⟩, ?_, Nat.le_trans (by omega) hb.size, hl, fun r hr => ?_⟩, hb⟩
  · rw [List.length_append, rcs_app, rcs_one]; exact hr
  · rcases List.mem_append.1 hr with hr | hr
    · exact h.ok r hr
    · simp only [List.mem_singleton] at hr; subst hr; exact hg
theorem RL.keep {B : Nat} {A : Option Addr} {len cap K : Nat} {w0 w w' : World} {base : Nat} {l : List Rul} {v : Value} (h : RL B A len cap K w0 base l v w) (hb : Below w.heap.size w w') : RL B A len cap K w0 base l v w' := by
  obtain ⟨k, hk, h3⟩ := h.has
  exact ⟨⟨k, hk, h3.below hb⟩, row_below h.row hb, Nat.le_trans h.size hb.size, h.lt, h.ok⟩
theorem RL.cast {B : Nat} {A : Option Addr} {len cap K : Nat} {w0 w : World} {base : Nat} {l l' : List Rul} {v : Value} (h : RL B A len cap K w0 base l v w) (e : l = l') : RL B A len cap K w0 base l' v w := e ▸ h
theorem row_low {w : World} {base : Nat} {t : TypeId} {s n m c : Nat} {A : Option Addr} {xs : List Value} (h : w.ownsRow base t s (.slice A n c) m xs) (b off : Nat) (e : A = some ⟨b, off, none⟩) : base ≤ b := by
  rcases h.2 with ⟨hv, _⟩ | ⟨g, cap, cur, hv, h2, _⟩
  · simp only [Value.slice.injEq] at hv
    obtain ⟨rfl, _⟩ := hv; cases e
  · simp only [Value.slice.injEq] at hv
    obtain ⟨rfl, _⟩ := hv
    simp only [Option.some.injEq, Addr.mk.injEq] at e
    omega
theorem RuAt.hop {w w' : World} {B g : Nat} {A : Option Addr} {l : List Rul} (h : RuAt w B A l) (ho : Only g w w') (hB : B ≤ w.heap.size) (hne : ∀ b off, A = some ⟨b, off, none⟩ → g < b) : RuAt w' B A l := fun i hi => by
  obtain ⟨b, off, e, hb, h0, h1, h2, h3, h4⟩ := h i hi
  have hg := hne b off e
  have hc := fun o => ho.cell (b := b) (o := o) (by omega) (by omega)
  exact ⟨b, off, e, hb, (hc _).trans h0, (hc _).trans h1, (hc _).trans h2, (hc _).trans h3, (hc _).trans h4⟩
theorem Has.ws {B : Nat} {a : Option Addr} {len cap k : Nat} {w0 w : World} (h : Has B a len cap k w0 w) : Below B w0 w := h.2
theorem keep_no {L : List Rul} {i : Nat} (hi : i < L.length) (h : shB L i = true) : keepL [] (L.take (i + 1)) = keepL [] (L.take i) := by rw [keep_take hi, h]; simp
theorem keep_yes {L : List Rul} {i : Nat} (hi : i < L.length) (h : shB L i = false) : keepL [] (L.take (i + 1)) = keepL [] (L.take i) ++ [L[i]] := by rw [keep_take hi, h]; rfl
theorem keep_len : ∀ (l pre : List Rul), (keepL pre l).length ≤ l.length
  | [], _ => Nat.le_refl _
  | r :: l, pre => by
    rw [keepL]
    have := keep_len l (pre ++ [r])
    split
    · simp; omega
    · simp; omega
set_option maxRecDepth 100000 in
set_option maxHeartbeats 4000000 in
theorem walkShadowed (A : Option Addr) (len cap : Nat) (w : World) (he : Elems w.heap.size A len w) (hw : WS w) :
    Calls Tryd.prog 7 #[.slice A len cap] w (BoolAns true w) := by
  obtain ⟨i0, hii, hz0, hz1, hz2⟩ := info_parts ruInfo
  have HA := Lib.hid (fun w hw => awake9_any w hw)
  have HK1 := Lib.hid (fun L A cap hs hc hp hl hf w hr hn hcap => classify_any L A cap hs hc hp hl hf w hr hn hcap)
  have HS1 := Lib.hid (fun L A cap w hr hn hcap hL => shadowed_any L A cap w hr hn hcap hL)
  have HS2 := Lib.hid (fun L A cap w hr hn hcap hL hz => shadowedR_any L A cap w hr hn hcap hL hz)
  have HE := Lib.hid (fun A B n c d X L1 B1 L2 B2 w hn ha hb => equalInt_any A B n c d X L1 B1 L2 B2 w hn ha hb)
  have HH := Lib.hid (fun A n c X L B x b hb w hn ha => has_int A n c X L B x b hb w hn ha)
  unfold BoolAns at HA HH
  unfold ClAns at HK1
  unfold ShAns at HS1 HS2
  unfold BoolAns
  have hW := Lib.hid hw
  have hg := Lib.hid (Has.new (cap := cap) he)
  clear he hw
  go_enter Tryd.func7, Tryd.ntmps7
  go_wp2_with fail
  (with_reducible refine (new_any A len cap _).mono ?_); rintro e w' ⟨rfl, rfl⟩
  go_wp2_with fail
  (with_reducible refine (has_next w.heap.size A len cap 0 7 w _ hg.out (by decide) (by decide) (by omega)).mono ?_)
  rintro e w2 ⟨r, r0, r1, rfl, h2, ho2⟩
  obtain ⟨n, rfl⟩ := Int.eq_ofNat_of_zero_le r0
  have HL0 := Lib.hid (show RL w.heap.size A len cap 1 w w2.heap.size [] (.slice none 0 0) w2 from ⟨⟨1, Nat.le_refl _, h2⟩, ⟨rfl, .inl ⟨rfl, rfl⟩⟩, Nat.le_refl _, h2.1.lt, fun r hr => absurd hr (by simp)⟩)
  have hn6 : n ≤ 6 := by omega
  clear h2 ho2 hg
  go_wp2_with fail
  go_loopw [4, 5] (fun v i wr => ∃ (t : Nat) (l : List Rul), t + l.length = n ∧ i = .int .i64 t ∧ Hid (RL w.heap.size A len cap (1 + 20 * l.length) w w2.heap.size l v wr)) (fun _ i _ => (intOf i).toNat)
  case atStart => exact ⟨n, [], rfl, rfl, HL0⟩
  case round =>
    obtain ⟨t, l, htl, rfl, HL⟩ := hrel
    clear HL0
    rcases (by omega : t = 0 ∨ 1 ≤ t) with rfl | ht
    · obtain ⟨A', c', rfl, hc1, hc2⟩ := row_shape HL.out.row
      have hll : l.length ≤ 6 := by omega
      have hlr := RuAt.own HL.out.row rfl
      have hlowA := Lib.hid (fun b off e => Nat.lt_of_lt_of_le HL.out.lt (row_low HL.out.row b off e))
      have K1 := Lib.hid (HS1.out l A' c' wr hlr hc1 hc2 (by omega))
      have hok := HL.out.ok
      have K2 := Lib.hid (fun w hr => HS2.out l A' c' w hr hc1 hc2 (by omega) (fun r hr => by have := (hok r hr).2; omega))
      have HLR := Lib.hid hlr
      clear hlr HS1 HS2
      go_wp2_with fail
      (with_reducible refine K1.out.mono ?_); rintro e w3 ⟨v3, rfl, hs3⟩
      have HL3 := Lib.hid (HL.out.keep hs3.below)
      have hlr3 := (HLR.out.below hs3.below (Nat.le_refl _)).wider hs3.below.size
      have hrow3 := hs3.row
      rw [show shK l l.length = shL l from rfl] at hrow3
      obtain ⟨A3, c3, rfl, hd1, hd2⟩ := row_shape hrow3
      have HN3 := Lib.hid (own_nums hrow3)
      have HLR3 := Lib.hid hlr3
      have K2r := Lib.hid (K2.out w3 hlr3)
      clear hs3 hlr3 hrow3 HL HLR K1 K2
      go_wp2_with fail
      (with_reducible refine K2r.out.mono ?_); rintro e w4 ⟨v4, rfl, hs4⟩
      have HL4 := Lib.hid (HL3.out.keep hs4.below)
      have HLR4 := Lib.hid ((HLR3.out.below hs4.below (Nat.le_refl _)).wider hs4.below.size)
      have HN4 := Lib.hid (Cells.wider (HN3.out.below hs4.below (Nat.le_refl _)) (Nat.le_refl _) hs4.below.size)
      have hrow4 := hs4.row
      rw [show shK l l.length = shL l from rfl] at hrow4
      obtain ⟨A4, c4, rfl, _, _⟩ := row_shape hrow4
      have hln4 : (shL l).length ≤ 9223372036854775807 := by omega
      have K3 := Lib.hid (HE.out A3 A4 (shL l).length c3 c4 (shX (shL l)) 0 w4.heap.size 0 w4.heap.size w4 hln4 HN4.out (own_nums hrow4))
      clear hs4 hrow4 HL3 HLR3 HN3 K2r HE
      go_wp2_with fail
      (with_reducible refine K3.out.mono ?_); rintro e w5 ⟨rfl, hb⟩
      have hl5 := HL4.out.keep hb
      have HLR5 := Lib.hid ((HLR4.out.below hb (Nat.le_refl _)).wider hb.size)
      have HN5 := Lib.hid (Cells.wider (HN4.out.below hb (Nat.le_refl _)) (Nat.le_refl _) hb.size)
      obtain ⟨kq, hkq, hHq⟩ := hl5.has
      have hB5 := hHq.1.lt
      have HM0 := Lib.hid (show RL w.heap.size A len cap (1 + 20 * l.length) w w5.heap.size [] (.slice none 0 0) w5 from ⟨⟨kq, hkq, hHq⟩, ⟨rfl, .inl ⟨rfl, rfl⟩⟩, Nat.le_refl _, hB5, fun r hr => absurd hr (by simp)⟩)
      have hkn := Lib.hid (fun i => keep_len (l.take i) [])
      have HKN := Lib.hid (fun i hi h => keep_no (L := l) (i := i) hi h)
      have HKY := Lib.hid (fun i hi h => keep_yes (L := l) (i := i) hi h)
      have HMS := Lib.hid (fun i (hi : i < l.length) => mem_shL (l := l) (i := i) hi)
      have hkq' : kq ≤ 121 := by omega
      clear hb hl5 HL4 HLR4 HN4 K3 hHq
      go_wp2_with fail
      obtain ⟨wo, rfl⟩ : ∃ wo : World, wo = wr := ⟨_, rfl⟩
      go_loopw [7, 8] (fun v i wr => ∃ k : Nat, k ≤ l.length ∧ i = .int .i64 k ∧ Hid (RL w.heap.size A len cap (1 + 20 * l.length) w w5.heap.size (keepL [] (l.take k)) v wr) ∧ Hid (RuAt wr w5.heap.size A' l) ∧ Hid (Nums wr 0 w5.heap.size A3 (shL l).length (shX (shL l)))) (fun _ i _ => l.length - (intOf i).toNat)
      case atStart => exact ⟨0, Nat.zero_le _, rfl, HM0, HLR5, HN5⟩
      case round =>
        obtain ⟨k, hk, rfl, HQ, HR, HN⟩ := hrel
        clear HM0 HLR5 HN5
        by_cases hlt : k < l.length
        · have hlt' : (k : Int) < l.length := by omega
          have hst := HQ.out.size
          have hbl2 := HQ.out.lt
          have hkl : (keepL [] (List.take k l)).length ≤ 6 := by have := hkn.out k; rw [List.length_take] at this; omega
          have K := Lib.hid (HH.out A3 (shL l).length c3 (shX (shL l)) 0 w5.heap.size (k : Int) (shB l k) ((shX_mem.trans (HMS.out k hlt)).symm) wr hln4 HN.out)
          have hokk := Lib.hid (hok l[k] (List.getElem_mem _))
          cases hs : shB l k
          · rw [hs] at K
            have HY0 := HKY.out k hlt hs
            clear hs
            go_wp2_with fail
            (with_reducible refine K.out.mono ?_); rintro e w6 ⟨rfl, hb⟩
            have HQ6 := Lib.hid (HQ.out.keep hb)
            have HR6 := Lib.hid (HR.out.below hb hst)
            have HN6 := Lib.hid (Cells.below HN.out hb hst)
            have hsz6 := hb.size
            clear hb HQ HR HN K
            obtain ⟨b, off, rfl, hbb, c0, c1, c2, c3', c4'⟩ := HR6.out k hlt
            obtain ⟨r, hrk⟩ : ∃ r, l[k] = r := ⟨_, rfl⟩
            rw [hrk] at c0 c1 c2 c3' c4' HY0 hokk
            clear hrk
            obtain ⟨st, c, f, m, n'⟩ := r
            simp only at c0 c1 c2 c3' c4'
            have HY := Lib.hid HY0
            have hrow := HQ6.out.row.alloc (.cells #[.string st, .int .i64 c, .int .i64 f, .int .i64 m, .int .i64 n'] 29)
            have HG := Lib.hid (fun v4 w4 hr hgr => HQ6.out.more (v' := v4) (w4 := w4) hokk.out hr hgr)
            clear HY0 HQ6
            go_wp2_with (at_builtin; refine wpList_append_own _ rfl (.tmp 45) (.tmp 50) 44 rfl w5.heap.size 29 i0 (.agg #[.string ⟨#[]⟩, .int .i64 0, .int .i64 0, .int .i64 0, .int .i64 0]) 5 48 Tryd.underlying44 hii hz0 hz1 hz2 rfl (by decide) _ (keepL [] (List.take k l)).length (rcs (keepL [] (List.take k l))) rfl hrow ⟨w6.heap.size, 0, none⟩ 1 1 (rc5 ⟨st, c, f, m, n'⟩) rfl rfl (newRule w6 ⟨st, c, f, m, n'⟩ 29) (ruleOne _) (by unfold maxLen; omega) (by omega) (by simp; omega) ?_; intro v7 w7 hv7 hg7 _)
            obtain ⟨hl7, hb7⟩ := HG.out v7 w7 hv7 hg7
            have HQ7 := Lib.hid (hl7.cast HY.out.symm)
            have HR7 := Lib.hid (HR6.out.below hb7 (Nat.le_refl _))
            have HN7 := Lib.hid (Cells.below HN6.out hb7 (Nat.le_refl _))
            clear hv7 hg7 HG hrow hl7 hb7 HR6 HN6 c0 c1 c2 c3' c4'
            go_wp2
            go_roundw
            case rel => exact ⟨k + 1, by omega, by go_num, HQ7, HR7, HN7⟩
            case measure => simp [intOf]; omega
          · rw [hs] at K
            have HY := Lib.hid (HKN.out k hlt hs)
            clear hs
            go_wp2_with fail
            (with_reducible refine K.out.mono ?_); rintro e w6 ⟨rfl, hb⟩
            have HQ7 := Lib.hid ((HQ.out.keep hb).cast HY.out.symm)
            have HR7 := Lib.hid (HR.out.below hb hst)
            have HN7 := Lib.hid (Cells.below HN.out hb hst)
            clear hb HQ HR HN K
            go_wp2
            go_roundw
            case rel => exact ⟨k + 1, by omega, by go_num, HQ7, HR7, HN7⟩
            case measure => simp [intOf]; omega
        · obtain rfl : k = l.length := by omega
          have HQ0 := Lib.hid (HQ.out.cast (congrArg (keepL []) (List.take_length (l := l))))
          have hst := HQ0.out.size
          have hbl2 := HQ0.out.lt
          have hkl : (keepL [] l).length ≤ 6 := by have := hkn.out l.length; rw [List.take_length] at this; omega
          obtain ⟨A5, c5, rfl, he1, he2⟩ := row_shape HQ0.out.row
          have HLQ := Lib.hid (RuAt.own HQ0.out.row rfl)
          have hlow := Lib.hid (fun b off e => Nat.lt_of_lt_of_le hbl2 (row_low HQ0.out.row b off e))
          obtain ⟨kz, hkz, hHz⟩ := HQ0.out.has
          have HRL := Lib.hid (HR.out.wider hst)
          have HHz := Lib.hid hHz
          have HF := Lib.hid (fun h => clF_shadow h l)
          clear HQ HQ0 HR HN hHz hkn HKN HKY HMS HH hok hst
          generalize keepL [] l = q at *
          go_wp2_with fail
          obtain ⟨wp, rfl⟩ : ∃ wo : World, wo = wr := ⟨_, rfl⟩
          go_loopw [9] (fun i wr => ∃ j p : Nat, j ≤ 4 ∧ i = .int .i64 j ∧ p ≤ 121 + 100 * j ∧ Hid (Has w.heap.size A len cap p w wr) ∧ Hid (RuAt wr wp.heap.size A' l) ∧ Hid (RuAt wr wp.heap.size A5 q) ∧ Hid (wp.heap.size ≤ wr.heap.size)) (fun i _ => 4 - (intOf i).toNat)
          case atStart => exact ⟨0, kz, by omega, rfl, by omega, HHz, HRL, HLQ, Lib.hid (Nat.le_refl _)⟩
          case round =>
            obtain ⟨j, p, hj, rfl, hp, HJ, H1, H2, HS⟩ := hrel
            clear HHz HRL HLQ
            by_cases hlt : j < 4
            · have hlt' : (j : Int) < 4 := by omega
              go_wp2_with fail
              (with_reducible refine (has_header w.heap.size A len cap p w wr HJ.out (by omega)).mono ?_)
              rintro e w7 ⟨hs, hc, hp', hl, hf, hh, rfl, ⟨k4, hk4, h4⟩, ho4⟩
              have hs4 := ho4.size
              have hsw := HS.out
              have hba : Below w7.heap.size w7 (w7.alloc (.cells #[.string hs, .int .i64 hc, .int .i64 hp', .int .i64 hl, .int .i64 hf] 43)) := (Below.refl _ _).alloc (Nat.le_refl _) _
              have hr1 := (H1.out.hop ho4 hsw hlowA.out).below hba (by omega)
              have hr2 := (H2.out.hop ho4 hsw hlow.out).below hba (by omega)
              have HR1 := Lib.hid hr1
              have HR2 := Lib.hid hr2
              have hz5 := Whole.fresh w7 43 #[.string hs, .int .i64 hc, .int .i64 hp', .int .i64 hl, .int .i64 hf]
              have H5 := Lib.hid (h4.alloc (.cells #[.string hs, .int .i64 hc, .int .i64 hp', .int .i64 hl, .int .i64 hf] 43))
              have hzs := hba.size
              have K1r := Lib.hid (HK1.out l A' c' hs hc hp' hl hf (w7.alloc (.cells #[.string hs, .int .i64 hc, .int .i64 hp', .int .i64 hl, .int .i64 hf] 43)) (hr1.wider (by omega)) hc1 hc2)
              have K2 := Lib.hid (fun w hr => HK1.out q A5 c5 hs hc hp' hl hf w hr he1 he2)
              have ev : clV ⟨hs, hc, hp', hl, hf⟩ q = clV ⟨hs, hc, hp', hl, hf⟩ l := by unfold clV; rw [HF.out]
              have eb : clB ⟨hs, hc, hp', hl, hf⟩ q = clB ⟨hs, hc, hp', hl, hf⟩ l := by unfold clB; rw [HF.out]
              rw [ev, eb] at K2
              clear ev eb
              generalize clV ⟨hs, hc, hp', hl, hf⟩ l = f at *
              generalize clB ⟨hs, hc, hp', hl, hf⟩ l = ok at *
              have HZ5 := Lib.hid hz5
              have hlt4 := hz5.size_lt
              have tf : (f != f) = false := by simp
              have tok : (ok != ok) = false := by simp
              have hws : wp.heap.size ≤ (w7.alloc (.cells #[.string hs, .int .i64 hc, .int .i64 hp', .int .i64 hl, .int .i64 hf] 43)).heap.size := by omega
              have HWS := Lib.hid hws
              clear hh h4 ho4 hr1 hr2 hz5 hba hzs HJ H1 H2 HS hsw hws
              go_wp2_with fail
              (with_reducible refine K1r.out.mono ?_); rintro e w8 ⟨rfl, hb⟩
              have HR1' := Lib.hid (HR1.out.below hb HWS.out)
              have HR2' := Lib.hid (HR2.out.below hb HWS.out)
              have HWS' := Lib.hid (Nat.le_trans HWS.out hb.size)
              have H6 := Lib.hid (H5.out.below hb)
              have HZ6 := Lib.hid (HZ5.out.later hb)
              obtain ⟨d0, d1, d2, d3, d4⟩ := HZ6.out.five'
              have K2r := Lib.hid (K2.out w8 (HR2'.out.wider HWS'.out))
              clear hb HR1 HR2 HWS H5 HZ5 K1r K2
              go_wp2_with fail
              (with_reducible refine K2r.out.mono ?_); rintro e w9 ⟨rfl, hb⟩
              have HR1 := Lib.hid (HR1'.out.below hb HWS'.out)
              have HR2 := Lib.hid (HR2'.out.below hb HWS'.out)
              have HWS := Lib.hid (Nat.le_trans HWS'.out hb.size)
              have H7 := Lib.hid (H6.out.below hb)
              clear hb HR1' HR2' HWS' H6 HZ6 K2r d0 d1 d2 d3 d4
              go_wp2
              try go_quiet (fail)
              try go_wp2
              go_roundw
              case rel => exact ⟨j + 1, k4, by omega, by go_num, by omega, H7, HR1, HR2, HWS⟩
              case measure => simp [intOf]; omega
            · obtain rfl : j = 4 := by omega
              have hwe := Lib.hid (HA.out wr (hW.out.below (Has.ws HJ.out)))
              have HB := Lib.hid (Has.bl HJ.out)
              have hsz := HB.out.size
              clear HJ H1 H2 HS HA HK1
              go_wp2_with fail
              (with_reducible refine hwe.out.mono ?_); rintro e w6 ⟨rfl, hb⟩
              have HE := Lib.hid (HB.out.trans (hb.mono hsz))
              clear hb hwe HB
              go_wp2
              go_ret
              exact ⟨rfl, HE.out⟩
    · obtain ⟨kq, hkq, hHq⟩ := HL.out.has
      have hll : l.length + 1 ≤ 6 := by omega
      go_wp2_with fail
      (with_reducible refine (has_rule w.heap.size A len cap kq w wr hHq (by omega)).mono ?_)
      rintro e w3 ⟨st, c, f, m, n', hx, rfl, ⟨k3, hk3, h3⟩, ho3⟩
      have hrow := (row_only HL.out.row ho3 HL.out.lt).alloc (.cells #[.string st, .int .i64 c, .int .i64 f, .int .i64 m, .int .i64 n'] 29)
      have hsz := HL.out.size
      have hos := ho3.size
      have HG := Lib.hid (fun v4 w4 hr hgr => HL.out.grow (K' := 1 + 20 * (l.length + 1)) (v' := v4) (w4 := w4) hx h3 (by omega) ho3 hr hgr)
      clear hHq HL hx h3 ho3 HE HH HS1 HS2 HK1
      go_wp2_with (at_builtin; refine wpList_append_own _ rfl (.tmp 23) (.tmp 26) 44 rfl w2.heap.size 29 i0 (.agg #[.string ⟨#[]⟩, .int .i64 0, .int .i64 0, .int .i64 0, .int .i64 0]) 5 48 Tryd.underlying44 hii hz0 hz1 hz2 rfl (by decide) _ l.length (rcs l) rfl hrow ⟨w3.heap.size, 0, none⟩ 1 1 (rc5 ⟨st, c, f, m, n'⟩) rfl rfl (newRule w3 ⟨st, c, f, m, n'⟩ 29) (ruleOne _) (by unfold maxLen; omega) (by omega) (by simp; omega) ?_; intro v4 w4 hv4 hg4 _)
      have HL2 := Lib.hid (HG.out v4 w4 hv4 hg4)
      clear hv4 hg4 HG hrow
      go_wp2
      go_roundw
      case rel => exact ⟨t - 1, l ++ [⟨st, c, f, m, n'⟩], by simp; omega, by go_num, by simpa using HL2⟩
      case measure => simp [intOf]; omega
end Go.Proofs.YtfkbohfelacaoaaDoor

