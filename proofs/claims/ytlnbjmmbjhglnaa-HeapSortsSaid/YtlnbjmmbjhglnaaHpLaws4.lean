/-
  Layer 4: the walk of the statement about ascending order (HeapSorts). Every input; no condition.
-/
import Derived.Test.YtlnbjmmbjhglnaaHpLaws3
namespace Go.Proofs.Ytlnbjmmbjhglnaa
open Go.ChangeShapes Go.WideShapes Go.ChangeAt Go.RowKit
set_option linter.unusedVariables false

/-- No key is below the least number. -/
def Low (M : Int → Option Int) : Prop := ∀ id k, M id = some k → -9223372036854775808 ≤ k
theorem low_nil : Low noM := fun id k h => by cases h
theorem Low.put {M : Int → Option Int} (h : Low M) {k : Int} (hk : -9223372036854775808 ≤ k) (i : Int) : Low (putM M i k) := by
  intro id v e
  unfold putM at e
  by_cases h1 : id = i
  · rw [if_pos h1] at e; cases e; exact hk
  · rw [if_neg h1] at e; exact h id v e
/-- M holds what F holds from j on. -/
def Rest (F : Nat → Int × Int) (n j : Nat) (M : Int → Option Int) : Prop := ∀ id k, M id = some k ↔ ∃ i, j ≤ i ∧ i < n ∧ F i = (id, k)
theorem Rest.start {F : Nat → Int × Int} {n : Nat} {M : Int → Option Int} (h : Cont F n M) : Rest F n 0 M := fun id k => by
  rw [h id k]; exact ⟨fun ⟨i, h1, h2⟩ => ⟨i, by omega, h1, h2⟩, fun ⟨i, _, h1, h2⟩ => ⟨i, h1, h2⟩⟩
theorem Rest.least {F : Nat → Int × Int} {n j : Nat} {M : Int → Option Int} (h : Rest F n j M) (ha : Asc F n) (hj : j < n) : LeastM M (F j) :=
  ⟨(h _ _).2 ⟨j, Nat.le_refl _, hj, rfl⟩, fun id k e => by
    obtain ⟨i, h1, h2, h3⟩ := (h id k).1 e
    rw [← h3]
    rcases (by omega : i = j ∨ j < i) with rfl | h4
    · exact le2_refl _
    · exact le2_of_lt (ha j i h4 h2)⟩
theorem Rest.pop {F : Nat → Int × Int} {n j : Nat} {M : Int → Option Int} (h : Rest F n j M) (ha : Asc F n) (hj : j < n) : Rest F n (j + 1) (delM M (F j).1) := by
  intro id k
  unfold delM
  constructor
  · intro e
    by_cases h1 : id = (F j).1
    · rw [if_pos h1] at e; cases e
    · rw [if_neg h1] at e
      obtain ⟨i, h2, h3, h4⟩ := (h id k).1 e
      have : i ≠ j := fun c => h1 (by rw [← c, h4])
      exact ⟨i, by omega, h3, h4⟩
  · rintro ⟨i, h2, h3, h4⟩
    have h1 : id ≠ (F j).1 := by
      intro c
      have e1 := (h id k).2 ⟨i, by omega, h3, h4⟩
      have e2 := (h (F j).1 (F j).2).2 ⟨j, Nat.le_refl _, hj, rfl⟩
      rw [c, e2] at e1
      have e3 : F i = F j := by rw [h4, c]; cases e1; rfl
      have := ha j i (by omega) h3
      rw [e3] at this; exact lt2_irrefl _ this
    rw [if_neg h1]; exact (h id k).2 ⟨i, by omega, h3, h4⟩
/-- The entry before entry j. -/
def lastE (F : Nat → Int × Int) (j : Nat) : Int × Int := if j = 0 then (-1, -9223372036854775808) else F (j - 1)
theorem lastE_succ (F : Nat → Int × Int) (j : Nat) : lastE F (j + 1) = F j := by unfold lastE; rw [if_neg (by omega)]; rfl
theorem lastE_lt {F : Nat → Int × Int} {n j : Nat} (ha : Asc F n) (hj : j < n) (h0 : 0 ≤ (F j).1) (hk : -9223372036854775808 ≤ (F j).2) : lt2 (lastE F j) (F j) := by
  unfold lastE
  by_cases h : j = 0
  · rw [if_pos h]; show (-9223372036854775808 : Int) < (F j).2 ∨ ((-9223372036854775808 : Int) = (F j).2 ∧ (-1 : Int) < (F j).1); omega
  · rw [if_neg h]; exact ha (j - 1) j (by omega) hj

/-- Choices beside a heap, a list of entries F in blocks from L1 on and below LB, and an entry x in block LB. -/
def GS (B : Nat) (a : Option Addr) (len cap q : Nat) (w0 : World) (C H c n : Nat) (M : Int → Option Int) (L1 LB : Nat) (A : Option Addr) (m : Nat) (F : Nat → Int × Int) (x : Int × Int) (w : World) : Prop :=
  Has B a len cap q w0 w ∧ B < C ∧ B < L1 ∧ L1 ≤ LB ∧ Prs w L1 LB A m (fun j => (F j).1) (fun j => (F j).2) ∧ Whole w LB 40 #[.int .i64 x.1, .int .i64 x.2] ∧ ∃ S, HeapO C H S c n M w ∧ ∀ k, S k → k < L1 ∨ LB < k
section
variable {B len cap q C H c n L1 LB m : Nat} {a A : Option Addr} {w0 w : World} {M : Int → Option Int} {F : Nat → Int × Int} {x : Int × Int}
theorem GH.list_last (h : GH B a len cap q w0 C H c n M w) :
    Calls Try.prog 14 #[.pointer (some ⟨H, 0, none⟩)] w fun e w' => ∃ (A : Option Addr) (d : Nat) (F : Nat → Int × Int), e = .returned (.slice A n d) ∧ Asc F n ∧ Cont F n M ∧ GL B a len cap q w0 C H c n M w.heap.size w'.heap.size A n F w' ∧ w.heap.size ≤ w'.heap.size := by
  obtain ⟨h1, h2, S, hS⟩ := h
  refine (entries_any hS).mono ?_
  rintro e w' ⟨A, d, F, rfl, hp, ha, hc, hb⟩
  exact ⟨A, d, F, rfl, ha, hc, ⟨h1.below hb, h2, h1.1.lt, Nat.le_refl _, hp, S, (hS.same hb).1, fun k hk => .inl (hS.lo k hk).2⟩, hb.size⟩
theorem GL.last (h : GL B a len cap q w0 C H c n M L1 w.heap.size A m F w) (x : Int × Int) (hL : L1 ≤ w.heap.size) : GS B a len cap q w0 C H c n M L1 w.heap.size A m F x (w.alloc (.cells #[.int .i64 x.1, .int .i64 x.2] 40)) := by
  obtain ⟨h1, h2, h3, h4, h5, S, h6, h7⟩ := h
  have hb := pair_new w x.1 x.2
  exact ⟨h1.below hb, h2, h3, hL, Cells.below h5 hb h4, Whole.new w _ _, S, (h6.same hb).1, fun k hk => by have := h7 k hk; have := (h6.lo k hk).2; omega⟩
theorem GS.call {f : FuncId} {args : Array Value} {n' : Nat} {M' : Int → Option Int} {y : Value} (h : GS B a len cap q w0 C H c n M L1 LB A m F x w) (hc : ∀ S, HeapO C H S c n M w → Calls Try.prog f args w (HpAns C H S c n' M' y w)) :
    Calls Try.prog f args w fun e w' => e = .returned y ∧ GS B a len cap q w0 C H c n' M' L1 LB A m F x w' := by
  obtain ⟨h1, h2, h3, h4, h5, h5', S, h6, h7⟩ := h
  refine (hc S h6).mono ?_
  rintro e w' ⟨S', rfl, k1, k2, k3⟩
  have hl := h5'.size_lt
  refine ⟨rfl, h1.trod (fun i hi => by have := h6.lo i hi; omega) k2, h2, h3, h4, h5.keep (fun b o b1 b2 => World.cell?_of_block (w := w) (k2.block b (by omega) (fun e => by have := h7 b e; omega))), k2.whole h5' (fun e => by have := h7 _ e; omega), S', k1, fun k hk => ?_⟩
  rcases k3 k hk with e | e
  · exact h7 k e
  · exact .inr (by omega)
theorem GS.below {w' : World} (h : GS B a len cap q w0 C H c n M L1 LB A m F x w) (hb : Below w.heap.size w w') : GS B a len cap q w0 C H c n M L1 LB A m F x w' := by
  obtain ⟨h1, h2, h3, h4, h5, h5', S, h6, h7⟩ := h
  exact ⟨h1.below hb, h2, h3, h4, Cells.below h5 hb (Nat.le_of_lt h5'.size_lt), h5'.below hb, S, (h6.same hb).1, h7⟩
theorem GS.set (h : GS B a len cap q w0 C H c n M L1 LB A m F x w) (y : Int × Int) : GS B a len cap q w0 C H c n M L1 LB A m F y ((w.setCell ⟨LB, 0, none⟩ (.int .i64 y.1)).setCell ⟨LB, 1, none⟩ (.int .i64 y.2)) := by
  obtain ⟨h1, h2, h3, h4, h5, h5', S, h6, h7⟩ := h
  have hk : Chg (fun k => k = LB) w ((w.setCell ⟨LB, 0, none⟩ (.int .i64 y.1)).setCell ⟨LB, 1, none⟩ (.int .i64 y.2)) := ((Chg.refl (fun k => k = LB) w).setCell (show (fun k => k = LB) LB from rfl) _ _).setCell (show (fun k => k = LB) LB from rfl) _ _
  refine ⟨h1.trod (fun i hi => by have hi : i = LB := hi; omega) hk, h2, h3, h4, (h5.setCell (.inr (Nat.le_refl _)) _ _).setCell (.inr (Nat.le_refl _)) _ _, Whole.put (Whole.put h5' 0 _) 1 _, S, ?_, h7⟩
  obtain ⟨PB, v, E, P, k1, k2, k3, k4, k5, k6⟩ := h6
  have hnf : ¬ foot H PB v LB := fun e => by have := h7 _ (k5 _ e); omega
  exact ⟨PB, v, E, P, (k1.far hnf _ _).far hnf _ _, k2, k3, k4, k5, fun k hk => by have := k6 k hk; simpa [World.setCell] using this⟩
theorem GS.end_ (h : GS B a len cap q w0 C H c n M L1 LB A m F x w) : Below B w0 w := h.1.2
theorem GS.look (h : GS B a len cap q w0 C H c n M L1 LB A m F x w) {j : Nat} (hj : j < m) : (∃ b off, A = some ⟨b, off, none⟩ ∧ b < w.heap.size ∧ w.cell? ⟨b, off + j * 2, none⟩ = some (.int .i64 (F j).1) ∧ w.cell? ⟨b, off + j * 2 + 1, none⟩ = some (.int .i64 (F j).2)) ∧ Whole w LB 40 #[.int .i64 x.1, .int .i64 x.2] := by
  obtain ⟨_, _, _, _, h5, h5', _⟩ := h
  obtain ⟨b, off, e, b1, b2, b3, b4⟩ := Prs.at_ h5 hj
  exact ⟨⟨b, off, e, by have := h5'.size_lt; omega, b3, b4⟩, h5'⟩
end
set_option maxRecDepth 100000 in
set_option maxHeartbeats 8000000 in
theorem walkSorts (a : Option Addr) (len cap : Nat) (K : Option Addr) (n kc : Nat) (X : Nat → Int) (w : World) (he : Elems w.heap.size a len w) (hn : n ≤ 9223372036854775807) (hf : Fits n X) (hk : Nums w 0 w.heap.size K n X) :
    Calls Try.prog 4 #[.slice a len cap, .slice K n kc] w fun e w' => e = .returned (.bool true) ∧ Below w.heap.size w w' := by
  by_cases hbig : 40 < n
  · have HA := Lib.hid (awake_any w)
    clear he hf hk
    go_enter Try.func4, Try.ntmps4
    go_wp2_with fail
    (with_reducible refine HA.out.mono ?_)
    rintro e w1 ⟨rfl, hb⟩
    go_wp2
    go_ret
    exact ⟨rfl, hb⟩
  · have hn40 : n ≤ 40 := by omega
    have hg := Has.new (cap := cap) he
    have HN := Lib.hid (fun W => (show Calls Try.prog 9 #[.int .i64 64] W (NewAns 64 W) from hnew_ok 64 W (by decide) (by decide)))
    have HG := Lib.hid hg
    have HK := Lib.hid hk
    have HF := Lib.hid hf
    clear he hg hk hf
    go_enter Try.func4, Try.ntmps4
    go_wp2_with (go_at_call 7; (with_reducible refine (new_any a len cap _).mono ?_); rintro e w' ⟨rfl, rfl⟩)
    (with_reducible refine (HN.out _).mono ?_)
    intro e w1 ha
    obtain ⟨H, rfl, h1⟩ := GH.start HG.out ha
    have H1 := Lib.hid h1
    generalize (w.alloc _).heap.size = C at H1
    clear ha h1
    go_wp2_with fail
    go_loopw [8] (fun i wr => ∃ (j q : Nat) (M : Int → Option Int), j ≤ n ∧ i = .int .i64 j ∧ q ≤ 5 * j ∧ Hid (GH w.heap.size a len cap q w C H 64 j M wr) ∧ Hid (Dom M j) ∧ Hid (Low M)) (fun i _ => n - (intOf i).toNat)
    case atStart => exact ⟨0, 0, noM, Nat.zero_le _, rfl, Nat.le_refl _, H1, dom_nil, low_nil⟩
    case round =>
      obtain ⟨j, q, M, hj, rfl, hq, HJ, HD, HLO⟩ := hrel
      clear H1 HG HN
      by_cases hlt : j < n
      · have hlt' : (j : Int) < n := by omega
        obtain ⟨b, off, rfl, _, _, c1⟩ := Nums.at_ (Cells.below HK.out HJ.out.end_ (Nat.le_refl _)) hlt
        obtain ⟨f1, f2⟩ := HF.out j hlt
        have HP := Lib.hid (HJ.out.call (fun S hS => push_good hS (id := (j : Int)) (key := X j) (by omega) (by omega) (HD.out.no (.inr (Int.le_refl _))) (by omega)))
        have HD1 := Lib.hid (HD.out.put (X j))
        have HL1 := Lib.hid (HLO.out.put f1 (j : Int))
        clear HJ HD HLO f1 f2
        have d0 : ((0 : Int) != 0) = false := rfl
        go_wp2_with fail
        (with_reducible refine HP.out.mono ?_)
        rintro e w2 ⟨rfl, h2⟩
        have HX := Lib.hid (h2.next (N := 3) (by omega) (by omega) (by omega))
        clear h2 HP c1
        go_wp2_with fail
        (with_reducible refine HX.out.mono ?_)
        rintro e w3 ⟨r, r0, r1, rfl, h3⟩
        by_cases hr : r = 0
        · subst hr
          have HX2 := Lib.hid (h3.next (N := (j : Int) + 1) (by omega) (by omega) (by omega))
          clear h3 HX r0 r1
          go_wp2_with fail
          (with_reducible refine HX2.out.mono ?_)
          rintro e w4 ⟨s, s0, s1, rfl, h4⟩
          have HI := Lib.hid (h4.int64 (by omega))
          clear h4 HX2
          go_wp2_with fail
          (with_reducible refine HI.out.mono ?_)
          rintro e w5 ⟨y, y0, y1, rfl, h5⟩
          have HU := Lib.hid (h5.call (fun S hS => upd_good hS (id := s) (key := y) (HD1.out.yes s0 (by omega))))
          have HD2 := Lib.hid (HD1.out.upd s0 (by omega) y)
          have HL2 := Lib.hid (HL1.out.put y0 s)
          clear h5 HI HD1 HL1
          go_wp2_with fail
          (with_reducible refine HU.out.mono ?_)
          rintro e w6 ⟨rfl, h6⟩
          have H6 := Lib.hid h6
          clear h6 HU
          go_wp2
          go_roundw
          case rel => exact ⟨j + 1, q + 1 + 1 + 3, _, by omega, by go_num, by omega, H6, HD2, HL2⟩
          case measure => simp [intOf]; omega
        · have H3 := Lib.hid h3
          have hr' : (r == 0) = false := beq_eq_false_iff_ne.2 hr
          clear h3 HX hr
          go_wp2
          go_roundw
          case rel => exact ⟨j + 1, q + 1, _, by omega, by go_num, by omega, H3, HD1, HL1⟩
          case measure => simp [intOf]; omega
      · obtain rfl : j = n := by omega
        have HL := Lib.hid (HJ.out.list_last)
        clear HJ
        go_wp2_with fail
        (with_reducible refine HL.out.mono ?_)
        rintro e w2 ⟨A, d, F, rfl, hasc, hcont, h2, hle⟩
        have HAS := Lib.hid hasc
        have HRE := Lib.hid (Rest.start hcont)
        have HBD : Hid (∀ i, i < j → 0 ≤ (F i).1 ∧ -9223372036854775808 ≤ (F i).2) := Lib.hid (fun i hi => by
          have e := hcont.at_ hi
          exact ⟨((HD.out _).1 (by rw [e]; rfl)).1, HLO.out _ _ e⟩)
        have HS := Lib.hid (show GS w.heap.size a len cap q w C H 64 (j - 0) M wr.heap.size w2.heap.size A j F (lastE F 0) (w2.alloc (.cells #[.int .i64 (-1), .int .i64 (-9223372036854775808)] 40)) from h2.last (-1, -9223372036854775808) hle)
        clear HL hasc hcont h2 hle HD HLO HK HF
        go_wp2_with fail
        generalize w2.heap.size = LB at *
        generalize wr.heap.size = L1 at *
        go_loopw [11] (fun i wr => ∃ (t : Nat) (M : Int → Option Int), t ≤ j ∧ i = .int .i64 t ∧ Hid (GS w.heap.size a len cap q w C H 64 (j - t) M L1 LB A j F (lastE F t) wr) ∧ Hid (Rest F j t M)) (fun i _ => j - (intOf i).toNat)
        case atStart => exact ⟨0, M, Nat.zero_le _, rfl, HS, HRE⟩
        case round =>
          obtain ⟨t, M, ht, rfl, HT, HR⟩ := hrel
          clear HS HRE
          by_cases hlt : t < j
          · have hlt' : (t : Int) < j := by omega
            obtain ⟨m, hm⟩ : ∃ m, j - t = m + 1 := ⟨j - t - 1, by omega⟩
            rw [hm] at HT
            have hm2 : j - (t + 1) = m := by omega
            have hl := lastE_lt HAS.out hlt (HBD.out t hlt).1 (HBD.out t hlt).2
            have HP := Lib.hid (HT.out.call (fun S hS => pop_good hS (HR.out.least HAS.out hlt)))
            have HR1 := Lib.hid (HR.out.pop HAS.out hlt)
            clear HT HR
            go_wp2_with fail
            (with_reducible refine HP.out.mono ?_)
            rintro e w3 ⟨rfl, h3⟩
            have h4 := h3.below (pair_new w3 (F t).1 (F t).2)
            obtain ⟨x0, x1, _, _⟩ := (Whole.new w3 40 #[.int .i64 (F t).1, .int .i64 (F t).2]).at_
            obtain ⟨⟨b, off, rfl, _, c1, c2⟩, hw⟩ := h4.look hlt
            obtain ⟨v0, v1, z0, z1⟩ := hw.at_
            have HS4 := Lib.hid (fun nq => (h4.below (below_drewN _ nq)).set (F t))
            clear h3 h4 hw HP
            have HM2 := Lib.hid hm2
            clear hm hm2
            have d0 : ((0 : Int) != 0) = false := rfl
            have g1 : decide ((j : Int) ≤ (t : Int)) = false := decide_eq_false (by omega)
            have hl1 : ¬ (F t).2 < (lastE F t).2 := by unfold lt2 at hl; omega
            have g2 : decide ((F t).2 < (lastE F t).2) = false := decide_eq_false hl1
            have hl3 : (F t).2 = (lastE F t).2 → ¬ (F t).1 ≤ (lastE F t).1 := by unfold lt2 at hl; omega
            have hl3' := Lib.hid hl3
            clear hl hl3 hl1
            by_cases hq : (F t).2 = (lastE F t).2
            · have g3 : decide ((F t).1 ≤ (lastE F t).1) = false := decide_eq_false (hl3'.out hq)
              have g4 : ((F t).2 == (lastE F t).2) = true := by rw [hq]; simp
              clear hq
              go_wp2_with fail
              generalize w3.alloc (.cells #[.int .i64 (F t).1, .int .i64 (F t).2] 40) = w4 at *
              go_quiet (fail)
              clear g1 g2 g3 g4
              go_wp2
              go_roundw
              case rel => exact ⟨t + 1, _, by omega, by go_num, by rw [HM2.out, lastE_succ]; exact HS4.out _, HR1⟩
              case measure => simp [intOf]; omega
            · have g4 : ((F t).2 == (lastE F t).2) = false := beq_eq_false_iff_ne.2 hq
              clear hq
              go_wp2_with fail
              generalize w3.alloc (.cells #[.int .i64 (F t).1, .int .i64 (F t).2] 40) = w4 at *
              go_quiet (fail)
              clear g1 g2 g4
              go_wp2
              go_roundw
              case rel => exact ⟨t + 1, _, by omega, by go_num, by rw [HM2.out, lastE_succ]; exact HS4.out _, HR1⟩
              case measure => simp [intOf]; omega
          · obtain rfl : t = j := by omega
            rw [Nat.sub_self] at HT
            have hno : ∀ id, M id = none := fun id => by
              cases e : M id with
              | none => rfl
              | some k => obtain ⟨i, h1, h2, _⟩ := (HR.out id k).1 e; omega
            have HP := HT.out.call (fun S hS => pop_any hS)
            rw [popV_zero hno] at HP
            have HP' := Lib.hid HP
            have d5 : ((5 : Int) == 5) = true := rfl
            clear HT HR HP hno
            go_wp2_with fail
            (with_reducible refine HP'.out.mono ?_)
            rintro e w3 ⟨rfl, h3⟩
            have HE := Lib.hid h3.end_
            have hB3 := h3.1.1.lt
            have HA := Lib.hid (fun W => awake_any W)
            clear h3 HP'
            go_wp2_with fail
            (with_reducible refine (HA.out _).mono ?_)
            rintro e w4 ⟨rfl, hb4⟩
            have HE9 := Lib.hid ((HE.out.alloc HE.out.size _).trans (hb4.mono (by have := HE.out.size; simp; omega)))
            clear hb4 HA HE
            go_wp2
            go_ret
            exact ⟨rfl, HE9.out⟩
end Go.Proofs.Ytlnbjmmbjhglnaa
