/-
  Layer 7: contract of the reference's Match. Every pattern and string of up to 2000000 bytes.
-/
import Derived.Test.YthabmbjjpgcceaaDoorLbRef3
namespace Go.Proofs.YthabmbjjpgcceaaDoor
open Go.ChangeShapes Go.WideShapes Go.ChangeAt Go.RowKit
set_option linter.unusedVariables false

/-- The folded runes, of several asterisks in a row the first alone. -/
def coll (l : List Nat) : List Nat := (l.map foldN).foldl (push 42) []
theorem coll_lik (l m : List Nat) : lik 42 (coll l) m = lik 42 (l.map foldN) m := by
  have := pushes_lik (z := 42) (l.map foldN) [] m
  rw [List.nil_append] at this
  exact this
theorem coll_next {l : List Nat} {k : Nat} (h : k < l.length) : coll (l.take (k + 1)) = push 42 (coll (l.take k)) (foldN l[k]) := by
  unfold coll
  rw [List.take_succ_eq_append_getElem h, List.map_append, List.foldl_append]; rfl
theorem push_len (q : List Nat) (c : Nat) : (push 42 q c).length ≤ q.length + 1 := by unfold push; split <;> simp
theorem coll_len (l : List Nat) : ∀ k, k ≤ l.length → (coll (l.take k)).length ≤ k
  | 0, _ => by simp [coll]
  | k + 1, h => by
    rw [coll_next (by omega)]
    have := push_len (coll (l.take k)) (foldN l[k])
    have := coll_len l k (by omega)
    omega
theorem push_skip {q : List Nat} {c : Nat} (h1 : c = 42) (h2 : q.getLast? = some 42) : push 42 q c = q := by unfold push; rw [if_pos ⟨h1, h2⟩]
theorem push_add {q : List Nat} {c : Nat} (h : ¬ (c = 42 ∧ q.getLast? = some 42)) : push 42 q c = q ++ [c] := by unfold push; rw [if_neg h]
theorem pat_no_size {s : ByteArray} (h : ¬ (1 ≤ s.size ∧ s.size ≤ 24)) : pat s = none := by unfold pat; rw [if_neg h]
theorem pat_no_rs {s : ByteArray} (h : rs s = none) : pat s = none := by unfold pat; rw [h]; split <;> rfl
theorem pat_of {s : ByteArray} {l : List Nat} (h : rs s = some l) (h0 : 1 ≤ s.size) (h1 : s.size ≤ 24) : pat s = if l.all okN then some l else none := by
  unfold pat; rw [if_pos ⟨h0, h1⟩, h]
theorem mtB_no {p s : ByteArray} (h : pat p = none ∨ nam s = none) : mtB p s = false := by
  unfold mtB
  rcases h with h | h
  · rw [h]
  · rw [h]; cases pat p <;> rfl
/-- The pattern is no UTF-8. -/
theorem refMatch_no1 (p s : ByteArray) (hp : p.size ≤ 2000000) (hs : s.size ≤ 2000000) (w : World) (h : rs p = none) : Calls Tryd.prog 19 #[.string p, .string s] w (MtAns p s w) := by
  unfold MtAns
  rw [mtB_no (.inl (pat_no_rs h))]
  have H1 := Lib.hid (fun w => runs_no hp h w)
  clear h
  cases k : nam s with
  | none =>
    have H2 := Lib.hid (fun w => fd_no hs k w)
    clear k
    go_enter Tryd.func19, Tryd.ntmps19
    go_wp2_with fail
    (with_reducible refine (H1.out _).mono ?_); rintro e w1 ⟨rfl, hb1⟩
    have hb1h := Lib.hid hb1
    clear hb1
    go_wp2_with fail
    (with_reducible refine (H2.out _).mono ?_); rintro e w2 ⟨rfl, hb2⟩
    have HB := Lib.hid (hb1h.out.trans (hb2.mono hb1h.out.size))
    clear hb2
    go_wp2
    go_ret
    exact ⟨rfl, HB.out⟩
  | some m =>
    have H2 := Lib.hid (fun w => fd_yes hs k w)
    clear k
    go_enter Tryd.func19, Tryd.ntmps19
    go_wp2_with fail
    (with_reducible refine (H1.out _).mono ?_); rintro e w1 ⟨rfl, hb1⟩
    have hb1h := Lib.hid hb1
    clear hb1
    go_wp2_with fail
    (with_reducible refine (H2.out _).mono ?_); rintro e w2 ⟨A, c, rfl, ho, hb2⟩
    have HB := Lib.hid (hb1h.out.trans (hb2.mono hb1h.out.size))
    clear hb2 ho
    go_wp2
    go_ret
    exact ⟨rfl, HB.out⟩
/-- s is no name. -/
theorem refMatch_no2 (p s : ByteArray) (l : List Nat) (hp : p.size ≤ 2000000) (hs : s.size ≤ 2000000) (w : World) (h : rs p = some l) (k : nam s = none) : Calls Tryd.prog 19 #[.string p, .string s] w (MtAns p s w) := by
  unfold MtAns
  rw [mtB_no (.inr k)]
  have H1 := Lib.hid (fun w => runs_yes hp h w)
  have H2 := Lib.hid (fun w => fd_no hs k w)
  clear h k
  go_enter Tryd.func19, Tryd.ntmps19
  go_wp2_with fail
  (with_reducible refine (H1.out _).mono ?_); rintro e w1 ⟨A, c, rfl, ho, hb1⟩
  have hb1h := Lib.hid hb1
  clear hb1 ho
  go_wp2_with fail
  (with_reducible refine (H2.out _).mono ?_); rintro e w2 ⟨rfl, hb2⟩
  have HB := Lib.hid (hb1h.out.trans (hb2.mono hb1h.out.size))
  clear hb2
  go_wp2
  go_ret
  exact ⟨rfl, HB.out⟩
/-- The pattern is too short or too long. -/
theorem refMatch_no3 (p s : ByteArray) (l m : List Nat) (hp : p.size ≤ 2000000) (hs : s.size ≤ 2000000) (w : World) (h : rs p = some l) (k : nam s = some m) (hz : ¬ (1 ≤ p.size ∧ p.size ≤ 24)) : Calls Tryd.prog 19 #[.string p, .string s] w (MtAns p s w) := by
  unfold MtAns
  rw [mtB_no (.inl (pat_no_size hz))]
  have H1 := Lib.hid (fun w => runs_yes hp h w)
  have H2 := Lib.hid (fun w => fd_yes hs k w)
  clear h k
  rcases (by omega : p.size < 1 ∨ (1 ≤ p.size ∧ 24 < p.size)) with g0 | ⟨g0, g1⟩
  · have g0' : (p.size : Int) < 1 := by omega
    clear hz
    go_enter Tryd.func19, Tryd.ntmps19
    go_wp2_with fail
    (with_reducible refine (H1.out _).mono ?_); rintro e w1 ⟨A, c, rfl, ho, hb1⟩
    have hb1h := Lib.hid hb1
    clear hb1 ho
    go_wp2_with fail
    (with_reducible refine (H2.out _).mono ?_); rintro e w2 ⟨B, d, rfl, ho, hb2⟩
    have HB := Lib.hid (hb1h.out.trans (hb2.mono hb1h.out.size))
    clear hb2 ho
    go_wp2
    go_ret
    exact ⟨rfl, HB.out⟩
  · have g0' : ¬ (p.size : Int) < 1 := by omega
    have g1' : (24 : Int) < p.size := by omega
    clear hz
    go_enter Tryd.func19, Tryd.ntmps19
    go_wp2_with fail
    (with_reducible refine (H1.out _).mono ?_); rintro e w1 ⟨A, c, rfl, ho, hb1⟩
    have hb1h := Lib.hid hb1
    clear hb1 ho
    go_wp2_with fail
    (with_reducible refine (H2.out _).mono ?_); rintro e w2 ⟨B, d, rfl, ho, hb2⟩
    have HB := Lib.hid (hb1h.out.trans (hb2.mono hb1h.out.size))
    clear hb2 ho
    go_wp2
    go_ret
    exact ⟨rfl, HB.out⟩
/-- What has been put together: a slice of the call's own, behind everything that was there. -/
def QAt (w2 : World) (q : List Nat) (A : Option Addr) (c : Nat) (wr : World) : Prop := wr.ownsRow w2.heap.size 3 1 (.slice A q.length c) q.length (rc q) ∧ Below w2.heap.size w2 wr
theorem QAt.of {w2 : World} {q : List Nat} {v : Value} {wr : World} (h : RAt w2 q v wr) : ∃ A c, v = .slice A q.length c ∧ QAt w2 q A c wr := by
  obtain ⟨A, c, rfl⟩ := shape_of h.1
  exact ⟨A, c, rfl, h⟩
theorem like_is {p s : List Nat} {A B : Option Addr} {c d : Nat} {w : World} (hp : LC w A c p) (hs : LC w B d s) : Calls Tryd.prog 33 #[.slice A p.length c, .slice B s.length d] w (LkAns p s w) :=
  like_any _ p s A B c d w (Nat.le_refl _) hp hs
set_option maxHeartbeats 8000000 in
theorem refMatch_loop (p s : ByteArray) (l m : List Nat) (h0 : 1 ≤ p.size) (h1 : p.size ≤ 24) (hs : s.size ≤ 2000000) (w : World) (h : rs p = some l) (k : nam s = some m) : Calls Tryd.prog 19 #[.string p, .string s] w (MtAns p s w) := by
  obtain ⟨i0, hii, hz0, hz1, hz2⟩ := info_parts rcInfo
  have H1 := Lib.hid (fun w => runs_yes (by omega) h w)
  have H2 := Lib.hid (fun w => fd_yes hs k w)
  have hP := Lib.hid (pat_of h h0 h1)
  have hll := rs_size h
  have HS := Lib.hid (rs_bytes h).1
  have HK := Lib.hid k
  have g0 : ¬ (p.size : Int) < 1 := by omega
  have g1 : ¬ (24 : Int) < p.size := by omega
  unfold MtAns
  clear h k
  go_enter Tryd.func19, Tryd.ntmps19
  go_wp2_with fail
  (with_reducible refine (H1.out _).mono ?_); rintro e w1 ⟨A, c, rfl, ho, hb1⟩
  have L1 := Lib.hid (own_LC ho)
  have hb1h := Lib.hid hb1
  clear hb1 ho H1
  go_wp2_with fail
  (with_reducible refine (H2.out _).mono ?_); rintro e w2 ⟨B, d, rfl, ho, hb2⟩
  have HB := Lib.hid (hb1h.out.trans (hb2.mono hb1h.out.size))
  have LP := Lib.hid (L1.out.below hb2)
  have LX := Lib.hid (own_LC ho)
  clear hb2 ho hb1h L1 H2
  have hQ0 := Lib.hid (RAt.start w2)
  go_wp2
  go_loopw [9, 10] (fun s9 s10 wr => ∃ (k qn qc : Nat) (qa : Option Addr), k ≤ l.length ∧ qn ≤ k ∧ s9 = .slice qa qn qc ∧ s10 = .int .i64 k ∧ Hid ((coll (l.take k)).length = qn) ∧ Hid (QAt w2 (coll (l.take k)) qa qc wr) ∧ Hid ((l.take k).all okN = true)) (fun _ s10 _ => l.length - (intOf s10).toNat)
  case atStart => exact ⟨0, 0, 0, none, by omega, by omega, rfl, rfl, Lib.hid rfl, Lib.hid hQ0.out, Lib.hid rfl⟩
  case round =>
    obtain ⟨k, qn, qc, qa, hk, hqk, rfl, rfl, HQ, HA, HO⟩ := hrel
    clear hQ0
    by_cases hlt : k < l.length
    · have hsz := HA.out.2.size
      obtain ⟨b1, o1, rfl, cp⟩ := (LP.out.below HA.out.2).at hlt
      have hr : l[k] ≤ 1114111 := by have := HS.out l[k] (List.getElem_mem _); unfold Scal at this; omega
      have hT := Lib.hid (show (l.take (k + 1)).all okN = okN l[k] by rw [List.take_succ_eq_append_getElem hlt, List.all_append, HO.out]; simp)
      have hN := Lib.hid (fun (d : okN l[k] = false) => show mtB p s = false by
        refine mtB_no (.inl ?_)
        rw [hP.out, if_neg]
        rw [Bool.not_eq_true, List.all_eq_false]
        exact ⟨l[k], List.getElem_mem _, by simp [d]⟩)
      have hC := Lib.hid (coll_next hlt)
      have hf0 := foldN_le l[k]
      generalize l[k] = r at *
      have HF := Lib.hid (fun w => fold_is hr w)
      have HW := Lib.hid (show (wr.alloc (.cells #[.int .i64 (foldN r : Nat)] 3)).ownsRow w2.heap.size 3 1 (.slice qa qn qc) qn (rc (coll (l.take k))) by
        have := HA.out.1.alloc (.cells #[.int .i64 (foldN r : Nat)] 3)
        rw [HQ.out] at this; exact this)
      -- what an append leaves
      have HX := Lib.hid (fun (hp : push 42 (coll (l.take k)) (foldN r) = coll (l.take k) ++ [foldN r]) (v4 : Value) (w4 : World)
          (hown4 : w4.ownsRow w2.heap.size 3 1 v4 (qn + 1) (rc (coll (l.take k)) ++ [.int .i64 (foldN r : Nat)])) (hg4 : (wr.alloc (.cells #[.int .i64 (foldN r : Nat)] 3)).grownBy w4 (Value.slice qa qn qc).ownBlock) =>
        show ∃ A' c', v4 = .slice A' (qn + 1) c' ∧ QAt w2 (coll (l.take (k + 1))) A' c' w4 by
          have h0 : RAt w2 (coll (l.take k)) (.slice qa qn qc) wr := by
            have := HA.out; unfold QAt at this; rw [HQ.out] at this; exact ⟨by rw [HQ.out]; exact this.1, this.2⟩
          have h1 := h0.next (by rw [HQ.out]; exact hown4) hg4
          obtain ⟨A', c', e1, e2⟩ := QAt.of h1
          rw [List.length_append, HQ.out] at e1
          rw [hC.out, hp]
          exact ⟨A', c', e1, e2⟩)
      have HL := Lib.hid (fun (hp : push 42 (coll (l.take k)) (foldN r) = coll (l.take k) ++ [foldN r]) => show (coll (l.take (k + 1))).length = qn + 1 by rw [hC.out, hp, List.length_append, HQ.out]; rfl)
      by_cases h42 : r = 42
      · have e1 : ((r : Int) != 42) = false := by simp; omega
        have HO' := Lib.hid (show (l.take (k + 1)).all okN = true by rw [hT.out, h42]; rfl)
        have hfr : foldN r = 42 := (fold_star r).2 h42
        rcases Nat.eq_zero_or_pos qn with hq0 | hq0
        · have hp : push 42 (coll (l.take k)) (foldN r) = coll (l.take k) ++ [foldN r] := push_add (fun hh => by
            have : coll (l.take k) = [] := List.eq_nil_of_length_eq_zero (by rw [HQ.out]; exact hq0)
            rw [this] at hh; simp at hh)
          have HX := Lib.hid (HX.out hp)
          have HL' := Lib.hid (Lib.hid (HL.out hp))
          subst hq0
          clear hp HL hT hN hC h42 hfr
          go_wp2_with fail
          (with_reducible refine (HF.out _).mono ?_); rintro e w' ⟨rfl, rfl⟩
          have hown := HW.out
          go_wp2_with (at_builtin; refine wpList_append_own _ rfl (.tmp 75) (.tmp 81) 22 rfl w2.heap.size 3 i0 (.int .i64 0) 1 8 Tryd.underlying22 hii hz0 hz1 hz2 rfl (by decide) _ 0 (rc (coll (l.take k))) rfl hown ⟨wr.heap.size, 0, none⟩ 1 1 [.int .i64 (foldN r : Nat)] rfl rfl (rcCell _ _ _) (rcOne _) (by unfold maxLen; omega) (by omega) (by simp; omega) ?_; intro v4 w4 hown4 hg4 _)
          obtain ⟨A', c', hv, hq⟩ := HX.out v4 w4 hown4 hg4
          have HQ' := Lib.hid hq
          have HV := Lib.hid hv
          clear hown hown4 hg4 hq hv
          have hv := HV.out
          subst hv
          go_wp2
          go_roundw
          case rel => exact ⟨k + 1, 0 + 1, c', A', by omega, by omega, rfl, by go_num, HL'.out, HQ', HO'⟩
          case measure => simp [intOf]; omega
        · obtain ⟨t, rfl⟩ : ∃ t, qn = t + 1 := ⟨qn - 1, by omega⟩
          have hlast : t < (coll (l.take k)).length := by rw [HQ.out]; omega
          obtain ⟨b2, o2, rfl, cq⟩ := (own_LC HA.out.1).at hlast
          have hgl : (coll (l.take k)).getLast? = some (coll (l.take k))[t] := by
            rw [List.getLast?_eq_getElem?, HQ.out, Nat.add_sub_cancel, List.getElem?_eq_getElem hlast]
          have t0 : ((t : Int) + 1 == 0) = false := by simp; omega
          have hgl := Lib.hid hgl
          generalize (coll (l.take k))[t] = z at *
          by_cases hz : z = 42
          · have hp : push 42 (coll (l.take k)) (foldN r) = coll (l.take k) := push_skip hfr (by rw [hgl.out, hz])
            have e2 : ((z : Int) != 42) = false := by simp; omega
            have HE := Lib.hid (show coll (l.take (k + 1)) = coll (l.take k) by rw [hC.out, hp])
            have HQ2 := Lib.hid (show (coll (l.take (k + 1))).length = t + 1 by rw [HE.out]; exact HQ.out)
            have HA2 := Lib.hid (show QAt w2 (coll (l.take (k + 1))) (some ⟨b2, o2, none⟩) qc wr by rw [HE.out]; exact HA.out)
            clear hp HL hT hN hC h42 hfr hz HX HW hgl
            go_wp2
            go_roundw
            case rel => exact ⟨k + 1, t + 1, qc, some ⟨b2, o2, none⟩, by omega, by omega, rfl, by go_num, HQ2, HA2, HO'⟩
            case measure => simp [intOf]; omega
          · have hp : push 42 (coll (l.take k)) (foldN r) = coll (l.take k) ++ [foldN r] := push_add (fun hh => hz (by rw [hgl.out] at hh; simpa using hh.2))
            have e2 : ((z : Int) != 42) = true := by simp; omega
            have HX := Lib.hid (HX.out hp)
            have HL' := Lib.hid (Lib.hid (HL.out hp))
            clear hp HL hT hN hC h42 hfr hz hgl
            go_wp2_with fail
            (with_reducible refine (HF.out _).mono ?_); rintro e w' ⟨rfl, rfl⟩
            have hown := HW.out
            go_wp2_with (at_builtin; refine wpList_append_own _ rfl (.tmp 75) (.tmp 81) 22 rfl w2.heap.size 3 i0 (.int .i64 0) 1 8 Tryd.underlying22 hii hz0 hz1 hz2 rfl (by decide) _ (t + 1) (rc (coll (l.take k))) rfl hown ⟨wr.heap.size, 0, none⟩ 1 1 [.int .i64 (foldN r : Nat)] rfl rfl (rcCell _ _ _) (rcOne _) (by unfold maxLen; omega) (by omega) (by simp; omega) ?_; intro v4 w4 hown4 hg4 _)
            obtain ⟨A', c', hv, hq⟩ := HX.out v4 w4 hown4 hg4
            have HQ' := Lib.hid hq
            have HV := Lib.hid hv
            clear hown hown4 hg4 hq hv
            have hv := HV.out
            subst hv
            go_wp2
            go_roundw
            case rel => exact ⟨k + 1, (t + 1) + 1, c', A', by omega, by omega, rfl, by go_num, HL'.out, HQ', HO'⟩
            case measure => simp [intOf]; omega
      · have e1 : ((r : Int) != 42) = true := by simp; omega
        by_cases d : letN r = true
        · have HO' := Lib.hid (show (l.take (k + 1)).all okN = true by rw [hT.out]; unfold okN; rw [d]; simp)
          have hp : push 42 (coll (l.take k)) (foldN r) = coll (l.take k) ++ [foldN r] := push_add (fun hh => h42 ((fold_star r).1 hh.1))
          have HLt := Lib.hid (fun w => letter_is (by omega) d w)
          have HX := Lib.hid (HX.out hp)
          have HL' := Lib.hid (Lib.hid (HL.out hp))
          clear hp HL hT hN hC h42 d
          go_wp2_with fail
          (with_reducible refine (HLt.out _).mono ?_); rintro e w' ⟨rfl, rfl⟩
          go_wp2_with fail
          (with_reducible refine (HF.out _).mono ?_); rintro e w' ⟨rfl, rfl⟩
          have hown := HW.out
          go_wp2_with (at_builtin; refine wpList_append_own _ rfl (.tmp 75) (.tmp 81) 22 rfl w2.heap.size 3 i0 (.int .i64 0) 1 8 Tryd.underlying22 hii hz0 hz1 hz2 rfl (by decide) _ qn (rc (coll (l.take k))) rfl hown ⟨wr.heap.size, 0, none⟩ 1 1 [.int .i64 (foldN r : Nat)] rfl rfl (rcCell _ _ _) (rcOne _) (by unfold maxLen; omega) (by omega) (by simp; omega) ?_; intro v4 w4 hown4 hg4 _)
          obtain ⟨A', c', hv, hq⟩ := HX.out v4 w4 hown4 hg4
          have HQ' := Lib.hid hq
          have HV := Lib.hid hv
          clear hown hown4 hg4 hq hv
          have hv := HV.out
          subst hv
          go_wp2
          go_roundw
          case rel => exact ⟨k + 1, qn + 1, c', A', by omega, by omega, rfl, by go_num, HL'.out, HQ', HO'⟩
          case measure => simp [intOf]; omega
        · have d : letN r = false := by simpa using d
          have HLt := Lib.hid (fun w => letter_is (by omega) d w)
          have HR := Lib.hid (hN.out (by unfold okN; rw [d]; simpa using h42))
          have HBB := Lib.hid (HB.out.trans (HA.out.2.mono HB.out.size))
          clear hT hN hC h42 d HX HL HW
          go_wp2_with fail
          (with_reducible refine (HLt.out _).mono ?_); rintro e w' ⟨rfl, rfl⟩
          go_wp2
          go_ret
          exact ⟨ret_bool HR.out.symm, HBB.out⟩
    · obtain rfl : k = l.length := by omega
      have hA := HA.out
      have hO := HO.out
      rw [List.take_length] at hA hO
      have hLq := own_LC hA.1
      have H3 := like_is hLq (LX.out.below hA.2)
      have hQ := HQ.out
      rw [List.take_length] at hQ
      rw [hQ] at H3
      unfold LkAns at H3
      have hm : lik 42 (coll l) m = mtB p s := by
        rw [coll_lik]
        unfold mtB
        rw [hP.out, if_pos hO, HK.out]
      rw [hm] at H3
      have H3h := Lib.hid H3
      have HBB := Lib.hid (HB.out.trans (hA.2.mono HB.out.size))
      clear hA hO hLq H3 hQ hm HA HO HQ
      go_wp2_with fail
      (with_reducible refine H3h.out.mono ?_); rintro e w' ⟨rfl, q, rfl⟩
      go_wp2
      go_ret
      exact ⟨rfl, Below_drewN HBB.out _⟩
theorem refMatch_any (p s : ByteArray) (hp : p.size ≤ 2000000) (hs : s.size ≤ 2000000) (w : World) : Calls Tryd.prog 19 #[.string p, .string s] w (MtAns p s w) := by
  cases h : rs p with
  | none => exact refMatch_no1 p s hp hs w h
  | some l =>
    cases k : nam s with
    | none => exact refMatch_no2 p s l hp hs w h k
    | some m =>
      by_cases hz : 1 ≤ p.size ∧ p.size ≤ 24
      · exact refMatch_loop p s l m hz.1 hz.2 hs w h k
      · exact refMatch_no3 p s l m hp hs w h k hz
end Go.Proofs.YthabmbjjpgcceaaDoor

