/-
  Layer 8: contract of the reference's ParseHeader. Every string of up to 2000000 bytes.
-/
import Derived.Test.YthhipejffpifkaaPcPar
namespace Go.Proofs.Ythhipejffpifkaa
open Go.ChangeShapes Go.WideShapes Go.ChangeAt Go.RowKit
set_option linter.unusedVariables false

theorem head_is {s : ByteArray} (h : 2 ≤ s.size) : (s.extract 0 2 = ⟨#[165, 1]⟩) ↔ (nb s.data.toList 0 = 165 ∧ nb s.data.toList 1 = 1) := by
  have hz : s.data.toList.length = s.size := (Lib.size_eq s).symm
  have hx : (s.extract 0 2).data.toList = s.data.toList.take 2 := ext_head s 2
  have e0 : s.extract 0 2 = ⟨#[165, 1]⟩ ↔ s.data.toList.take 2 = [165, 1] := by
    constructor
    · intro h; rw [← hx, h]
    · intro h; apply ByteArray.ext; apply Array.toList_inj.1; rw [hx, h]
  rw [e0]
  generalize s.data.toList = l at *
  match l, hz with
  | [], hz => simp at hz; omega
  | [a], hz => simp at hz; omega
  | a :: b :: l, _ =>
    rw [(nb_cons2 (l := l)).1, (nb_cons2 (l := l)).2]
    have e1 : a.toNat = 165 ↔ a = 165 := ⟨fun h => UInt8.toNat_inj.1 h, fun h => by rw [h]; rfl⟩
    have e2 : b.toNat = 1 ↔ b = 1 := ⟨fun h => UInt8.toNat_inj.1 h, fun h => by rw [h]; rfl⟩
    rw [e1, e2]; simp
theorem head_test {s : ByteArray} (h : 2 ≤ s.size) : ((s.extract 0 2).toList == [165, 1]) = decide (nb s.data.toList 0 = 165 ∧ nb s.data.toList 1 = 1) := by
  rw [Bool.eq_iff_iff, decide_eq_true_eq, ← head_is h, beq_iff_eq, ByteArray.toList_eq]
  constructor
  · intro k; apply ByteArray.ext; apply Array.toList_inj.1; exact k
  · intro k; rw [k]
theorem refParse_1 (s : ByteArray) (h : s.size < 12) (w : World) : Calls Try.prog 24 #[.string s] w (PrAns s.data.toList w) := by
  have hz : s.data.toList.length = s.size := (Lib.size_eq s).symm
  have hp := cf_pr (cf_1 (l := s.data.toList) (by omega)) (by decide)
  obtain ⟨e1, e2, e3, e4, e5⟩ := pr_bad hp (by decide)
  unfold PrAns
  rw [e1, e2, e3, e4, e5, hp]
  have g : (s.size : Int) < 12 := by omega
  clear e1 e2 e3 e4 e5 h hp
  go_enter Try.func24, Try.ntmps24
  go_wp2
  exact bodyPost_ret (v := .tuple #[.agg #[.string ⟨#[]⟩, .int .i64 0, .int .i64 0, .int .i64 0, .int .i64 0], .int .i64 9]) (by simp [results, Try.results24, go_sem]) rfl ⟨rfl, (Below.refl _ _).alloc (Nat.le_refl _) _⟩
set_option maxHeartbeats 1000000 in
theorem refParse_2 (s : ByteArray) (h : ¬ s.size < 12) (h2 : ¬ (nb s.data.toList 0 = 165 ∧ nb s.data.toList 1 = 1)) (w : World) : Calls Try.prog 24 #[.string s] w (PrAns s.data.toList w) := by
  have hz : s.data.toList.length = s.size := (Lib.size_eq s).symm
  have hp := cf_pr (cf_2 (l := s.data.toList) (by omega) h2) (by decide)
  obtain ⟨e1, e2, e3, e4, e5⟩ := pr_bad hp (by decide)
  unfold PrAns
  rw [e1, e2, e3, e4, e5, hp]
  have g : ¬ (s.size : Int) < 12 := by omega
  have g2 : 2 ≤ s.size := by omega
  have g3 : (2 : Int) ≤ (s.size : Int) := by omega
  have hT := head_test g2
  rw [decide_eq_false h2] at hT
  clear e1 e2 e3 e4 e5 h hp h2
  go_enter Try.func24, Try.ntmps24
  go_wp2
  exact bodyPost_ret (v := .tuple #[.agg #[.string ⟨#[]⟩, .int .i64 0, .int .i64 0, .int .i64 0, .int .i64 0], .int .i64 11]) (by simp [results, Try.results24, go_sem]) rfl ⟨rfl, (Below.refl _ _).alloc (Nat.le_refl _) _⟩
set_option maxHeartbeats 1000000 in
theorem refParse_3 (s : ByteArray) (hs : s.size ≤ 2000000) (h : ¬ s.size < 12) (h2 : nb s.data.toList 0 = 165 ∧ nb s.data.toList 1 = 1) (h3 : s.size < 12 + nb s.data.toList 9) (w : World) : Calls Try.prog 24 #[.string s] w (PrAns s.data.toList w) := by
  have hz : s.data.toList.length = s.size := (Lib.size_eq s).symm
  have hp := cf_pr (cf_3 (l := s.data.toList) (by omega) h2 (by omega)) (by decide)
  obtain ⟨e1, e2, e3, e4, e5⟩ := pr_bad hp (by decide)
  unfold PrAns
  rw [e1, e2, e3, e4, e5, hp]
  have g : ¬ (s.size : Int) < 12 := by omega
  have g2 : 2 ≤ s.size := by omega
  have g3 : (2 : Int) ≤ (s.size : Int) := by omega
  have hT := head_test g2
  have g9 : 9 < s.size := by omega
  have hv := nb_idx s 9 g9
  have hvl := nb_lt s.data.toList 9
  rw [decide_eq_true h2] at hT
  generalize nb s.data.toList 9 = c9 at *
  have g5 : (s.size : Int) < 12 + (c9 : Int) := by omega
  clear e1 e2 e3 e4 e5 h hp h2 h3
  go_enter Try.func24, Try.ntmps24
  go_wp2
  exact bodyPost_ret (v := .tuple #[.agg #[.string ⟨#[]⟩, .int .i64 0, .int .i64 0, .int .i64 0, .int .i64 0], .int .i64 9]) (by simp [results, Try.results24, go_sem]) rfl ⟨rfl, (Below.refl _ _).alloc (Nat.le_refl _) _⟩
set_option maxHeartbeats 1000000 in
theorem refParse_4 (s : ByteArray) (hs : s.size ≤ 2000000) (h : ¬ s.size < 12) (h2 : nb s.data.toList 0 = 165 ∧ nb s.data.toList 1 = 1) (h4 : 12 + nb s.data.toList 9 < s.size) (w : World) : Calls Try.prog 24 #[.string s] w (PrAns s.data.toList w) := by
  have hz : s.data.toList.length = s.size := (Lib.size_eq s).symm
  have hp := cf_pr (cf_4 (l := s.data.toList) (by omega) h2 (by omega) (by omega)) (by decide)
  obtain ⟨e1, e2, e3, e4, e5⟩ := pr_bad hp (by decide)
  unfold PrAns
  rw [e1, e2, e3, e4, e5, hp]
  have g : ¬ (s.size : Int) < 12 := by omega
  have g2 : 2 ≤ s.size := by omega
  have g3 : (2 : Int) ≤ (s.size : Int) := by omega
  have hT := head_test g2
  have g9 : 9 < s.size := by omega
  have hv := nb_idx s 9 g9
  have hvl := nb_lt s.data.toList 9
  rw [decide_eq_true h2] at hT
  generalize nb s.data.toList 9 = c9 at *
  have g5 : 12 + (c9 : Int) < (s.size : Int) := by omega
  have g6 : ¬ (s.size : Int) < 12 + (c9 : Int) := by omega
  clear e1 e2 e3 e4 e5 h hp h2 h4
  go_enter Try.func24, Try.ntmps24
  go_wp2
  exact bodyPost_ret (v := .tuple #[.agg #[.string ⟨#[]⟩, .int .i64 0, .int .i64 0, .int .i64 0, .int .i64 0], .int .i64 11]) (by simp [results, Try.results24, go_sem]) rfl ⟨rfl, (Below.refl _ _).alloc (Nat.le_refl _) _⟩
set_option maxHeartbeats 2000000 in
theorem refParse_sum (s : ByteArray) (m : Nat) (hm : s.size = m + 2) (hs : s.size ≤ 2000000) (h : cfE s.data.toList = 0) (hk : n2 s.data.toList m ≠ ck (s.data.toList.take m)) (w : World) : Calls Try.prog 24 #[.string s] w (PrAns s.data.toList w) := by
  have hz : s.data.toList.length = s.size := (Lib.size_eq s).symm
  obtain ⟨k1, k2, k3, k4⟩ := cf_ok h
  rw [hz, hm, Nat.add_sub_cancel, if_pos hk] at k4
  obtain ⟨e1, e2, e3, e4, e5⟩ := pr_bad k4 (by decide)
  unfold PrAns
  rw [e1, e2, e3, e4, e5, k4]
  have HN := Lib.hid (fun j hj w => refNumber_any s hs j m hj (by omega) w)
  have HC := Lib.hid (fun w => refChecksum_any (s.extract 0 m) (by simp; omega) w)
  unfold NumAns at HN
  unfold CkAns at HC
  rw [ext_head] at HC
  have ht := (sum_tests (n2 s.data.toList m) (ck (s.data.toList.take m))).2 hk
  generalize n2 s.data.toList m = a at *
  generalize ck (s.data.toList.take m) = b at *
  have g1 : (s.size : Int) - 2 = m := by omega
  have g2 : (m : Int) ≤ (s.size : Int) := by omega
  have g3 : (0 : Int) ≤ (m : Int) := by omega
  have g4 : m ≤ s.size := by omega
  have g5 : ¬ (s.size : Int) < m := by omega
  have g6 : ¬ s.size < m := by omega
  generalize hX : s.extract 0 m = X at *
  have gA : ¬ (s.size : Int) < 12 := by omega
  have gB : (2 : Int) ≤ (s.size : Int) := by omega
  have hT := head_test (show 2 ≤ s.size by omega)
  rw [decide_eq_true k2] at hT
  have g9 : 9 < s.size := by omega
  have hv9 := nb_idx s 9 g9
  have hvl9 := nb_lt s.data.toList 9
  have hN9 : (12 : Int) + (nb s.data.toList 9 : Nat) = (s.size : Int) := by omega
  generalize nb s.data.toList 9 = c9 at *
  have gC : ¬ (s.size : Int) < (s.size : Int) := by omega
  have gW : IntKind.i64.wrap ((s.size : Int) - 2) = m := by rw [IntWalk.i64_in _ (by omega)]; omega
  have gW2 : IntKind.i64.wrap (m : Int) = m := IntWalk.i64_in _ (by omega)
  have HZ := Lib.hid (fun n t cs => zeroed w n t cs)
  unfold put5 at HZ
  clear e1 e2 e3 e4 e5 h hk k1 k2 k3 k4 hz hm
  go_enter Try.func24, Try.ntmps24
  go_wp2_with fail
  go_quiet ((first
    | (go_at_call 32; exact Calls.quiet_of ((HN.out _ rfl _).mono fun _ _ h => h))
    | (go_at_call 25; exact Calls.quiet_of_same ((HC.out _).mono fun _ _ h => ⟨h.1, h.2.symm⟩))))
  go_wp2
  exact bodyPost_ret (v := .tuple #[.agg #[.string ⟨#[]⟩, .int .i64 0, .int .i64 0, .int .i64 0, .int .i64 0], .int .i64 10]) (by simp [results, Try.results24, go_sem]) rfl ⟨rfl, HZ.out _ _ _⟩
/-- The values, number by number. -/
def RpV (B0 : Nat) (s X : ByteArray) (m c p l f : Nat) : Nat → (Nat → Value) → World → Prop
  | 0, v, _ => v 0 = .string s
  | 1, v, _ => v 1 = .int .u8 c
  | 2, v, _ => v 2 = .int .i64 c
  | 3, v, _ => v 3 = .string s
  | 4, v, _ => v 4 = .int .i64 p
  | 5, v, _ => v 5 = .string s
  | 6, v, _ => v 6 = .int .i64 l
  | 7, v, _ => v 7 = .string s
  | 8, v, _ => v 8 = .int .i64 f
  | 9, v, _ => v 9 = .string s
  | 10, v, _ => v 10 = .int .i64 s.size
  | 11, v, _ => v 11 = .int .i64 m
  | 12, v, _ => v 12 = .string X
  | 13, v, _ => v 13 = .agg #[.string X, .int .i64 c, .int .i64 p, .int .i64 l, .int .i64 f]
  | 14, v, w => ∃ g, v 14 = .pointer (some ⟨g, 0, none⟩) ∧ B0 ≤ g ∧ g < w.heap.size ∧ Five g w
  | 15, v, w => ∃ g, v 14 = .pointer (some ⟨g, 0, none⟩) ∧ B0 ≤ g ∧ g < w.heap.size ∧ Whole w g 24 #[.string X, .int .i64 c, .int .i64 p, .int .i64 l, .int .i64 f]
  | _, _, _ => True
theorem RpV.keep {B0 : Nat} {s X : ByteArray} {m c p l f : Nat} (i : Nat) (v : Nat → Value) (w w' : World) (h : PrR B0 #[.string X, .int .i64 c, .int .i64 p, .int .i64 l, .int .i64 f] w w') (hv : RpV B0 s X m c p l f i v w) : RpV B0 s X m c p l f i v w' := by
  unfold RpV at *
  split at hv
  case h_15 => obtain ⟨g, h1, h2, h3, h4⟩ := hv; exact ⟨g, h1, h2, by have := h.1; omega, h.five h3 h4⟩
  case h_16 => obtain ⟨g, h1, h2, h3, h4⟩ := hv; exact ⟨g, h1, h2, by have := h.1; omega, h.hdr h3 h4⟩
  all_goals first | exact hv | trivial
set_option maxRecDepth 100000 in
set_option maxHeartbeats 4000000 in
theorem refParse_ok (s : ByteArray) (m : Nat) (hm : s.size = m + 2) (hs : s.size ≤ 2000000) (h : cfE s.data.toList = 0) (hk : n2 s.data.toList m = ck (s.data.toList.take m)) (w : World) : Calls Try.prog 24 #[.string s] w (PrAns s.data.toList w) := by
  have hz : s.data.toList.length = s.size := (Lib.size_eq s).symm
  obtain ⟨k1, k2, k3, k4⟩ := cf_ok h
  rw [hz, hm, Nat.add_sub_cancel, if_neg (fun k => k hk)] at k4
  have h12 : 12 ≤ s.size := by omega
  have HN := Lib.hid (fun j hj w => refNumber_any s hs j m hj (by omega) w)
  have HC := Lib.hid (fun w => refChecksum_any (s.extract 0 m) (by simp; omega) w)
  unfold NumAns at HN
  unfold CkAns at HC
  rw [ext_head] at HC
  have ht := (sum_tests (n2 s.data.toList m) (ck (s.data.toList.take m))).1 hk
  generalize n2 s.data.toList m = a at *
  generalize ck (s.data.toList.take m) = b at *
  have g1 : (s.size : Int) - 2 = m := by omega
  have g2 : (m : Int) ≤ (s.size : Int) := by omega
  have g3 : (0 : Int) ≤ (m : Int) := by omega
  have g4 : m ≤ s.size := by omega
  have g5 : (10 : Int) ≤ (m : Int) := by omega
  have g6 : ¬ s.size < m := by omega
  have g7 : 10 ≤ m := by omega
  have hX := ext_stn s m hm g7
  have hXs : (stn s.data.toList).size ≤ 2000000 := by rw [← hX]; simp; omega
  have h2s : 2 < s.size := by omega
  have hv := nb_idx s 2 h2s
  have hvl := nb_lt s.data.toList 2
  have HV := Lib.hid (fun b (hb : hdOk (stn s.data.toList) (nb s.data.toList 2) (n2 s.data.toList 3) (n2 s.data.toList 5) (n2 s.data.toList 7) = b) w => validHeader_is hXs hb w)
  have HE1 := Lib.hid (fun (hb : hdOk (stn s.data.toList) (nb s.data.toList 2) (n2 s.data.toList 3) (n2 s.data.toList 5) (n2 s.data.toList 7) = false) => show prE s.data.toList = 1 by rw [k4, hb]; rfl)
  have HE0 := Lib.hid (fun (hb : hdOk (stn s.data.toList) (nb s.data.toList 2) (n2 s.data.toList 3) (n2 s.data.toList 5) (n2 s.data.toList 7) = true) => show prE s.data.toList = 0 by rw [k4, hb]; rfl)
  generalize hdOk (stn s.data.toList) (nb s.data.toList 2) (n2 s.data.toList 3) (n2 s.data.toList 5) (n2 s.data.toList 7) = r at HV HE1 HE0
  have HP := Lib.hid (fun x e w' (hp : prE s.data.toList = x) (hx : x ≠ 0) (he : e = Ending.returned (.tuple #[.agg #[.string ⟨#[]⟩, .int .i64 0, .int .i64 0, .int .i64 0, .int .i64 0], .int .i64 x])) (hb : Below w.heap.size w w') => show PrAns s.data.toList w e w' by
    obtain ⟨e1, e2, e3, e4, e5⟩ := pr_bad hp hx
    unfold PrAns
    rw [e1, e2, e3, e4, e5, hp]
    exact ⟨he, hb⟩)
  have HG := Lib.hid (fun e w' (hp : prE s.data.toList = 0) (he : e = Ending.returned (.tuple #[.agg #[.string (stn s.data.toList), .int .i64 (nb s.data.toList 2 : Nat), .int .i64 (n2 s.data.toList 3 : Nat), .int .i64 (n2 s.data.toList 5 : Nat), .int .i64 (n2 s.data.toList 7 : Nat)], .int .i64 0])) (hb : Below w.heap.size w w') => show PrAns s.data.toList w e w' by
    obtain ⟨e1, e2, e3, e4, e5⟩ := pr_good hp
    unfold PrAns
    rw [e1, e2, e3, e4, e5, hp]
    exact ⟨he, hb⟩)
  have HA := Lib.hid (fun i => Whole.fresh w 24 i)
  have gA : ¬ (s.size : Int) < 12 := by omega
  have gB : (2 : Int) ≤ (s.size : Int) := by omega
  have hT := head_test (show 2 ≤ s.size by omega)
  rw [decide_eq_true k2] at hT
  have g9 : 9 < s.size := by omega
  have hv9 := nb_idx s 9 g9
  have hvl9 := nb_lt s.data.toList 9
  have hN9 : (12 : Int) + (nb s.data.toList 9 : Nat) = (s.size : Int) := by omega
  generalize nb s.data.toList 9 = c9 at *
  have gC : ¬ (s.size : Int) < (s.size : Int) := by omega
  have gW : IntKind.i64.wrap ((s.size : Int) - 2) = m := by rw [IntWalk.i64_in _ (by omega)]; omega
  have gW2 : IntKind.i64.wrap (m : Int) = m := IntWalk.i64_in _ (by omega)
  clear h hk k1 k2 k3 k4 hz hm
  generalize stn s.data.toList = X at *
  generalize hc' : nb s.data.toList 2 = c at *
  go_enter Try.func24, Try.ntmps24
  go_wp2_with fail
  go_quiet ((first
    | (go_at_call 32; exact Calls.quiet_of ((HN.out _ rfl _).mono fun _ _ h => h))
    | (go_at_call 25; exact Calls.quiet_of_same ((HC.out _).mono fun _ _ h => ⟨h.1, h.2.symm⟩))))
  go_wp2_with fail
  clear HN HC hc'
  have HW := Lib.hid ((HA.out #[.string ⟨#[]⟩, .int .i64 0, .int .i64 0, .int .i64 0, .int .i64 0]).carry (w' := (w.alloc (.cells #[.string ⟨#[]⟩, .int .i64 0, .int .i64 0, .int .i64 0, .int .i64 0] 24)).drewN nq) rfl)
  have HB := Lib.hid (Below_drewN ((Below.refl _ _).alloc (Nat.le_refl _) (.cells #[.string ⟨#[]⟩, .int .i64 0, .int .i64 0, .int .i64 0, .int .i64 0] 24)) nq : Below w.heap.size w _)
  generalize (w.alloc (.cells #[.string ⟨#[]⟩, .int .i64 0, .int .i64 0, .int .i64 0, .int .i64 0] 24)).drewN nq = W0 at *
  refine wp_region_looseR 61 (by kernel_rfl) (by kernel_rfl) (PrC W0) (PrR W0.heap.size #[.string X, .int .i64 c, .int .i64 (n2 s.data.toList 3 : Nat), .int .i64 (n2 s.data.toList 5 : Nat), .int .i64 (n2 s.data.toList 7 : Nat)]) (RpV W0.heap.size s X m c (n2 s.data.toList 3) (n2 s.data.toList 5) (n2 s.data.toList 7)) rfl (fun i v w w' h hv => RpV.keep i v w w' h hv) ?_ ((Below.refl _ _).drew) ?_ ?_
  · simp only [LocAll]
    refine ⟨?_, ?_, ?_, ?_, ?_, ?_, ?_, ?_, ?_, ?_, ?_, ?_, ?_, ?_, ?_, ?_, trivial⟩
    all_goals
      intro v v' wx h1 h2 h3
      simp [predL, predE, Region.binds, EqV] at h2
      first
        | exact h1.symm.trans h3
        | (obtain ⟨g, e, h4⟩ := h3; exact ⟨g, h1.symm.trans e, h4⟩)
        | (obtain ⟨g, e, h4⟩ := h3; exact ⟨g, by rw [← e]; simp [h2], h4⟩)
  · simp only [OblAllR]
    refine ⟨?_, ?_, ?_, ?_, ?_, ?_, ?_, ?_, ?_, ?_, ?_, ?_, ?_, ?_, ?_, ?_, trivial⟩
    all_goals
      intro fu wx vals hC hp
      simp [predL, predE, Region.binds, PreR, RpV] at hp
      simp only [fillA, if_true, Act.put]
      simp
      have HC := Lib.hid hC
      clear hC
    · go_wp2
      exact ⟨rfl, HC.out.later (Below.refl _ _), PrR.refl _ _ _, rfl⟩
    · simp only [hp]
      clear hp
      go_wp2
      exact ⟨rfl, HC.out.later (Below.refl _ _), PrR.refl _ _ _, rfl⟩
    · simp only [hp]
      clear hp
      go_wp2
      exact ⟨rfl, HC.out.later (Below.refl _ _), PrR.refl _ _ _, rfl⟩
    · go_wp2
      exact ⟨rfl, HC.out.later (Below.refl _ _), PrR.refl _ _ _, rfl⟩
    · simp only [hp]
      clear hp
      have HN := Lib.hid (fun w => refNumber_any s hs 3 3 rfl (by omega) w)
      unfold NumAns at HN
      go_wp2_with fail
      (with_reducible refine (HN.out _).mono ?_); rintro e w2 ⟨rfl, nn, rfl⟩
      go_wp2
      exact ⟨rfl, HC.out.later (below_drewN' _ _), PrR.below (below_drewN' _ _), rfl⟩
    · go_wp2
      exact ⟨rfl, HC.out.later (Below.refl _ _), PrR.refl _ _ _, rfl⟩
    · simp only [hp]
      clear hp
      have HN := Lib.hid (fun w => refNumber_any s hs 5 5 rfl (by omega) w)
      unfold NumAns at HN
      go_wp2_with fail
      (with_reducible refine (HN.out _).mono ?_); rintro e w2 ⟨rfl, nn, rfl⟩
      go_wp2
      exact ⟨rfl, HC.out.later (below_drewN' _ _), PrR.below (below_drewN' _ _), rfl⟩
    · go_wp2
      exact ⟨rfl, HC.out.later (Below.refl _ _), PrR.refl _ _ _, rfl⟩
    · simp only [hp]
      clear hp
      have HN := Lib.hid (fun w => refNumber_any s hs 7 7 rfl (by omega) w)
      unfold NumAns at HN
      go_wp2_with fail
      (with_reducible refine (HN.out _).mono ?_); rintro e w2 ⟨rfl, nn, rfl⟩
      go_wp2
      exact ⟨rfl, HC.out.later (below_drewN' _ _), PrR.below (below_drewN' _ _), rfl⟩
    · go_wp2
      exact ⟨rfl, HC.out.later (Below.refl _ _), PrR.refl _ _ _, rfl⟩
    · go_wp2
      exact ⟨rfl, HC.out.later (Below.refl _ _), PrR.refl _ _ _, rfl⟩
    · simp only [hp]
      clear hp
      go_wp2
      exact ⟨rfl, HC.out.later (Below.refl _ _), PrR.refl _ _ _, rfl⟩
    · obtain ⟨h1, h2⟩ := hp
      simp only [h1, h2]
      clear h1 h2
      go_wp2
      exact ⟨rfl, HC.out.later (Below.refl _ _), PrR.refl _ _ _, rfl⟩
    · obtain ⟨h1, h2, h3, h4, h5⟩ := hp
      simp only [h1, h2, h3, h4, h5]
      clear h1 h2 h3 h4 h5
      go_wp2
      exact ⟨rfl, HC.out.later (Below.refl _ _), PrR.refl _ _ _, rfl⟩
    · clear hp
      go_wp2
      exact ⟨rfl, HC.out.later ((Below.refl _ _).alloc (Nat.le_refl _) _), PrR.below ((Below.refl _ _).alloc (Nat.le_refl _) _), five_new _ HC.out.size _ _ _ _ _⟩
    · obtain ⟨⟨g, e1, gl, gh, c0, c1, c2, c3, c4, hw⟩, e2, hrest⟩ := hp
      clear hrest
      simp only [e1, e2]
      have HE := Lib.hid e1
      have HS := Lib.hid (HC.out.store (k := fu) (u0 := .string X) (u1 := .int .i64 c) (u2 := .int .i64 (n2 s.data.toList 3 : Nat)) (u3 := .int .i64 (n2 s.data.toList 5 : Nat)) (u4 := .int .i64 (n2 s.data.toList 7 : Nat)) gl hw)
      unfold put5 at HS
      have d0 := hw.read 0
      have d1 := hw.read 1
      have d2 := hw.read 2
      have d3 := hw.read 3
      have d4 := hw.read 4
      have z0 := hw.free 0
      have z1 := hw.free 1
      have z2 := hw.free 2
      have z3 := hw.free 3
      have z4 := hw.free 4
      simp at d0 d1 d2 d3 d4
      clear hw e1 e2
      go_wp2
      exact ⟨rfl, HS.out.1, HS.out.2.1, g, HE.out, gl, HS.out.2.2.1, HS.out.2.2.2⟩
  · intro w2 vals hC hV
    obtain ⟨g, e14, gl, gh, hw⟩ := (show ∃ g, vals 14 = .pointer (some ⟨g, 0, none⟩) ∧ W0.heap.size ≤ g ∧ g < w2.heap.size ∧ Whole w2 g 24 #[.string X, .int .i64 c, .int .i64 (n2 s.data.toList 3 : Nat), .int .i64 (n2 s.data.toList 5 : Nat), .int .i64 (n2 s.data.toList 7 : Nat)] from hV 15 (by simp))
    clear hV
    have hr0 := HW.out.later hC
    have HB2 := Lib.hid (HB.out.trans (Below.mono hC HB.out.size))
    have d0 := hw.read 0
    have d1 := hw.read 1
    have d2 := hw.read 2
    have d3 := hw.read 3
    have d4 := hw.read 4
    simp at d0 d1 d2 d3 d4
    have HW2 := Lib.hid hw
    have HR0 := Lib.hid hr0
    have HVr := Lib.hid (fun w => HV.out r rfl w)
    unfold BoolAns at HVr
    clear hC hw hr0 HV HW HB HA
    simp only [fillA, if_true, Act.put]
    simp
    simp only [e14]
    clear e14
    generalize n2 s.data.toList 3 = p at *
    generalize n2 s.data.toList 5 = l at *
    generalize n2 s.data.toList 7 = f at *
    go_wp2_with fail
    (with_reducible refine (HVr.out _).mono ?_); rintro e w3 ⟨rfl, hb⟩
    have hw3 := HW2.out.later hb
    have hr3 := HR0.out.later hb
    have HB3 := Lib.hid (HB2.out.trans (hb.mono HB2.out.size))
    clear d0 d1 d2 d3 d4 hb
    have q0 := hr3.read 0
    have q1 := hr3.read 1
    have q2 := hr3.read 2
    have q3 := hr3.read 3
    have q4 := hr3.read 4
    have z0 := hr3.free 0
    have z1 := hr3.free 1
    have z2 := hr3.free 2
    have z3 := hr3.free 3
    have z4 := hr3.free 4
    simp at q0 q1 q2 q3 q4
    rcases r with _ | _
    · have HZ := Lib.hid (Below.trans HB3.out (put5_below (u0 := .string ⟨#[]⟩) (u1 := .int .i64 0) (u2 := .int .i64 0) (u3 := .int .i64 0) (u4 := .int .i64 0) (Nat.le_refl _)))
      unfold put5 at HZ
      clear hw3 hr3
      go_wp2
      exact bodyPost_ret (v := .tuple #[.agg #[.string ⟨#[]⟩, .int .i64 0, .int .i64 0, .int .i64 0, .int .i64 0], .int .i64 1]) (by simp [results, Try.results24, go_sem, q0, q1, q2, q3, q4]) rfl (HP.out 1 _ _ (HE1.out (by trivial)) (by decide) rfl HZ.out)
    · have d0 := hw3.read 0
      have d1 := hw3.read 1
      have d2 := hw3.read 2
      have d3 := hw3.read 3
      have d4 := hw3.read 4
      simp at d0 d1 d2 d3 d4
      have HZ := Lib.hid (Below.trans HB3.out (put5_below (u0 := .string X) (u1 := .int .i64 c) (u2 := .int .i64 p) (u3 := .int .i64 l) (u4 := .int .i64 f) (Nat.le_refl _)))
      unfold put5 at HZ
      clear hw3 hr3
      go_wp2
      exact bodyPost_ret (v := .tuple #[.agg #[.string X, .int .i64 c, .int .i64 p, .int .i64 l, .int .i64 f], .int .i64 0]) (by simp [results, Try.results24, go_sem, q0, q1, q2, q3, q4]) rfl (HG.out _ _ (HE0.out (by trivial)) rfl HZ.out)
theorem refParse_any (s : ByteArray) (hs : s.size ≤ 2000000) (w : World) : Calls Try.prog 24 #[.string s] w (PrAns s.data.toList w) := by
  have hz : s.data.toList.length = s.size := (Lib.size_eq s).symm
  by_cases h1 : s.size < 12
  · exact refParse_1 s h1 w
  · by_cases h2 : nb s.data.toList 0 = 165 ∧ nb s.data.toList 1 = 1
    · by_cases h3 : s.size < 12 + nb s.data.toList 9
      · exact refParse_3 s hs h1 h2 h3 w
      · by_cases h4 : 12 + nb s.data.toList 9 < s.size
        · exact refParse_4 s hs h1 h2 h4 w
        · have h : cfE s.data.toList = 0 := cf_5 (by omega) h2 (by omega) (by omega)
          obtain ⟨m, hm⟩ : ∃ m, s.size = m + 2 := ⟨s.size - 2, by omega⟩
          by_cases hk : n2 s.data.toList m = ck (s.data.toList.take m)
          · exact refParse_ok s m hm hs h hk w
          · exact refParse_sum s m hm hs h hk w
    · exact refParse_2 s h1 h2 w
end Go.Proofs.Ythhipejffpifkaa

