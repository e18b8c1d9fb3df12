/-
  Layer 8: contract of Parse. Every string of up to 2000000 bytes.
-/
import Derived.Test.YthhipejffpifkaaPcFmt
import Derived.Test.YthhipejffpifkaaPcShelf
import Derived.Test.YthhipejffpifkaaLoose
import Derived.Test.YthhipejffpifkaaHdGen
namespace Go.Proofs.Ythhipejffpifkaa
open Go.ChangeShapes Go.WideShapes Go.ChangeAt Go.RowKit
set_option linter.unusedVariables false

theorem clone_any (s : ByteArray) (hs : s.size ≤ 2000000) (w : World) : Calls Try.prog 29 #[.string s] w (StrAns s w) := by
  have H := Lib.hid (fun w => pc_clone0 s w (by omega))
  unfold StrAns
  go_enter Try.func29, Try.ntmps29
  go_wp2_with fail
  (with_reducible refine (H.out _).mono ?_); rintro e w1 ⟨rfl, hb⟩
  go_wp2
  go_ret
  exact ⟨rfl, hb⟩
/-- What is wrong with a record's form: 0 if nothing is. -/
def cfE (l : List UInt8) : Int :=
  if l.length < 12 then 9
  else if ¬ (nb l 0 = 165 ∧ nb l 1 = 1) then 11
  else if l.length < 12 + nb l 9 then 9
  else if 12 + nb l 9 < l.length then 11 else 0
/-- The header that a record holds; nothing where it is none. -/
def pS (l : List UInt8) : ByteArray := if prE l = 0 then stn l else ⟨#[]⟩
def pC (l : List UInt8) : Int := if prE l = 0 then nb l 2 else 0
def pP (l : List UInt8) : Int := if prE l = 0 then n2 l 3 else 0
def pL (l : List UInt8) : Int := if prE l = 0 then n2 l 5 else 0
def pF (l : List UInt8) : Int := if prE l = 0 then n2 l 7 else 0
/-- What Parse answers. -/
def PrAns (l : List UInt8) (w : World) (e : Ending) (w' : World) : Prop := e = .returned (.tuple #[.agg #[.string (pS l), .int .i64 (pC l), .int .i64 (pP l), .int .i64 (pL l), .int .i64 (pF l)], .int .i64 (prE l)]) ∧ Below w.heap.size w w'
theorem pr_bad {l : List UInt8} {x : Int} (h : prE l = x) (hx : x ≠ 0) : pS l = ⟨#[]⟩ ∧ pC l = 0 ∧ pP l = 0 ∧ pL l = 0 ∧ pF l = 0 := by
  subst h; unfold pS pC pP pL pF
  rw [if_neg hx, if_neg hx, if_neg hx, if_neg hx, if_neg hx]; exact ⟨rfl, rfl, rfl, rfl, rfl⟩
theorem pr_good {l : List UInt8} (h : prE l = 0) : pS l = stn l ∧ pC l = nb l 2 ∧ pP l = n2 l 3 ∧ pL l = n2 l 5 ∧ pF l = n2 l 7 := by
  unfold pS pC pP pL pF
  rw [if_pos h, if_pos h, if_pos h, if_pos h, if_pos h]; exact ⟨rfl, rfl, rfl, rfl, rfl⟩
theorem cf_pr {l : List UInt8} {x : Int} (h : cfE l = x) (hx : x ≠ 0) : prE l = x := by
  subst h
  unfold cfE at *
  unfold prE
  by_cases h1 : l.length < 12
  · rw [if_pos h1, if_pos h1]
  · rw [if_neg h1, if_neg h1]
    by_cases h2 : ¬ (nb l 0 = 165 ∧ nb l 1 = 1)
    · rw [if_pos h2, if_pos h2]
    · rw [if_neg h2, if_neg h2]
      by_cases h3 : l.length < 12 + nb l 9
      · rw [if_pos h3, if_pos h3]
      · rw [if_neg h3, if_neg h3]
        by_cases h4 : 12 + nb l 9 < l.length
        · rw [if_pos h4, if_pos h4]
        · rw [if_neg h1, if_neg h2, if_neg h3, if_neg h4] at hx
          exact absurd rfl hx
theorem cf_ok {l : List UInt8} (h : cfE l = 0) : 12 ≤ l.length ∧ (nb l 0 = 165 ∧ nb l 1 = 1) ∧ l.length = 12 + nb l 9 ∧ prE l = (if n2 l (l.length - 2) ≠ ck (l.take (l.length - 2)) then 10 else if hdOk (stn l) (nb l 2) (n2 l 3) (n2 l 5) (n2 l 7) then 0 else 1) := by
  unfold cfE at h
  by_cases h1 : l.length < 12
  · rw [if_pos h1] at h; cases h
  · rw [if_neg h1] at h
    by_cases h2 : ¬ (nb l 0 = 165 ∧ nb l 1 = 1)
    · rw [if_pos h2] at h; cases h
    · rw [if_neg h2] at h
      by_cases h3 : l.length < 12 + nb l 9
      · rw [if_pos h3] at h; cases h
      · rw [if_neg h3] at h
        by_cases h4 : 12 + nb l 9 < l.length
        · rw [if_pos h4] at h; cases h
        · refine ⟨by omega, Decidable.not_not.1 h2, by omega, ?_⟩
          unfold prE
          rw [if_neg h1, if_neg h2, if_neg h3, if_neg h4]
theorem cf_1 {l : List UInt8} (h1 : l.length < 12) : cfE l = 9 := by unfold cfE; rw [if_pos h1]
theorem cf_2 {l : List UInt8} (h1 : ¬ l.length < 12) (h2 : ¬ (nb l 0 = 165 ∧ nb l 1 = 1)) : cfE l = 11 := by unfold cfE; rw [if_neg h1, if_pos h2]
theorem cf_3 {l : List UInt8} (h1 : ¬ l.length < 12) (h2 : nb l 0 = 165 ∧ nb l 1 = 1) (h3 : l.length < 12 + nb l 9) : cfE l = 9 := by unfold cfE; rw [if_neg h1, if_neg (fun k => k h2), if_pos h3]
theorem cf_4 {l : List UInt8} (h1 : ¬ l.length < 12) (h2 : nb l 0 = 165 ∧ nb l 1 = 1) (h3 : ¬ l.length < 12 + nb l 9) (h4 : 12 + nb l 9 < l.length) : cfE l = 11 := by unfold cfE; rw [if_neg h1, if_neg (fun k => k h2), if_neg h3, if_pos h4]
theorem cf_5 {l : List UInt8} (h1 : ¬ l.length < 12) (h2 : nb l 0 = 165 ∧ nb l 1 = 1) (h3 : ¬ l.length < 12 + nb l 9) (h4 : ¬ 12 + nb l 9 < l.length) : cfE l = 0 := by unfold cfE; rw [if_neg h1, if_neg (fun k => k h2), if_neg h3, if_neg h4]
theorem nb_cons2 {a b : UInt8} {l : List UInt8} : nb (a :: b :: l) 0 = a.toNat ∧ nb (a :: b :: l) 1 = b.toNat := ⟨rfl, rfl⟩
/-- A string begins as a record does. -/
theorem start_is {l : List UInt8} (h : 2 ≤ l.length) : Lib.hasPrefix l [165, 1] = decide (nb l 0 = 165 ∧ nb l 1 = 1) := by
  match l, h with
  | a :: b :: l, _ =>
    rw [(nb_cons2 (l := l)).1, (nb_cons2 (l := l)).2]
    rw [Bool.eq_iff_iff, decide_eq_true_eq]
    have e1 : a.toNat = 165 ↔ a = 165 := ⟨fun h => UInt8.toNat_inj.1 h, fun h => by rw [h]; rfl⟩
    have e2 : b.toNat = 1 ↔ b = 1 := ⟨fun h => UInt8.toNat_inj.1 h, fun h => by rw [h]; rfl⟩
    rw [e1, e2]
    simp [Lib.hasPrefix]
    constructor <;> (rintro ⟨h1, h2⟩; exact ⟨h1.symm, h2.symm⟩)
theorem hasPrefix_is {s : ByteArray} {b : Bool} (h : Lib.hasPrefix s.data.toList [165, 1] = b) (w : World) : Calls Try.prog 33 #[.string s, .string ⟨#[165, 1]⟩] w fun e w' => e = .returned (.bool b) ∧ w = w' :=
  (pc_hasPrefix s ⟨#[165, 1]⟩ w).mono fun _ _ ⟨h1, h2⟩ => ⟨by rw [h1, ← h], h2.symm⟩
set_option maxHeartbeats 1000000 in
theorem checkForm_any (s : ByteArray) (hs : s.size ≤ 9223372036854775807) (w : World) : Calls Try.prog 27 #[.string s] w fun e w' => e = .returned (.int .i64 (cfE s.data.toList)) ∧ w = w' := by
  have hz : s.data.toList.length = s.size := (Lib.size_eq s).symm
  by_cases h1 : s.size < 12
  · have g1 : (s.size : Int) < 12 := by omega
    rw [cf_1 (by omega)]
    go_enter Try.func27, Try.ntmps27
    go_wp2
    go_ret
    exact ⟨rfl, rfl⟩
  · have g1 : ¬ (s.size : Int) < 12 := by omega
    by_cases h2 : nb s.data.toList 0 = 165 ∧ nb s.data.toList 1 = 1
    · have HP := Lib.hid (fun w => hasPrefix_is (show Lib.hasPrefix s.data.toList [165, 1] = true by rw [start_is (by omega)]; exact decide_eq_true h2) w)
      have g9 : 9 < s.size := by omega
      have hv := nb_idx s 9 g9
      have hvl := nb_lt s.data.toList 9
      have c3 := fun h3 => cf_3 (l := s.data.toList) (by omega) h2 h3
      have c4 := fun h3 h4 => cf_4 (l := s.data.toList) (by omega) h2 h3 h4
      have c5 := fun h3 h4 => cf_5 (l := s.data.toList) (by omega) h2 h3 h4
      rw [hz] at c3 c4 c5
      generalize cfE s.data.toList = r at *
      generalize nb s.data.toList 9 = n at *
      have C3 := Lib.hid c3
      have C4 := Lib.hid c4
      have C5 := Lib.hid c5
      clear c3 c4 c5 h2 hz
      go_enter Try.func27, Try.ntmps27
      go_wp2_with fail
      (with_reducible refine (HP.out _).mono ?_); rintro e w' ⟨rfl, rfl⟩
      go_wp2
      all_goals
        go_ret
        first
          | exact ⟨ret_int (C3.out (by omega)).symm, rfl⟩
          | exact ⟨ret_int (C4.out (by omega) (by omega)).symm, rfl⟩
          | exact ⟨ret_int (C5.out (by omega) (by omega)).symm, rfl⟩
    · have HP := Lib.hid (fun w => hasPrefix_is (show Lib.hasPrefix s.data.toList [165, 1] = false by rw [start_is (by omega)]; exact decide_eq_false h2) w)
      rw [cf_2 (by omega) h2]
      clear h2
      go_enter Try.func27, Try.ntmps27
      go_wp2_with fail
      (with_reducible refine (HP.out _).mono ?_); rintro e w' ⟨rfl, rfl⟩
      go_wp2
      go_ret
      exact ⟨rfl, rfl⟩
/-- A record's parts as strings. -/
theorem ext_stn (s : ByteArray) (m : Nat) (h : s.size = m + 2) (h10 : 10 ≤ m) : s.extract 10 m = stn s.data.toList := by
  unfold stn
  apply ByteArray.ext
  apply Array.toList_inj.1
  have hz : s.data.toList.length = s.size := (Lib.size_eq s).symm
  simp only [ByteArray.data_extract, Array.toList_extract, List.extract_eq_take_drop]
  rw [hz, h, show m + 2 - 12 = m - 10 by omega]
theorem ext_head (s : ByteArray) (m : Nat) : (s.extract 0 m).data.toList = s.data.toList.take m := by
  simp [List.extract_eq_take_drop]
/-- Five cells of a header's type. -/
def Five (b : Nat) (w : World) : Prop := ∃ c0 c1 c2 c3 c4, Whole w b 24 #[c0, c1, c2, c3, c4]
/-- What an operation may do: a new header's block may be given the header cs. -/
def PrR (B0 : Nat) (cs : Array Value) (w w' : World) : Prop := w.heap.size ≤ w'.heap.size ∧ ∀ b, b < w.heap.size → w'.heap[b]? = w.heap[b]? ∨ (B0 ≤ b ∧ Five b w ∧ Whole w' b 24 cs)
theorem PrR.refl (B0 : Nat) (cs : Array Value) (w : World) : PrR B0 cs w w := ⟨Nat.le_refl _, fun _ _ => .inl rfl⟩
theorem PrR.below {B0 : Nat} {cs : Array Value} {w w' : World} (h : Below w.heap.size w w') : PrR B0 cs w w' := ⟨h.size, fun b hb => .inl (h.block b hb)⟩
def PrC (W0 : World) (_ : Nat) (w : World) : Prop := Below W0.heap.size W0 w
theorem PrC.later {W0 w w' : World} {n m : Nat} (h : PrC W0 n w) (hb : Below w.heap.size w w') : PrC W0 m w' := Below.trans h (hb.mono h.size)
/-- The values, number by number. -/
def PrV (B0 : Nat) (s X : ByteArray) (m c p l f : Nat) : Nat → (Nat → Value) → World → Prop
  | 0, v, _ => v 0 = .string s
  | 1, v, _ => v 1 = .int .i64 m
  | 2, v, _ => v 2 = .string X
  | 3, v, _ => v 3 = .string X
  | 4, v, _ => v 4 = .string s
  | 5, v, _ => v 5 = .int .u8 c
  | 6, v, _ => v 6 = .int .i64 c
  | 7, v, _ => v 7 = .string s
  | 8, v, _ => v 8 = .int .i64 p
  | 9, v, _ => v 9 = .string s
  | 10, v, _ => v 10 = .int .i64 l
  | 11, v, _ => v 11 = .string s
  | 12, v, _ => v 12 = .int .i64 f
  | 13, v, _ => v 13 = .agg #[.string X, .int .i64 c, .int .i64 p, .int .i64 l, .int .i64 f]
  | 14, v, w => ∃ g, v 14 = .pointer (some ⟨g, 0, none⟩) ∧ B0 ≤ g ∧ g < w.heap.size ∧ Five g w
  | 15, v, w => ∃ g, v 14 = .pointer (some ⟨g, 0, none⟩) ∧ B0 ≤ g ∧ g < w.heap.size ∧ Whole w g 24 #[.string X, .int .i64 c, .int .i64 p, .int .i64 l, .int .i64 f]
  | _, _, _ => True
theorem PrR.five {B0 g : Nat} {c0 c1 c2 c3 c4 : Value} {w w' : World} (h : PrR B0 #[c0, c1, c2, c3, c4] w w') (hg : g < w.heap.size) (hf : Five g w) : Five g w' := by
  rcases h.2 g hg with e | ⟨_, _, e⟩
  · obtain ⟨d0, d1, d2, d3, d4, hw⟩ := hf
    exact ⟨d0, d1, d2, d3, d4, hw.carry e⟩
  · exact ⟨_, _, _, _, _, e⟩
theorem PrR.hdr {B0 g : Nat} {cs : Array Value} {w w' : World} (h : PrR B0 cs w w') (hg : g < w.heap.size) (hf : Whole w g 24 cs) : Whole w' g 24 cs := by
  rcases h.2 g hg with e | ⟨_, _, e⟩
  · exact hf.carry e
  · exact e
theorem PrV.keep {B0 : Nat} {s X : ByteArray} {m c p l f : Nat} (i : Nat) (v : Nat → Value) (w w' : World) (h : PrR B0 #[.string X, .int .i64 c, .int .i64 p, .int .i64 l, .int .i64 f] w w') (hv : PrV B0 s X m c p l f i v w) : PrV B0 s X m c p l f i v w' := by
  unfold PrV at *
  split at hv
  case h_15 => obtain ⟨g, h1, h2, h3, h4⟩ := hv; exact ⟨g, h1, h2, by have := h.1; omega, h.five h3 h4⟩
  case h_16 => obtain ⟨g, h1, h2, h3, h4⟩ := hv; exact ⟨g, h1, h2, by have := h.1; omega, h.hdr h3 h4⟩
  all_goals first | exact hv | trivial
theorem five_new (w : World) {B0 : Nat} (h : B0 ≤ w.heap.size) (c0 c1 c2 c3 c4 : Value) : ∃ g, Value.pointer (some (⟨w.heap.size, 0, none⟩ : Addr)) = .pointer (some ⟨g, 0, none⟩) ∧ B0 ≤ g ∧ g < (w.alloc (.cells #[c0, c1, c2, c3, c4] 24)).heap.size ∧ Five g (w.alloc (.cells #[c0, c1, c2, c3, c4] 24)) :=
  ⟨w.heap.size, rfl, h, by simp, _, _, _, _, _, Whole.fresh w _ _⟩
theorem PrC.store {W0 w : World} {g n k : Nat} {c0 c1 c2 c3 c4 u0 u1 u2 u3 u4 : Value} (h : PrC W0 n w) (hg : W0.heap.size ≤ g) (hw : Whole w g 24 #[c0, c1, c2, c3, c4]) :
    PrC W0 k (put5 w g u0 u1 u2 u3 u4) ∧ PrR W0.heap.size #[u0, u1, u2, u3, u4] w (put5 w g u0 u1 u2 u3 u4) ∧ g < (put5 w g u0 u1 u2 u3 u4).heap.size ∧ Whole (put5 w g u0 u1 u2 u3 u4) g 24 #[u0, u1, u2, u3, u4] := by
  refine ⟨Below.trans h (put5_below hg), ⟨by rw [put5_size]; exact Nat.le_refl _, fun b hb => ?_⟩, by rw [put5_size]; exact hw.size_lt, hw.put5⟩
  by_cases e : b = g
  · subst e; exact .inr ⟨hg, ⟨_, _, _, _, _, hw⟩, hw.put5⟩
  · exact .inl (put5_far e)
theorem below_drewN' (w : World) (n : Nat) : Below w.heap.size w (w.drewN n) := Below_drewN (Below.refl _ _) n
theorem checkForm_is {s : ByteArray} (hs : s.size ≤ 9223372036854775807) {x : Int} (h : cfE s.data.toList = x) (w : World) : Calls Try.prog 27 #[.string s] w fun e w' => e = .returned (.int .i64 x) ∧ w = w' := h ▸ checkForm_any s hs w
theorem parse_form (s : ByteArray) (hs : s.size ≤ 9223372036854775807) (x : Int) (h : cfE s.data.toList = x) (hx : x ≠ 0) (w : World) : Calls Try.prog 17 #[.string s] w (PrAns s.data.toList w) := by
  have hp := cf_pr h hx
  obtain ⟨e1, e2, e3, e4, e5⟩ := pr_bad hp hx
  unfold PrAns
  rw [e1, e2, e3, e4, e5, hp]
  have HF := Lib.hid (fun w => checkForm_is hs h w)
  have hx' : (x != 0) = true := by simpa using hx
  clear e1 e2 e3 e4 e5 h hp hx
  go_enter Try.func17, Try.ntmps17
  go_wp2_with fail
  (with_reducible refine (HF.out _).mono ?_); rintro e w' ⟨rfl, rfl⟩
  go_wp2
  exact bodyPost_ret (v := .tuple #[.agg #[.string ⟨#[]⟩, .int .i64 0, .int .i64 0, .int .i64 0, .int .i64 0], .int .i64 x]) (by simp [results, Try.results17, go_sem]) rfl ⟨rfl, (Below.refl _ _).alloc (Nat.le_refl _) _⟩
/-- The sums that Parse compares. -/
theorem sum_tests (a b : Nat) : (a = b → ((a : Int) != (b : Int)) = false) ∧ (a ≠ b → ((a : Int) != (b : Int)) = true) := by
  constructor <;> intro h <;> simp <;> omega
/-- The zero header. -/
def zeroH : Array Value := #[.string ⟨#[]⟩, .int .i64 0, .int .i64 0, .int .i64 0, .int .i64 0]
theorem zeroed (w : World) (n : Nat) (t : TypeId) (cs : Array Value) : Below w.heap.size w (put5 ((w.alloc (.cells cs t)).drewN n) w.heap.size (.string ⟨#[]⟩) (.int .i64 0) (.int .i64 0) (.int .i64 0) (.int .i64 0)) :=
  Below.trans (Below_drewN ((Below.refl _ _).alloc (Nat.le_refl _) _) n) (put5_below (Nat.le_refl _))
theorem parse_sum (s : ByteArray) (m : Nat) (hm : s.size = m + 2) (hs : s.size ≤ 2000000) (h : cfE s.data.toList = 0) (hk : n2 s.data.toList m ≠ ck (s.data.toList.take m)) (w : World) : Calls Try.prog 17 #[.string s] w (PrAns s.data.toList w) := by
  have hz : s.data.toList.length = s.size := (Lib.size_eq s).symm
  obtain ⟨k1, k2, k3, k4⟩ := cf_ok h
  rw [hz, hm, Nat.add_sub_cancel, if_pos hk] at k4
  obtain ⟨e1, e2, e3, e4, e5⟩ := pr_bad k4 (by decide)
  unfold PrAns
  rw [e1, e2, e3, e4, e5, k4]
  have HF := Lib.hid (fun w => checkForm_is (show s.size ≤ 9223372036854775807 by omega) h w)
  have HN := Lib.hid (fun j hj w => numberAt_any s hs j m hj (by omega) w)
  have HC := Lib.hid (fun w => checksum_any (s.extract 0 m) (by simp; omega) w)
  unfold NumAns at HN
  unfold CkAns at HC
  rw [ext_head] at HC
  have ht := (sum_tests (n2 s.data.toList m) (ck (s.data.toList.take m))).2 hk
  generalize n2 s.data.toList m = a at *
  generalize ck (s.data.toList.take m) = b at *
  have g1 : (s.size : Int) - 2 = m := by omega
  have g2 : (m : Int) ≤ (s.size : Int) := by omega
  have g3 : (0 : Int) ≤ (m : Int) := by omega
  have g4 : m ≤ s.size := by omega
  have g5 : ¬ (s.size : Int) < m := by omega
  have g6 : ¬ s.size < m := by omega
  generalize hX : s.extract 0 m = X at *
  have HZ := Lib.hid (fun n t cs => zeroed w n t cs)
  unfold put5 at HZ
  clear e1 e2 e3 e4 e5 h hk k1 k2 k3 k4 hz hm
  go_enter Try.func17, Try.ntmps17
  go_wp2_with fail
  (with_reducible refine (HF.out _).mono ?_); rintro e w' ⟨rfl, rfl⟩
  go_wp2_with fail
  go_quiet ((first
    | (go_at_call 28; exact Calls.quiet_of ((HN.out _ rfl _).mono fun _ _ h => h))
    | (go_at_call 22; exact Calls.quiet_of_same ((HC.out _).mono fun _ _ h => ⟨h.1, h.2.symm⟩))))
  go_wp2
  exact bodyPost_ret (v := .tuple #[.agg #[.string ⟨#[]⟩, .int .i64 0, .int .i64 0, .int .i64 0, .int .i64 0], .int .i64 10]) (by simp [results, Try.results17, go_sem]) rfl ⟨rfl, HZ.out _ _ _⟩
set_option maxRecDepth 100000 in
set_option maxHeartbeats 4000000 in
theorem parse_ok (s : ByteArray) (m : Nat) (hm : s.size = m + 2) (hs : s.size ≤ 2000000) (h : cfE s.data.toList = 0) (hk : n2 s.data.toList m = ck (s.data.toList.take m)) (w : World) : Calls Try.prog 17 #[.string s] w (PrAns s.data.toList w) := by
  have hz : s.data.toList.length = s.size := (Lib.size_eq s).symm
  obtain ⟨k1, k2, k3, k4⟩ := cf_ok h
  rw [hz, hm, Nat.add_sub_cancel, if_neg (fun k => k hk)] at k4
  have h12 : 12 ≤ s.size := by omega
  have HF := Lib.hid (fun w => checkForm_is (show s.size ≤ 9223372036854775807 by omega) h w)
  have HN := Lib.hid (fun j hj w => numberAt_any s hs j m hj (by omega) w)
  have HC := Lib.hid (fun w => checksum_any (s.extract 0 m) (by simp; omega) w)
  unfold NumAns at HN
  unfold CkAns at HC
  rw [ext_head] at HC
  have ht := (sum_tests (n2 s.data.toList m) (ck (s.data.toList.take m))).1 hk
  generalize n2 s.data.toList m = a at *
  generalize ck (s.data.toList.take m) = b at *
  have g1 : (s.size : Int) - 2 = m := by omega
  have g2 : (m : Int) ≤ (s.size : Int) := by omega
  have g3 : (0 : Int) ≤ (m : Int) := by omega
  have g4 : m ≤ s.size := by omega
  have g5 : (10 : Int) ≤ (m : Int) := by omega
  have g6 : ¬ s.size < m := by omega
  have g7 : 10 ≤ m := by omega
  have hX := ext_stn s m hm g7
  have hXs : (stn s.data.toList).size ≤ 2000000 := by rw [← hX]; simp; omega
  have h2s : 2 < s.size := by omega
  have hv := nb_idx s 2 h2s
  have hvl := nb_lt s.data.toList 2
  have HV := Lib.hid (fun b (hb : hdOk (stn s.data.toList) (nb s.data.toList 2) (n2 s.data.toList 3) (n2 s.data.toList 5) (n2 s.data.toList 7) = b) w => valid8_is hb w)
  have HE1 := Lib.hid (fun (hb : hdOk (stn s.data.toList) (nb s.data.toList 2) (n2 s.data.toList 3) (n2 s.data.toList 5) (n2 s.data.toList 7) = false) => show prE s.data.toList = 1 by rw [k4, hb]; rfl)
  have HE0 := Lib.hid (fun (hb : hdOk (stn s.data.toList) (nb s.data.toList 2) (n2 s.data.toList 3) (n2 s.data.toList 5) (n2 s.data.toList 7) = true) => show prE s.data.toList = 0 by rw [k4, hb]; rfl)
  generalize hdOk (stn s.data.toList) (nb s.data.toList 2) (n2 s.data.toList 3) (n2 s.data.toList 5) (n2 s.data.toList 7) = r at HV HE1 HE0
  have HP := Lib.hid (fun x e w' (hp : prE s.data.toList = x) (hx : x ≠ 0) (he : e = Ending.returned (.tuple #[.agg #[.string ⟨#[]⟩, .int .i64 0, .int .i64 0, .int .i64 0, .int .i64 0], .int .i64 x])) (hb : Below w.heap.size w w') => show PrAns s.data.toList w e w' by
    obtain ⟨e1, e2, e3, e4, e5⟩ := pr_bad hp hx
    unfold PrAns
    rw [e1, e2, e3, e4, e5, hp]
    exact ⟨he, hb⟩)
  have HG := Lib.hid (fun e w' (hp : prE s.data.toList = 0) (he : e = Ending.returned (.tuple #[.agg #[.string (stn s.data.toList), .int .i64 (nb s.data.toList 2 : Nat), .int .i64 (n2 s.data.toList 3 : Nat), .int .i64 (n2 s.data.toList 5 : Nat), .int .i64 (n2 s.data.toList 7 : Nat)], .int .i64 0])) (hb : Below w.heap.size w w') => show PrAns s.data.toList w e w' by
    obtain ⟨e1, e2, e3, e4, e5⟩ := pr_good hp
    unfold PrAns
    rw [e1, e2, e3, e4, e5, hp]
    exact ⟨he, hb⟩)
  have HA := Lib.hid (fun i => Whole.fresh w 24 i)
  clear h hk k1 k2 k3 k4 hz hm
  generalize stn s.data.toList = X at *
  generalize hc' : nb s.data.toList 2 = c at *
  go_enter Try.func17, Try.ntmps17
  go_wp2_with fail
  (with_reducible refine (HF.out _).mono ?_); rintro e w' ⟨rfl, rfl⟩
  go_wp2_with fail
  go_quiet ((first
    | (go_at_call 28; exact Calls.quiet_of ((HN.out _ rfl _).mono fun _ _ h => h))
    | (go_at_call 22; exact Calls.quiet_of_same ((HC.out _).mono fun _ _ h => ⟨h.1, h.2.symm⟩))))
  go_wp2_with fail
  clear HF HN HC hc'
  have HW := Lib.hid ((HA.out #[.string ⟨#[]⟩, .int .i64 0, .int .i64 0, .int .i64 0, .int .i64 0]).carry (w' := (w.alloc (.cells #[.string ⟨#[]⟩, .int .i64 0, .int .i64 0, .int .i64 0, .int .i64 0] 24)).drewN nq) rfl)
  have HB := Lib.hid (Below_drewN ((Below.refl _ _).alloc (Nat.le_refl _) (.cells #[.string ⟨#[]⟩, .int .i64 0, .int .i64 0, .int .i64 0, .int .i64 0] 24)) nq : Below w.heap.size w _)
  generalize (w.alloc (.cells #[.string ⟨#[]⟩, .int .i64 0, .int .i64 0, .int .i64 0, .int .i64 0] 24)).drewN nq = W0 at *
  refine wp_region_looseR 44 (by kernel_rfl) (by kernel_rfl) (PrC W0) (PrR W0.heap.size #[.string X, .int .i64 c, .int .i64 (n2 s.data.toList 3 : Nat), .int .i64 (n2 s.data.toList 5 : Nat), .int .i64 (n2 s.data.toList 7 : Nat)]) (PrV W0.heap.size s X m c (n2 s.data.toList 3) (n2 s.data.toList 5) (n2 s.data.toList 7)) rfl (fun i v w w' h hv => PrV.keep i v w w' h hv) ?_ ((Below.refl _ _).drew) ?_ ?_
  · simp only [LocAll]
    refine ⟨?_, ?_, ?_, ?_, ?_, ?_, ?_, ?_, ?_, ?_, ?_, ?_, ?_, ?_, ?_, ?_, trivial⟩
    all_goals
      intro v v' wx h1 h2 h3
      simp [predL, predE, Region.binds, EqV] at h2
      first
        | exact h1.symm.trans h3
        | (obtain ⟨g, e, h4⟩ := h3; exact ⟨g, h1.symm.trans e, h4⟩)
        | (obtain ⟨g, e, h4⟩ := h3; exact ⟨g, by rw [← e]; simp [h2], h4⟩)
  · simp only [OblAllR]
    refine ⟨?_, ?_, ?_, ?_, ?_, ?_, ?_, ?_, ?_, ?_, ?_, ?_, ?_, ?_, ?_, ?_, trivial⟩
    all_goals
      intro fu wx vals hC hp
      simp [predL, predE, Region.binds, PreR, PrV] at hp
      simp only [fillA, if_true, Act.put]
      simp
      have HC := Lib.hid hC
      clear hC
    · go_wp2
      exact ⟨rfl, HC.out.later (Below.refl _ _), PrR.refl _ _ _, rfl⟩
    · go_wp2
      exact ⟨rfl, HC.out.later (Below.refl _ _), PrR.refl _ _ _, rfl⟩
    · obtain ⟨h1, h2⟩ := hp
      simp only [h1, h2]
      clear h1 h2
      go_wp2
      exact ⟨rfl, HC.out.later (Below.refl _ _), PrR.refl _ _ _, rfl⟩
    · simp only [hp]
      clear hp
      have HN := Lib.hid (fun w => clone_any X hXs w)
      unfold StrAns at HN
      go_wp2_with fail
      (with_reducible refine (HN.out _).mono ?_); rintro e w2 ⟨rfl, hb⟩
      replace hb := Lib.hid hb
      go_wp2
      exact ⟨rfl, HC.out.later hb.out, PrR.below hb.out, rfl⟩
    · go_wp2
      exact ⟨rfl, HC.out.later (Below.refl _ _), PrR.refl _ _ _, rfl⟩
    · simp only [hp]
      clear hp
      go_wp2
      exact ⟨rfl, HC.out.later (Below.refl _ _), PrR.refl _ _ _, rfl⟩
    · simp only [hp]
      clear hp
      go_wp2
      exact ⟨rfl, HC.out.later (Below.refl _ _), PrR.refl _ _ _, rfl⟩
    · go_wp2
      exact ⟨rfl, HC.out.later (Below.refl _ _), PrR.refl _ _ _, rfl⟩
    · simp only [hp]
      clear hp
      have HN := Lib.hid (fun w => numberAt_any s hs 3 3 rfl (by omega) w)
      unfold NumAns at HN
      go_wp2_with fail
      (with_reducible refine (HN.out _).mono ?_); rintro e w2 ⟨rfl, nn, rfl⟩
      go_wp2
      exact ⟨rfl, HC.out.later (below_drewN' _ _), PrR.below (below_drewN' _ _), rfl⟩
    · go_wp2
      exact ⟨rfl, HC.out.later (Below.refl _ _), PrR.refl _ _ _, rfl⟩
    · simp only [hp]
      clear hp
      have HN := Lib.hid (fun w => numberAt_any s hs 5 5 rfl (by omega) w)
      unfold NumAns at HN
      go_wp2_with fail
      (with_reducible refine (HN.out _).mono ?_); rintro e w2 ⟨rfl, nn, rfl⟩
      go_wp2
      exact ⟨rfl, HC.out.later (below_drewN' _ _), PrR.below (below_drewN' _ _), rfl⟩
    · go_wp2
      exact ⟨rfl, HC.out.later (Below.refl _ _), PrR.refl _ _ _, rfl⟩
    · simp only [hp]
      clear hp
      have HN := Lib.hid (fun w => numberAt_any s hs 7 7 rfl (by omega) w)
      unfold NumAns at HN
      go_wp2_with fail
      (with_reducible refine (HN.out _).mono ?_); rintro e w2 ⟨rfl, nn, rfl⟩
      go_wp2
      exact ⟨rfl, HC.out.later (below_drewN' _ _), PrR.below (below_drewN' _ _), rfl⟩
    · obtain ⟨h1, h2, h3, h4, h5⟩ := hp
      simp only [h1, h2, h3, h4, h5]
      clear h1 h2 h3 h4 h5
      go_wp2
      exact ⟨rfl, HC.out.later (Below.refl _ _), PrR.refl _ _ _, rfl⟩
    · clear hp
      go_wp2
      exact ⟨rfl, HC.out.later ((Below.refl _ _).alloc (Nat.le_refl _) _), PrR.below ((Below.refl _ _).alloc (Nat.le_refl _) _), five_new _ HC.out.size _ _ _ _ _⟩
    · obtain ⟨⟨g, e1, gl, gh, c0, c1, c2, c3, c4, hw⟩, e2, hrest⟩ := hp
      clear hrest
      simp only [e1, e2]
      have HE := Lib.hid e1
      have HS := Lib.hid (HC.out.store (k := fu) (u0 := .string X) (u1 := .int .i64 c) (u2 := .int .i64 (n2 s.data.toList 3 : Nat)) (u3 := .int .i64 (n2 s.data.toList 5 : Nat)) (u4 := .int .i64 (n2 s.data.toList 7 : Nat)) gl hw)
      unfold put5 at HS
      have d0 := hw.read 0
      have d1 := hw.read 1
      have d2 := hw.read 2
      have d3 := hw.read 3
      have d4 := hw.read 4
      have z0 := hw.free 0
      have z1 := hw.free 1
      have z2 := hw.free 2
      have z3 := hw.free 3
      have z4 := hw.free 4
      simp at d0 d1 d2 d3 d4
      clear hw e1 e2
      go_wp2
      exact ⟨rfl, HS.out.1, HS.out.2.1, g, HE.out, gl, HS.out.2.2.1, HS.out.2.2.2⟩
  · intro w2 vals hC hV
    obtain ⟨g, e14, gl, gh, hw⟩ := (show ∃ g, vals 14 = .pointer (some ⟨g, 0, none⟩) ∧ W0.heap.size ≤ g ∧ g < w2.heap.size ∧ Whole w2 g 24 #[.string X, .int .i64 c, .int .i64 (n2 s.data.toList 3 : Nat), .int .i64 (n2 s.data.toList 5 : Nat), .int .i64 (n2 s.data.toList 7 : Nat)] from hV 15 (by simp))
    clear hV
    have hr0 := HW.out.later hC
    have HB2 := Lib.hid (HB.out.trans (Below.mono hC HB.out.size))
    have d0 := hw.read 0
    have d1 := hw.read 1
    have d2 := hw.read 2
    have d3 := hw.read 3
    have d4 := hw.read 4
    simp at d0 d1 d2 d3 d4
    have HW2 := Lib.hid hw
    have HR0 := Lib.hid hr0
    have HVr := Lib.hid (fun w => HV.out r rfl w)
    unfold BoolAns at HVr
    clear hC hw hr0 HV HW HB HA
    simp only [fillA, if_true, Act.put]
    simp
    simp only [e14]
    clear e14
    generalize n2 s.data.toList 3 = p at *
    generalize n2 s.data.toList 5 = l at *
    generalize n2 s.data.toList 7 = f at *
    go_wp2_with fail
    (with_reducible refine (HVr.out _).mono ?_); rintro e w3 ⟨rfl, hb⟩
    have hw3 := HW2.out.later hb
    have hr3 := HR0.out.later hb
    have HB3 := Lib.hid (HB2.out.trans (hb.mono HB2.out.size))
    clear d0 d1 d2 d3 d4 hb
    have q0 := hr3.read 0
    have q1 := hr3.read 1
    have q2 := hr3.read 2
    have q3 := hr3.read 3
    have q4 := hr3.read 4
    have z0 := hr3.free 0
    have z1 := hr3.free 1
    have z2 := hr3.free 2
    have z3 := hr3.free 3
    have z4 := hr3.free 4
    simp at q0 q1 q2 q3 q4
    rcases r with _ | _
    · have HZ := Lib.hid (Below.trans HB3.out (put5_below (u0 := .string ⟨#[]⟩) (u1 := .int .i64 0) (u2 := .int .i64 0) (u3 := .int .i64 0) (u4 := .int .i64 0) (Nat.le_refl _)))
      unfold put5 at HZ
      clear hw3 hr3
      go_wp2
      exact bodyPost_ret (v := .tuple #[.agg #[.string ⟨#[]⟩, .int .i64 0, .int .i64 0, .int .i64 0, .int .i64 0], .int .i64 1]) (by simp [results, Try.results17, go_sem, q0, q1, q2, q3, q4]) rfl (HP.out 1 _ _ (HE1.out (by trivial)) (by decide) rfl HZ.out)
    · have d0 := hw3.read 0
      have d1 := hw3.read 1
      have d2 := hw3.read 2
      have d3 := hw3.read 3
      have d4 := hw3.read 4
      simp at d0 d1 d2 d3 d4
      have HZ := Lib.hid (Below.trans HB3.out (put5_below (u0 := .string X) (u1 := .int .i64 c) (u2 := .int .i64 p) (u3 := .int .i64 l) (u4 := .int .i64 f) (Nat.le_refl _)))
      unfold put5 at HZ
      clear hw3 hr3
      go_wp2
      exact bodyPost_ret (v := .tuple #[.agg #[.string X, .int .i64 c, .int .i64 p, .int .i64 l, .int .i64 f], .int .i64 0]) (by simp [results, Try.results17, go_sem, q0, q1, q2, q3, q4]) rfl (HG.out _ _ (HE0.out (by trivial)) rfl HZ.out)
theorem parse_any (s : ByteArray) (hs : s.size ≤ 9223372036854775807) (w : World) : Calls Try.prog 17 #[.string s] w (PrAns s.data.toList w) := by
  by_cases h : cfE s.data.toList = 0
  · obtain ⟨k1, _, k3, _⟩ := cf_ok h
    have hl := nb_lt s.data.toList 9
    have hz : s.data.toList.length = s.size := (Lib.size_eq s).symm
    obtain ⟨m, hm⟩ : ∃ m, s.size = m + 2 := ⟨s.size - 2, by omega⟩
    by_cases hk : n2 s.data.toList m = ck (s.data.toList.take m)
    · exact parse_ok s m hm (by omega) h hk w
    · exact parse_sum s m hm (by omega) h hk w
  · exact parse_form s hs _ rfl h w
end Go.Proofs.Ythhipejffpifkaa

