/-
  Layer 9: contracts of the reference's Decimal, of formatStation, formatClass and formatPorts.
-/
import Derived.Test.YtfkbohfelacaoaaDoorRuNum
namespace Go.Proofs.YtfkbohfelacaoaaDoor
open Go.ChangeShapes Go.WideShapes Go.ChangeAt Go.RowKit
set_option linter.unusedVariables false

theorem ret_str {a b : ByteArray} (h : a = b) : Ending.returned (.string a) = .returned (.string b) := by rw [h]
def dgs : ByteArray := ⟨#[48, 49, 50, 51, 52, 53, 54, 55, 56, 57]⟩
theorem dgs_at : ∀ d : Nat, d < 10 → (dgs.extract d (d + 1)).data.toList = [UInt8.ofNat (48 + d)] := by decide
theorem dgs_str {d : Nat} (h : d < 10) : dgs.extract d (d + 1) = ⟨#[UInt8.ofNat (48 + d)]⟩ := by
  apply ByteArray.ext; apply Array.toList_inj.1; rw [dgs_at d h]
/-- The text of a number. -/
def decS (n : Nat) : ByteArray := ⟨(decL n).toArray⟩
theorem decS_size (n k : Nat) (hk : 1 ≤ k) (h : n < 10 ^ k) : (decS n).size ≤ k := by
  rw [Lib.size_eq]; exact decL_len n k hk h
theorem dec_first {n : Nat} (h : n < 10) (t : ByteArray) : dgs.extract n (n + 1) ++ t = ⟨(decL n ++ t.data.toList).toArray⟩ := by
  rw [dgs_str h, decL_low h]
  apply ByteArray.ext; apply Array.toList_inj.1; simp
theorem dec_next {m : Nat} (h : ¬ m < 10) (t : ByteArray) : decL (m / 10) ++ (dgs.extract (m % 10) (m % 10 + 1) ++ t).data.toList = decL m ++ t.data.toList := by
  rw [decL_high h, dgs_str (Nat.mod_lt _ (by decide))]
  simp
set_option maxHeartbeats 1000000 in
theorem decimal_any (n : Nat) (hn : n ≤ 1000000) (w : World) : Calls Tryd.prog 30 #[.int .i64 n] w fun e w' => e = .returned (.string (decS n)) ∧ w = w' := by
  have H1 := Lib.hid (fun m (t : ByteArray) (h : m < 10) => dec_first h t)
  have H2 := Lib.hid (fun m (t : ByteArray) (h : ¬ m < 10) => dec_next h t)
  have HS : Hid (∀ l : List UInt8, decS n = ⟨(decL n).toArray⟩) := Lib.hid fun _ => rfl
  go_enter Tryd.func30, Tryd.ntmps30
  go_wp2
  go_loop [0, 3] (fun v s => ∃ (m : Nat) (t : ByteArray), m ≤ n ∧ v = .int .i64 m ∧ s = .string t ∧ t.size + m ≤ n + 8 ∧ t.size ≤ 2000000 ∧ Hid (decL m ++ t.data.toList = decL n)) (fun v _ => (intOf v).toNat)
  case atStart => exact ⟨n, ⟨#[]⟩, Nat.le_refl _, rfl, rfl, by show 0 + n ≤ n + 8; omega, by decide, Lib.hid (by simp)⟩
  case round =>
    obtain ⟨m, t, hm, rfl, rfl, ht, ht2, hd⟩ := hrel
    by_cases h : m < 10
    · have hR := Lib.hid (H1.out m t h)
      have h' : (m : Int) ≤ 9 := by omega
      clear H1 H2
      go_wp2
      go_ret
      exact ⟨ret_str (hR.out.trans (by rw [hd.out]; rfl)), rfl⟩
    · have hR := Lib.hid (H2.out m t h)
      have h' : (9 : Int) < m := by omega
      have hz : (dgs.extract (m % 10) (m % 10 + 1) ++ t).size = t.size + 1 := by
        rw [ByteArray.size_append, dgs_str (Nat.mod_lt _ (by decide))]; show 1 + t.size = _; omega
      have hzh := Lib.hid hz
      clear H1 H2 hz
      go_wp2
      go_round
      case rel => exact ⟨m / 10, dgs.extract (m % 10) (m % 10 + 1) ++ t, by omega, by go_num, rfl, by rw [hzh.out]; omega, by rw [hzh.out]; omega, Lib.hid (hR.out.trans hd.out)⟩
      case measure => simp [intOf]; omega
theorem itoa_is (n : Nat) (hn : n ≤ 1000000) (w : World) (hw : WS w) : Calls Tryd.prog 36 #[.int .i64 n] w fun e w' => e = .returned (.string (decS n)) ∧ Below w.heap.size w w' :=
  (strconv_Itoa n (by omega) (by omega) w hw.1).mono fun _ _ ⟨he, k, os, hw'⟩ => ⟨by rw [he, itoa_dec (by omega)]; rfl, by rw [hw']; exact Lib.below_grow _ _ (Nat.le_refl _) _ _⟩
/-- The words of a rule's text. -/
def stS (st : ByteArray) : ByteArray := if st.size = 0 then ⟨#[42]⟩ else st
def clS (c : Int) : ByteArray := if c < 0 then ⟨#[42]⟩ else decS c.toNat
def poS (f l : Nat) : ByteArray := ⟨(pairL f l).toArray⟩
theorem formatStation_any (st : ByteArray) (w : World) : Calls Tryd.prog 33 #[.string st] w fun e w' => e = .returned (.string (stS st)) ∧ w = w' := by
  unfold stS
  by_cases h : st.size = 0
  · rw [if_pos h]
    have e := empty_of h
    subst e
    clear h
    go_enter Tryd.func33, Tryd.ntmps33
    go_wp2
    go_ret
    exact ⟨rfl, rfl⟩
  · rw [if_neg h]
    have he : (st.toList == ([] : List UInt8)) = false := by
      rw [beq_eq_false_iff_ne, Lib.toList_data]; intro k; apply h; rw [Lib.size_eq st, k]; rfl
    have he2 : st.toList.isEmpty = false := by rw [List.isEmpty_eq_false_iff]; exact beq_eq_false_iff_ne.1 he
    clear h
    go_enter Tryd.func33, Tryd.ntmps33
    go_wp2
    go_ret
    exact ⟨rfl, rfl⟩
theorem formatClass_any (c : Int) (h0 : -1 ≤ c) (h1 : c ≤ 7) (w : World) (hw : WS w) : Calls Tryd.prog 34 #[.int .i64 c] w fun e w' => e = .returned (.string (clS c)) ∧ Below w.heap.size w w' := by
  unfold clS
  by_cases h : c < 0
  · rw [if_pos h]
    obtain rfl : c = -1 := by omega
    clear h hw
    go_enter Tryd.func34, Tryd.ntmps34
    go_wp2
    go_ret
    exact ⟨rfl, Below.refl _ _⟩
  · rw [if_neg h]
    obtain ⟨n, rfl⟩ := Int.eq_ofNat_of_zero_le (show 0 ≤ c by omega)
    rw [Int.toNat_natCast]
    have H := Lib.hid (itoa_is n (by omega) w hw)
    have h2 : (((n : Nat) : Int) == -1) = false := by rw [beq_eq_false_iff_ne]; omega
    clear h hw
    go_enter Tryd.func34, Tryd.ntmps34
    go_wp2_with fail
    (with_reducible refine H.out.mono ?_); rintro e w1 ⟨rfl, hb⟩
    have hb := Lib.hid hb
    go_wp2
    go_ret
    exact ⟨rfl, hb.out⟩
theorem str_cat (f l : Nat) : decS f ++ ⟨#[45]⟩ ++ decS l = ⟨(decL f ++ 45 :: decL l).toArray⟩ := by
  apply ByteArray.ext; apply Array.toList_inj.1; simp [decS]
set_option maxHeartbeats 1000000 in
theorem formatPorts_any (f l : Nat) (hf : f ≤ 65535) (hl : l ≤ 65535) (w : World) (hw : WS w) : Calls Tryd.prog 35 #[.int .i64 f, .int .i64 l] w fun e w' => e = .returned (.string (poS f l)) ∧ Below w.heap.size w w' := by
  unfold poS pairL
  by_cases h : f = 0 ∧ l = 65535
  · rw [if_pos h]
    obtain ⟨rfl, rfl⟩ := h
    clear hw
    go_enter Tryd.func35, Tryd.ntmps35
    go_wp2
    go_ret
    exact ⟨rfl, Below.refl _ _⟩
  · rw [if_neg h]
    have H1 := Lib.hid (itoa_is f (by omega) w hw)
    have hww := Lib.hid hw
    have hgp : ¬ (((f : Nat) : Int) = 0 ∧ ((l : Nat) : Int) = 65535) := by omega
    by_cases e : f = l
    · rw [if_pos e]
      subst e
      have HS0 := Lib.hid (show decS f = ⟨(decL f).toArray⟩ from rfl)
      clear h hw hww
      generalize decS f = x at *
      clear hf hl
      generalize ((f : Nat) : Int) = a at *
      by_cases h0 : a = 0
      · subst h0
        go_enter Tryd.func35, Tryd.ntmps35
        go_wp2_with fail
        (with_reducible refine H1.out.mono ?_); rintro e w1 ⟨rfl, hb⟩
        have hb := Lib.hid hb
        go_wp2
        go_ret
        exact ⟨ret_str HS0.out, hb.out⟩
      · go_enter Tryd.func35, Tryd.ntmps35
        go_wp2_with fail
        (with_reducible refine H1.out.mono ?_); rintro e w1 ⟨rfl, hb⟩
        have hb := Lib.hid hb
        go_wp2
        go_ret
        exact ⟨ret_str HS0.out, hb.out⟩
    · rw [if_neg e]
      have H2 := Lib.hid (fun w hw => itoa_is l (by omega) w hw)
      have hs1 := decS_size f 7 (by decide) (by omega)
      have hs2 := decS_size l 7 (by decide) (by omega)
      have HS := Lib.hid (str_cat f l)
      have he : (((f : Nat) : Int) == ((l : Nat) : Int)) = false := by rw [beq_eq_false_iff_ne]; omega
      clear h hw e
      generalize decS f = x at *
      generalize decS l = y at *
      clear hf hl
      generalize ((f : Nat) : Int) = a at *
      generalize ((l : Nat) : Int) = b at *
      by_cases h0 : a = 0
      · subst h0
        go_enter Tryd.func35, Tryd.ntmps35
        go_wp2_with fail
        (with_reducible refine H1.out.mono ?_); rintro e w1 ⟨rfl, hb⟩
        have hb2 := Lib.hid (And.intro hb (hww.out.below hb))
        clear hb
        go_wp2_with fail
        (with_reducible refine (H2.out _ hb2.out.2).mono ?_); rintro e w3 ⟨rfl, hb⟩
        have hb3 := Lib.hid (hb2.out.1.trans (hb.mono hb2.out.1.size))
        clear hb
        go_wp2
        go_ret
        exact ⟨ret_str HS.out, hb3.out⟩
      · go_enter Tryd.func35, Tryd.ntmps35
        go_wp2_with fail
        (with_reducible refine H1.out.mono ?_); rintro e w1 ⟨rfl, hb⟩
        have hb2 := Lib.hid (And.intro hb (hww.out.below hb))
        clear hb
        go_wp2_with fail
        (with_reducible refine (H2.out _ hb2.out.2).mono ?_); rintro e w3 ⟨rfl, hb⟩
        have hb3 := Lib.hid (hb2.out.1.trans (hb.mono hb2.out.1.size))
        clear hb
        go_wp2
        go_ret
        exact ⟨ret_str HS.out, hb3.out⟩
end Go.Proofs.YtfkbohfelacaoaaDoor

