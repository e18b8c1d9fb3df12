/-
  Layer 9: contracts of the reference's digits and Decimal, of the program's parseClass, parseFlow and parseStation.
-/
import Derived.Test.YtfkbohfelacaoaaDoorRuNum
namespace Go.Proofs.YtfkbohfelacaoaaDoor
open Go.ChangeShapes Go.WideShapes Go.ChangeAt Go.RowKit
set_option linter.unusedVariables false

theorem ret_dig {a b : Int} {c d : Bool} (h : a = b) (k : c = d) : Ending.returned (.tuple #[.int .i64 a, .bool c]) = .returned (.tuple #[.int .i64 b, .bool d]) := by rw [h, k]
theorem digN_split (l : List UInt8) : (l.length < 1 ∧ digN 5 l = none) ∨ (5 < l.length ∧ digN 5 l = none) ∨ ((1 < l.length ∧ l.length ≤ 5) ∧ nb l 0 = 48 ∧ digN 5 l = none) ∨ ((1 ≤ l.length ∧ l.length ≤ 5) ∧ ¬ (1 < l.length ∧ nb l 0 = 48) ∧ digN 5 l = digF l 0) := by
  unfold digN
  by_cases h0 : l.length < 1
  · exact .inl ⟨h0, by rw [if_pos (by omega)]⟩
  · right
    by_cases h5 : 5 < l.length
    · exact .inl ⟨h5, by rw [if_pos (by omega)]⟩
    · right
      by_cases h : 1 < l.length ∧ nb l 0 = 48
      · exact .inl ⟨⟨h.1, by omega⟩, h.2, by rw [if_pos (.inr h)]⟩
      · exact .inr ⟨⟨by omega, by omega⟩, h, by rw [if_neg (fun k => k.elim (fun k => by omega) h)]⟩
theorem digF_bd {l : List UInt8} {k n : Nat} (hk : k ≤ 5) (h : digF (l.take k) 0 = some n) : n < 100000 := by
  have h1 := digF_lt _ 0 n 1 h (by decide)
  have h2 : (l.take k).length ≤ 5 := by rw [List.length_take]; omega
  have : 10 ^ (l.take k).length ≤ 10 ^ 5 := Nat.pow_le_pow_right (by decide) h2
  omega
set_option maxHeartbeats 2000000 in
theorem digits_any (s : ByteArray) (w : World) : Calls Tryd.prog 53 #[.string s, .int .i64 5] w (DigAns s.data.toList w) := by
  have hl := len_size s
  unfold DigAns
  rcases digN_split s.data.toList with ⟨h1, h2⟩ | ⟨h1, h2⟩ | ⟨⟨h0, h1⟩, hz, h2⟩ | ⟨⟨h0, h1⟩, hz, h2⟩
  · rw [(nI_none h2).1, (nI_none h2).2]
    have h5 : (s.size : Int) < 1 := by omega
    clear h1 h2 hl
    go_enter Tryd.func53, Tryd.ntmps53
    go_wp2
    go_ret2
    exact ⟨rfl, Below.refl _ _⟩
  · rw [(nI_none h2).1, (nI_none h2).2]
    have h4 : (1 : Int) ≤ s.size := by omega
    have h5 : (5 : Int) < s.size := by omega
    clear h1 h2 hl
    go_enter Tryd.func53, Tryd.ntmps53
    go_wp2
    go_ret2
    exact ⟨rfl, Below.refl _ _⟩
  · rw [(nI_none h2).1, (nI_none h2).2]
    have h4 : (1 : Int) ≤ s.size := by omega
    have h5 : (s.size : Int) ≤ 5 := by omega
    have h6 : (1 : Int) < s.size := by omega
    have i0 : ∀ w, (Instr.index 9 (.string s) (.int .i64 0)).run Tryd.prog w = .ok (.int .u8 (nb s.data.toList 0 : Nat)) w := fun w => idx_nb s 0 (by omega) w
    rw [hz] at i0
    clear h0 h1 h2 hl hz
    go_enter Tryd.func53, Tryd.ntmps53
    go_wp2
    go_ret2
    exact ⟨rfl, Below.refl _ _⟩
  · have i0 : ∀ w, (Instr.index 9 (.string s) (.int .i64 0)).run Tryd.prog w = .ok (.int .u8 (nb s.data.toList 0 : Nat)) w := fun w => idx_nb s 0 (by omega) w
    have hI := Lib.hid (fun k (hk : k < s.size) => nb_idx s k hk)
    have HS := Lib.hid (fun (k n : Nat) (hk : k < s.data.toList.length) h hd => digF_step (l := s.data.toList) (k := k) (n := n) hk h hd)
    have HN := Lib.hid (fun k (hk : k < s.data.toList.length) hd => digF_bad (l := s.data.toList) (k := k) hk hd)
    have HB := Lib.hid (fun k n hk h => digF_bd (l := s.data.toList) (k := k) (n := n) hk h)
    have HE : Hid (∀ n, digF (s.data.toList.take s.size) 0 = some n → nI s.data.toList = n ∧ nB s.data.toList = true) := Lib.hid fun n h => by
      rw [List.take_of_length_le (by omega), ← h2] at h; exact nI_some h
    have HF : Hid (digF s.data.toList 0 = none → nI s.data.toList = 0 ∧ nB s.data.toList = false) := Lib.hid fun h => by
      rw [← h2] at h; exact nI_none h
    have hat := Lib.hid (fun k (hk : k < s.data.toList.length) => nb_at hk)
    have hz' : (1 : Int) < s.size → ¬ ((nb s.data.toList 0 : Nat) : Int) = 48 := fun h k => hz ⟨by omega, by omega⟩
    have h4 : (1 : Int) ≤ s.size := by omega
    have h5 : (s.size : Int) ≤ 5 := by omega
    have hss : s.size ≤ 5 := by omega
    have hln := Lib.hid hl
    clear h0 h1 h2 hl hz
    have main : ∀ c : Bool, decide ((1 : Int) < s.size) = c → (c = true → ¬ ((nb s.data.toList 0 : Nat) : Int) = 48) → Calls Tryd.prog 53 #[.string s, .int .i64 5] w fun e w' => e = .returned (.tuple #[.int .i64 (nI s.data.toList), .bool (nB s.data.toList)]) ∧ Below w.heap.size w w' := by
      intro c hc hz
      generalize hzz : nb s.data.toList 0 = z at *
      clear hzz hz'
      cases c
      all_goals
        first
          | (have hc1 : (s.size : Int) ≤ 1 := by have := of_decide_eq_false hc; omega
             clear hc hz i0)
          | (have hc1 : (1 : Int) < s.size := of_decide_eq_true hc
             have hz1 : ((z : Int) == 48) = false := by rw [beq_eq_false_iff_ne]; exact hz rfl
             clear hc hz)
        go_enter Tryd.func53, Tryd.ntmps53
        go_wp2
        go_loop [6, 7] (fun n i => ∃ k m : Nat, k ≤ s.size ∧ i = .int .i64 k ∧ n = .int .i64 m ∧ Hid (digF (s.data.toList.take k) 0 = some m)) (fun _ i => s.size - (intOf i).toNat)
        case atStart => exact ⟨0, 0, Nat.zero_le _, rfl, rfl, Lib.hid rfl⟩
        case round =>
          obtain ⟨k, m, hk, rfl, rfl, hd⟩ := hrel
          have hm := HB.out k m (by omega) hd.out
          by_cases hlt : k < s.size
          · have hv := hI.out k hlt
            have hvl := nb_lt s.data.toList k
            have hkl : k < s.data.toList.length := by rw [hln.out]; exact hlt
            have hv2 := hat.out k hkl
            by_cases hdig : 48 ≤ nb s.data.toList k ∧ nb s.data.toList k ≤ 57
            · have HD := Lib.hid (HS.out k m hkl hd.out (by rw [← hv2]; exact hdig))
              rw [← hv2] at HD
              clear hv2 hd hkl
              generalize nb s.data.toList k = y at *
              obtain ⟨y1, y2⟩ := hdig
              have y1' : (48 : Int) ≤ y := by omega
              have y2' : (y : Int) ≤ 57 := by omega
              go_wp2
              go_round
              case rel => exact ⟨k + 1, 10 * m + (y - 48), by omega, by go_num, by go_num, Lib.hid HD.out⟩
              case measure => simp [intOf]; omega
            · have HD := Lib.hid (HF.out (HN.out k hkl (by rw [← hv2]; exact hdig)))
              clear hv2 hd hkl
              generalize nb s.data.toList k = y at *
              rcases (by omega : y < 48 ∨ (48 ≤ y ∧ 57 < y)) with y1 | ⟨y1, y2⟩
              · have y1' : (y : Int) < 48 := by omega
                go_wp2
                go_ret2
                exact ⟨ret_dig HD.out.1.symm HD.out.2.symm, Below.refl _ _⟩
              · have y1' : (48 : Int) ≤ y := by omega
                have y2' : (57 : Int) < y := by omega
                go_wp2
                go_ret2
                exact ⟨ret_dig HD.out.1.symm HD.out.2.symm, Below.refl _ _⟩
          · obtain rfl : k = s.size := by omega
            have HD := Lib.hid (HE.out m hd.out)
            clear hd
            go_wp2
            go_ret2
            exact ⟨ret_dig HD.out.1.symm HD.out.2.symm, Below.refl _ _⟩
    exact main _ rfl (fun h => hz' (of_decide_eq_true h))
/-- What a text's words denote. -/
def clI (l : List UInt8) : Int := (clsL l).getD 0
def clB' (l : List UInt8) : Bool := (clsL l).isSome
def ClsAns (l : List UInt8) (w : World) (e : Ending) (w' : World) : Prop := e = .returned (.tuple #[.int .i64 (clI l), .bool (clB' l)]) ∧ Below w.heap.size w w'
theorem cls_star : clI [42] = -1 ∧ clB' [42] = true := ⟨rfl, rfl⟩
theorem cls_other {l : List UInt8} (h : ¬ l = [42]) : clI l = nI l ∧ clB' l = nB l := by
  unfold clI clB' clsL nI nB; rw [if_neg h]; cases digN 5 l <;> exact ⟨rfl, rfl⟩
theorem str_of {s : ByteArray} {l : List UInt8} (h : s.data.toList = l) : s = ⟨l.toArray⟩ := by
  apply ByteArray.ext; apply Array.toList_inj.1; rw [h]
theorem parseClass_any (s : ByteArray) (w : World) (hw : WS w) : Calls Tryd.prog 39 #[.string s] w (ClsAns s.data.toList w) := by
  unfold ClsAns
  have H := Lib.hid (parseNumber_any s w hw)
  unfold DigAns at H
  by_cases h : s.data.toList = [42]
  · have hs := str_of h
    rw [h, cls_star.1, cls_star.2]
    clear h H hw
    subst hs
    go_enter Tryd.func39, Tryd.ntmps39
    go_wp2
    go_ret2
    exact ⟨rfl, Below.refl _ _⟩
  · rw [(cls_other h).1, (cls_other h).2]
    have he : (s.toList == [42]) = false := by rw [Lib.toList_data, beq_eq_false_iff_ne]; exact h
    clear h hw
    generalize nI s.data.toList = x at *
    generalize nB s.data.toList = b at *
    go_enter Tryd.func39, Tryd.ntmps39
    go_wp2_with fail
    (with_reducible refine H.out.mono ?_); rintro e w1 ⟨rfl, hb⟩
    have hb := Lib.hid hb
    go_wp2
    go_ret2
    exact ⟨rfl, hb.out⟩
theorem clone_any (s : ByteArray) (hs : s.size ≤ 281474976710656) (w : World) : Calls Tryd.prog 62 #[.string s] w fun e w' => e = .returned (.string s) ∧ Below w.heap.size w w' := by
  have H := Lib.hid (stringslite_Clone s w hs)
  go_enter Tryd.func62, Tryd.ntmps62
  go_wp2_with fail
  (with_reducible refine H.out.mono ?_); rintro e w1 ⟨rfl, hb⟩
  have hb := Lib.hid hb
  go_wp2
  go_ret
  exact ⟨rfl, hb.out⟩
theorem parseStation_any (s : ByteArray) (hs : s.size ≤ 281474976710656) (w : World) : Calls Tryd.prog 42 #[.string s] w fun e w' => e = .returned (.string (stL s.data.toList)) ∧ Below w.heap.size w w' := by
  have H := Lib.hid (clone_any s hs w)
  by_cases h : s.data.toList = [42]
  · have hs' := str_of h
    rw [h, show stL [42] = ⟨#[]⟩ from rfl]
    clear h H hs
    subst hs'
    go_enter Tryd.func42, Tryd.ntmps42
    go_wp2
    go_ret
    exact ⟨rfl, Below.refl _ _⟩
  · rw [show stL s.data.toList = s from by unfold stL; rw [if_neg h]]
    have he : (s.toList == [42]) = false := by rw [Lib.toList_data, beq_eq_false_iff_ne]; exact h
    clear h
    go_enter Tryd.func42, Tryd.ntmps42
    go_wp2_with fail
    (with_reducible refine H.out.mono ?_); rintro e w1 ⟨rfl, hb⟩
    have hb := Lib.hid hb
    go_wp2
    go_ret
    exact ⟨rfl, hb.out⟩
/-- What the flow's word denotes. -/
def flL (l : List UInt8) : Option Nat := if nb l 0 = 62 then digN 5 (l.drop 1) else none
def flI (l : List UInt8) : Int := ((flL l).getD 0 : Nat)
def flB (l : List UInt8) : Bool := (flL l).isSome
def FlAns (l : List UInt8) (w : World) (e : Ending) (w' : World) : Prop := e = .returned (.tuple #[.int .i64 (flI l), .bool (flB l)]) ∧ Below w.heap.size w w'
theorem fl_no {l : List UInt8} (h : ¬ nb l 0 = 62) : flI l = 0 ∧ flB l = false := by unfold flI flB flL; rw [if_neg h]; exact ⟨rfl, rfl⟩
theorem fl_yes {l : List UInt8} (h : nb l 0 = 62) : flI l = nI (l.drop 1) ∧ flB l = nB (l.drop 1) := by unfold flI flB flL nI nB; rw [if_pos h]; exact ⟨rfl, rfl⟩
theorem pre_nb (l : List UInt8) : Lib.hasPrefix l [62] = decide (nb l 0 = 62) := by
  cases l with
  | nil => rfl
  | cons b t =>
    rw [Bool.eq_iff_iff, decide_eq_true_eq]
    show ((62 == b) && true) = true ↔ b.toNat = 62
    rw [Bool.and_true, beq_iff_eq]
    exact ⟨fun h => by rw [← h]; rfl, fun h => UInt8.toNat_inj.1 h.symm⟩
theorem drop_str (s : ByteArray) : (s.extract 1 s.size).data.toList = s.data.toList.drop 1 := by
  simp
  exact List.take_of_length_le (by simp)
theorem parseFlow_any (s : ByteArray) (w : World) (hw : WS w) : Calls Tryd.prog 41 #[.string s] w (FlAns s.data.toList w) := by
  unfold FlAns
  have HP := Lib.hid (fun w => strings_HasPrefix s ⟨#[62]⟩ w)
  have H := Lib.hid (parseNumber_any (s.extract 1 s.size) w hw)
  unfold DigAns at H
  rw [drop_str] at H
  simp only [pre_nb] at HP
  by_cases h : nb s.data.toList 0 = 62
  · rw [(fl_yes h).1, (fl_yes h).2]
    rw [decide_eq_true h] at HP
    have hs : (1 : Int) ≤ s.size := by
      rw [Lib.size_eq]
      cases hd : s.data.toList with
      | nil => rw [hd] at h; exact absurd h (by decide)
      | cons b t => simp; omega
    clear h hw
    generalize nI (s.data.toList.drop 1) = x at *
    generalize nB (s.data.toList.drop 1) = b at *
    go_enter Tryd.func41, Tryd.ntmps41
    go_wp2_with fail
    (with_reducible refine (HP.out _).mono ?_); rintro e w1 ⟨rfl, rfl⟩
    go_wp2_with fail
    (with_reducible refine H.out.mono ?_); rintro e w1 ⟨rfl, hb⟩
    have hb := Lib.hid hb
    go_wp2
    go_ret2
    exact ⟨rfl, hb.out⟩
  · rw [(fl_no h).1, (fl_no h).2]
    rw [decide_eq_false h] at HP
    clear h hw H
    go_enter Tryd.func41, Tryd.ntmps41
    go_wp2_with fail
    (with_reducible refine (HP.out _).mono ?_); rintro e w1 ⟨rfl, rfl⟩
    go_wp2
    go_ret2
    exact ⟨rfl, Below.refl _ _⟩
end Go.Proofs.YtfkbohfelacaoaaDoor

