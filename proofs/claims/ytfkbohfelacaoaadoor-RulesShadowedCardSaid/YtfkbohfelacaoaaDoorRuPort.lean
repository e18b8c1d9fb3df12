/-
  Layer 9: contracts of parsePorts and of the reference's ports.
-/
import Derived.Test.YtfkbohfelacaoaaDoorRuDig
namespace Go.Proofs.YtfkbohfelacaoaaDoor
open Go.ChangeShapes Go.WideShapes Go.ChangeAt Go.RowKit
set_option linter.unusedVariables false

/-- What the ports' word denotes: first, last, whether it is written. -/
def poT (l : List UInt8) : Int × Int × Bool :=
  if l = [42] then (0, 65535, true)
  else match cutB 45 l with
    | some (x, y) => (nI x, nI y, nB x && nB y)
    | none => (nI l, nI l, nB l)
theorem poT_none {l : List UInt8} (h : ¬ l = [42]) (k : cutB 45 l = none) : poT l = (nI l, nI l, nB l) := by unfold poT; rw [if_neg h, k]
theorem poT_some {l x y : List UInt8} (h : ¬ l = [42]) (k : cutB 45 l = some (x, y)) : poT l = (nI x, nI y, nB x && nB y) := by unfold poT; rw [if_neg h, k]
def PoAns (l : List UInt8) (w : World) (e : Ending) (w' : World) : Prop := e = .returned (.tuple #[.int .i64 (poT l).1, .int .i64 (poT l).2.1, .bool (poT l).2.2]) ∧ Below w.heap.size w w'
theorem nI_get (l : List UInt8) : digN 5 l = if nB l then some (nI l).toNat else none := by
  unfold nI nB; cases digN 5 l <;> rfl
/-- A text by its parts. -/
theorem syn_parts {l a b c d : List UInt8} (h : four l = some (a, b, c, d)) : synL l = if clB' b && (poT c).2.2 && flB d then some ⟨stL a, clI b, (poT c).1, (poT c).2.1, flI d⟩ else none := by
  rw [syn_four, h]
  show (if nb d 0 = 62 then _ else none) = _
  have hc : clsL b = if clB' b then some (clI b) else none := by unfold clB' clI; cases clsL b <;> rfl
  have hp : porL c = if (poT c).2.2 then some ((poT c).1.toNat, (poT c).2.1.toNat) else none := by
    unfold porL poT
    split
    · rfl
    · cases cutB 45 c with
      | none => show (digN 5 c).map _ = _; rw [nI_get]; simp only; cases nB c <;> rfl
      | some p =>
        show (digN 5 p.1).bind _ = _
        rw [nI_get p.1, nI_get p.2]
        simp only
        cases nB p.1 <;> cases nB p.2 <;> rfl
  have hq : 0 ≤ (poT c).1 ∧ 0 ≤ (poT c).2.1 := by
    have hn : ∀ l, 0 ≤ nI l := fun l => Int.natCast_nonneg _
    unfold poT
    split
    · exact ⟨by decide, by decide⟩
    · split
      · exact ⟨hn _, hn _⟩
      · exact ⟨hn _, hn _⟩
  by_cases e : nb d 0 = 62
  · rw [if_pos e, hc, hp, nI_get (d.drop 1), (fl_yes e).1, (fl_yes e).2]
    have hn : ((nI (d.drop 1)).toNat : Int) = nI (d.drop 1) := Int.toNat_of_nonneg (Int.natCast_nonneg _)
    cases clB' b
    · rfl
    · cases (poT c).2.2
      · rfl
      · cases nB (d.drop 1)
        · rfl
        · show some (Rul.mk (stL a) (clI b) ((poT c).1.toNat : Nat) ((poT c).2.1.toNat : Nat) ((nI (d.drop 1)).toNat : Nat)) = some _
          rw [hn, Int.toNat_of_nonneg hq.1, Int.toNat_of_nonneg hq.2]
  · rw [if_neg e, (fl_no e).2, Bool.and_false]; rfl
theorem syn_no {l : List UInt8} (h : four l = none) : synL l = none := by rw [syn_four, h]; rfl
theorem ret_po {a b c d : Int} {x y : Bool} (h : a = c) (k : b = d) (l : x = y) : Ending.returned (.tuple #[.int .i64 a, .int .i64 b, .bool x]) = .returned (.tuple #[.int .i64 c, .int .i64 d, .bool y]) := by rw [h, k, l]
theorem take_str (s : ByteArray) (o : Nat) : (s.extract 0 o).data.toList = s.data.toList.take o := by
  simp
theorem drop_from (s : ByteArray) (o : Nat) : (s.extract o s.size).data.toList = s.data.toList.drop o := by
  simp
  exact List.take_of_length_le (by simp)
set_option maxHeartbeats 1000000 in
theorem parsePorts_any (s : ByteArray) (hs : s.size ≤ 2000000) (w : World) (hw : WS w) : Calls Tryd.prog 40 #[.string s] w (PoAns s.data.toList w) := by
  unfold PoAns
  by_cases h : s.data.toList = [42]
  · have hs' := str_of h
    rw [h, show poT [42] = (0, 65535, true) from rfl]
    clear h hs
    subst hs'
    go_enter Tryd.func40, Tryd.ntmps40
    go_wp2
    go_ret3
    exact ⟨rfl, Below.refl _ _⟩
  · have he : (s.toList == [42]) = false := by rw [Lib.toList_data, beq_eq_false_iff_ne]; exact h
    have HI := Lib.hid (fun w => strings_IndexByte s 45 w)
    simp only [show ((45 : Int).toNat.toUInt8) = 45 from rfl] at HI
    rcases idx_cut s.data.toList 45 with ⟨h1, h2, _⟩ | ⟨o, h1, h2, h3, _⟩
    · have hp := poT_none h h2
      rw [hp]
      rw [h1] at HI
      have H := Lib.hid (parseNumber_any s w hw)
      unfold DigAns at H
      clear h h1 h2 hp hw
      generalize nI s.data.toList = x at *
      generalize nB s.data.toList = b at *
      go_enter Tryd.func40, Tryd.ntmps40
      go_wp2_with fail
      (with_reducible refine (HI.out _).mono ?_); rintro e w1 ⟨rfl, rfl⟩
      go_wp2_with fail
      (with_reducible refine H.out.mono ?_); rintro e w1 ⟨rfl, hb⟩
      have hb := Lib.hid hb
      go_wp2
      go_ret3
      exact ⟨rfl, hb.out⟩
    · have hp := poT_some h h3
      rw [hp]
      rw [h1] at HI
      have H1 := Lib.hid (parseNumber_any (s.extract 0 o) w hw)
      have H2 := Lib.hid (fun (w : World) (hw : WS w) => parseNumber_any (s.extract (o + 1) s.size) w hw)
      unfold DigAns at H1 H2
      rw [take_str] at H1
      simp only [drop_from] at H2
      have hl := len_size s
      have ho : o + 1 ≤ s.size := by omega
      have hww := Lib.hid hw
      clear h h1 h2 h3 hp hw hl
      generalize nI (s.data.toList.take o) = x at *
      generalize nB (s.data.toList.take o) = b at *
      generalize nI (s.data.toList.drop (o + 1)) = y at *
      generalize nB (s.data.toList.drop (o + 1)) = c at *
      go_enter Tryd.func40, Tryd.ntmps40
      go_wp2_with fail
      (with_reducible refine (HI.out _).mono ?_); rintro e w1 ⟨rfl, rfl⟩
      go_wp2_with fail
      (with_reducible refine H1.out.mono ?_); rintro e w2 ⟨rfl, hb⟩
      have hb2 := Lib.hid (And.intro hb (hww.out.below hb))
      clear hb
      go_wp2_with fail
      (with_reducible refine (H2.out _ hb2.out.2).mono ?_); rintro e w3 ⟨rfl, hb⟩
      have hb3 := Lib.hid (hb2.out.1.trans (hb.mono hb2.out.1.size))
      clear hb
      go_wp2
      all_goals
        go_ret3
        exact ⟨ret_po rfl rfl (by simp_all), hb3.out⟩
set_option maxHeartbeats 1000000 in
theorem ports_any (s : ByteArray) (hs : s.size ≤ 2000000) (w : World) : Calls Tryd.prog 54 #[.string s] w (PoAns s.data.toList w) := by
  unfold PoAns
  by_cases h : s.data.toList = [42]
  · have hs' := str_of h
    rw [h, show poT [42] = (0, 65535, true) from rfl]
    clear h hs
    subst hs'
    go_enter Tryd.func54, Tryd.ntmps54
    go_wp2
    go_ret3
    exact ⟨rfl, Below.refl _ _⟩
  · have he : (s.toList == [42]) = false := by rw [Lib.toList_data, beq_eq_false_iff_ne]; exact h
    have hl := Lib.hid (len_size s)
    have hI := Lib.hid (fun k (hk : k < s.size) => nb_idx s k hk)
    have hat := Lib.hid (fun k (hk : k < s.data.toList.length) => nb_at hk)
    have HF := Lib.hid (fun i hi hj e => poT_some h (cutB_first (c := 45) s.data.toList i hi hj e))
    have HN := Lib.hid (fun hj => poT_none h (cutB_absent (c := 45) (l := s.data.toList) hj))
    have H0 := Lib.hid (fun w => digits_any s w)
    have H1 := Lib.hid (fun o w => digits_any (s.extract 0 o) w)
    have H2 := Lib.hid (fun o w => digits_any (s.extract o s.size) w)
    unfold DigAns at H0 H1 H2
    simp only [take_str] at H1
    simp only [drop_from] at H2
    clear h
    go_enter Tryd.func54, Tryd.ntmps54
    go_wp2
    go_loop [5] (fun i => ∃ k : Nat, k ≤ s.size ∧ i = .int .i64 k ∧ Hid (∀ j (hj : j < k) (h : j < s.data.toList.length), s.data.toList[j] ≠ 45)) (fun i => s.size - (intOf i).toNat)
    case atStart => exact ⟨0, Nat.zero_le _, rfl, Lib.hid (fun j hj => absurd hj (by omega))⟩
    case round =>
      obtain ⟨k, hk, rfl, hj⟩ := hrel
      by_cases hlt : k < s.size
      · have hv := hI.out k hlt
        have hvl := nb_lt s.data.toList k
        have hkl : k < s.data.toList.length := by rw [hl.out]; exact hlt
        have hv2 := hat.out k hkl
        by_cases hd : nb s.data.toList k = 45
        · have HP := Lib.hid (HF.out k hkl (fun j hjk => hj.out j hjk (by omega)) (UInt8.toNat_inj.1 (by rw [← hv2, hd]; rfl)))
          have H1' := Lib.hid (H1.out k)
          have H2' := Lib.hid (H2.out (k + 1))
          rw [hd] at hv
          clear hv2 hvl hd hj hkl HF HN H0 H1 H2 hI hat hl
          generalize nI (s.data.toList.take k) = x at *
          generalize nB (s.data.toList.take k) = b at *
          generalize nI (s.data.toList.drop (k + 1)) = y at *
          generalize nB (s.data.toList.drop (k + 1)) = c at *
          go_wp2_with fail
          (with_reducible refine (H1'.out _).mono ?_); rintro e w2 ⟨rfl, hb⟩
          have hb2 := Lib.hid hb
          clear hb
          go_wp2_with fail
          (with_reducible refine (H2'.out _).mono ?_); rintro e w3 ⟨rfl, hb⟩
          have hb3 := Lib.hid (hb2.out.trans (hb.mono hb2.out.size))
          clear hb
          go_wp2
          all_goals
            go_ret3
            exact ⟨ret_po (by rw [HP.out]) (by rw [HP.out]) (by rw [HP.out]; simp_all), hb3.out⟩
        · have hj2 : Hid (∀ j (hj : j < k + 1) (h : j < s.data.toList.length), s.data.toList[j] ≠ 45) := Lib.hid fun j h1 h2 => by
            rcases Nat.lt_succ_iff_lt_or_eq.1 h1 with e | rfl
            · exact hj.out j e h2
            · intro e; exact hd (by rw [hv2, e]; rfl)
          have hd' : (((nb s.data.toList k : Nat) : Int) == 45) = false := by rw [beq_eq_false_iff_ne]; omega
          clear hv2 hd hj hkl
          generalize nb s.data.toList k = z at *
          go_wp2
          go_round
          case rel => exact ⟨k + 1, by omega, by go_num, Lib.hid hj2.out⟩
          case measure => simp [intOf]; omega
      · have HP := Lib.hid (HN.out (fun j h => hj.out j (by rw [hl.out] at h; omega) h))
        clear hj HF HN H1 H2 hI hat hl
        generalize nI s.data.toList = x at *
        generalize nB s.data.toList = b at *
        go_wp2_with fail
        (with_reducible refine (H0.out _).mono ?_); rintro e w2 ⟨rfl, hb⟩
        have hb2 := Lib.hid hb
        clear hb
        go_wp2
        go_ret3
        exact ⟨ret_po (by rw [HP.out]) (by rw [HP.out]) (by rw [HP.out]), hb2.out⟩
end Go.Proofs.YtfkbohfelacaoaaDoor

