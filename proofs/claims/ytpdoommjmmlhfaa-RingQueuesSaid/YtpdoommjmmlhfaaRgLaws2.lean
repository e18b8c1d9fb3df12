/-
  Layer 5: the walk of the statement that numbers leave in the order in which they came (RingQueues). Every input; no condition.
-/
import Derived.Test.YtpdoommjmmlhfaaRgLaws
namespace Go.Proofs.Ytpdoommjmmlhfaa
open Go.ChangeShapes Go.WideShapes Go.ChangeAt Go.RowKit
set_option linter.unusedVariables false

/-- The k-th number behind the first one, as a counter that wraps. -/
def nth (z : Int) (k : Nat) : Int := wrap64 (z + k)
theorem nth_zero {z : Int} (h0 : -9223372036854775808 ≤ z) (h1 : z ≤ 9223372036854775807) : nth z 0 = z := by unfold nth wrap64; omega
theorem nth_succ (z : Int) (k : Nat) : wrap64 (nth z k + 1) = nth z (k + 1) := by unfold nth wrap64; omega
theorem nth_sub (z : Int) (k n : Nat) (hn : n ≤ 1000000) : wrap64 (nth z (k + n) - nth z k) = n := by unfold nth wrap64; omega
theorem nth_bd (z : Int) (k : Nat) : -9223372036854775808 ≤ nth z k ∧ nth z k ≤ 9223372036854775807 := by unfold nth wrap64; omega
set_option maxRecDepth 100000 in
set_option maxHeartbeats 8000000 in
theorem walkQueues (a : Option Addr) (len cap : Nat) (z : Int) (z0 : -9223372036854775808 ≤ z) (z1 : z ≤ 9223372036854775807) (w : World) (he : Elems w.heap.size a len w) :
    Calls Try.prog 4 #[.slice a len cap, .int .i64 z] w fun e w' => e = .returned (.bool true) ∧ Below w.heap.size w w' := by
  have hg := Has.new (cap := cap) he
  have HG := Lib.hid (has_next w.heap.size a len cap 0 4 w _ hg (by omega) (by omega) (by omega))
  clear he hg
  have e0 := Lib.hid (nth_zero z0 z1)
  clear z0 z1
  go_enter Try.func4, Try.ntmps4
  go_wp2_with (go_at_call 7; (with_reducible refine (new_any a len cap _).mono ?_); rintro e w' ⟨rfl, rfl⟩)
  (with_reducible refine HG.out.mono ?_)
  rintro e w1 ⟨r, r0, r1, rfl, hg1, _⟩
  obtain ⟨K, eK⟩ : ∃ K : Nat, 1 + r = (K : Int) := ⟨(1 + r).toNat, by omega⟩
  have hK1 : 1 ≤ K := by omega
  have hK2 : K ≤ 4 := by omega
  have HN := Lib.hid (fun W => rgnew_ok K W hK1 (by omega))
  have HG1 := Lib.hid hg1
  clear hg1 HG
  go_wp2_with fail
  (with_reducible refine (HN.out _).mono ?_)
  intro e w2 ha
  obtain ⟨H, g, rfl, h2⟩ := GR.start HG1.out ha
  have H2 := Lib.hid h2
  generalize w1.heap.size = C at H2
  clear ha h2 HN HG1
  have d0 : ((0 : Int) != 0) = false := rfl
  go_wp2_with fail
  go_loopw [8, 9, 10] (fun u v i wr => ∃ (j b n q : Nat) (L : Nat → Int), j ≤ 40 ∧ i = .int .i64 j ∧ u = .int .i64 (nth z (b + n)) ∧ v = .int .i64 (nth z b) ∧ q ≤ 1 + j ∧ Hid (GR w.heap.size a len cap q w C H g K n L wr) ∧ Hid (∀ i, i < n → L i = nth z (b + i))) (fun _ _ i _ => 40 - (intOf i).toNat)
  case atStart => exact ⟨0, 0, 0, 0 + 1, _, Nat.zero_le _, rfl, by rw [Nat.add_zero, e0.out], by rw [e0.out], by omega, H2, (fun i hi => by omega)⟩
  case round =>
    obtain ⟨j, b, n, q, L, hj, rfl, rfl, rfl, hq, HJ, HL⟩ := hrel
    clear H2
    by_cases hlt : j < 40
    · have hlt' : (j : Int) < 40 := by omega
      have HX := Lib.hid (HJ.out.next (N := 2) (by omega) (by omega) (by omega))
      clear HJ
      go_wp2_with fail
      (with_reducible refine HX.out.mono ?_)
      rintro e w3 ⟨s, s0, s1, rfl, h3, _⟩
      clear HX
      by_cases hs : s = 0
      · subst hs
        have hp := h3.call (fun hS => rgpush_any hS (nth z (b + n)))
        have hcap := h3.2.2.size
        unfold insN insL insE at hp
        by_cases hn : n = K
        · rw [if_pos hn, if_pos hn, if_pos hn] at hp
          have HP := Lib.hid hp
          clear hp h3 hn hcap
          go_wp2_with fail
          (with_reducible refine HP.out.mono ?_)
          rintro e w4 ⟨rfl, h4, _⟩
          have H4 := Lib.hid h4
          clear HP h4
          go_wp2
          go_roundw
          case rel => exact ⟨j + 1, b, n, q + 1, L, by omega, by go_num, rfl, rfl, by omega, H4, HL⟩
          case measure => simp [intOf]; omega
        · rw [if_neg hn, if_neg hn, if_neg hn] at hp
          have HP := Lib.hid hp
          have HS := Lib.hid (nth_succ z (b + n))
          have HL2 : Hid (∀ i, i < n + 1 → upd L n (nth z (b + n)) i = nth z (b + i)) := Lib.hid (fun i hi => by
            rcases (by omega : i < n ∨ i = n) with h | rfl
            · rw [upd_ne (by omega)]; exact HL.out i h
            · rw [upd_at])
          clear hp h3 HL
          go_wp2_with fail
          (with_reducible refine HP.out.mono ?_)
          rintro e w4 ⟨rfl, h4, _⟩
          have H4 := Lib.hid h4
          clear HP h4
          go_wp2
          go_roundw
          case rel => exact ⟨j + 1, b, n + 1, q + 1, _, by omega, by go_num, by rw [HS.out]; rfl, rfl, by omega, H4, HL2⟩
          case measure => simp [intOf]; omega
      · obtain rfl : s = 1 := by omega
        have hp := h3.call (fun hS => rgpop_any hS)
        unfold takN takL takV takE at hp
        rcases Nat.eq_zero_or_pos n with rfl | hn
        · rw [show inR 0 0 = false from inR_no (.inr (Int.le_refl _))] at hp
          have HP := Lib.hid hp
          clear hp h3
          go_wp2_with fail
          (with_reducible refine HP.out.mono ?_)
          rintro e w4 ⟨rfl, h4, _⟩
          have H4 := Lib.hid h4
          clear HP h4
          go_wp2
          go_roundw
          case rel => exact ⟨j + 1, b, 0, q + 1, L, by omega, by go_num, rfl, rfl, by omega, H4, HL⟩
          case measure => simp [intOf]; omega
        · obtain ⟨n, rfl⟩ : ∃ m, n = m + 1 := ⟨n - 1, by omega⟩
          rw [inR_yes (Int.le_refl _) (by omega)] at hp
          have hp2 : Calls Try.prog 18 #[.pointer (some ⟨H, 0, none⟩)] w3 fun e w' => e = .returned (.tuple #[.int .i64 (nth z b), .int .i64 0]) ∧ GR w.heap.size a len cap (q + 1) w C H g K n (rmvN L 0) w' ∧ Chg (rgfoot H g) w3 w' := by
            have e1 : L 0 = nth z b := HL.out 0 (by omega)
            rw [← e1]; exact hp
          have HP := Lib.hid hp2
          have HS := Lib.hid (nth_succ z b)
          have HL2 : Hid (∀ i, i < n → rmvN L 0 i = nth z (b + 1 + i)) := Lib.hid (fun i hi => by
            unfold rmvN; rw [if_neg (by omega), HL.out (i + 1) (by omega), show b + (i + 1) = b + 1 + i by omega])
          have ht : (nth z b != nth z b) = false := by simp
          clear hp hp2 h3 HL
          go_wp2_with fail
          (with_reducible refine HP.out.mono ?_)
          rintro e w4 ⟨rfl, h4, _⟩
          have H4 := Lib.hid h4
          clear HP h4
          go_wp2
          go_roundw
          case rel => exact ⟨j + 1, b + 1, n, q + 1, _, by omega, by go_num, by rw [show b + (n + 1) = b + 1 + n by omega], by rw [HS.out], by omega, H4, HL2⟩
          case measure => simp [intOf]; omega
    · obtain rfl : j = 40 := by omega
      have HQ := Lib.hid (rlen_any HJ.out.2.2)
      have HE := Lib.hid HJ.out.end_
      have hBl := HJ.out.lt
      have hn : n ≤ 4 := by have := HJ.out.2.2.size; omega
      have e1 : wrap64 (nth z (b + n) - nth z b) = n := nth_sub z b n (by omega)
      have HAW := Lib.hid (fun W => rgawake_any W)
      have ht : ((n : Int) == (n : Int)) = true := by simp
      clear HJ HL
      go_wp2_with fail
      (with_reducible refine HQ.out.mono ?_)
      rintro e w4 ⟨rfl, rfl⟩
      go_wp2_with fail
      (with_reducible refine (HAW.out _).mono ?_)
      rintro e w5 ⟨rfl, hb5⟩
      have HE5 := Lib.hid (HE.out.trans (hb5.mono (by omega)))
      clear hb5 HE
      go_wp2
      go_ret
      exact ⟨rfl, HE5.out⟩
end Go.Proofs.Ytpdoommjmmlhfaa

