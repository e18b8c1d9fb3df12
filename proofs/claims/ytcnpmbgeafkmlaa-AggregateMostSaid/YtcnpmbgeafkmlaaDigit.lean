/-
  Layer 1: the contract of the program's digit. Condition: the divisor's top bit is set, the rest is less than it, the next digit is a half.
-/
import Derived.Test.YtcnpmbgeafkmlaaPlain
import Derived.Test.YtcnpmbgeafkmlaaMulC
import Derived.LoopTactic
import Derived.Deep.QuietTactic
import Derived.BigQuiet
namespace Go.Proofs.Ytcnpmbgeafkmlaa
open Go.ChangeShapes Go.WideShapes Go.ChangeAt Go.RowKit
set_option linter.unusedVariables false

theorem digit_any (rest next d : Int) (hd : 9223372036854775808 ≤ d) (hd1 : d ≤ 18446744073709551615) (r0 : 0 ≤ rest) (r1 : rest < d) (n0 : 0 ≤ next) (n1 : next ≤ 4294967295) (w : World) :
    Calls Try.prog 45 #[.int .u64 rest, .int .u64 next, .int .u64 d] w fun e w' => e = .returned (.tuple #[.int .u64 (dQ rest next d), .int .u64 (dR rest next d)]) ∧ w' = w.drew := by
  obtain ⟨dh, eh⟩ : ∃ dh, d / 4294967296 = dh := ⟨_, rfl⟩
  obtain ⟨dl, el⟩ : ∃ dl, d % 4294967296 = dl := ⟨_, rfl⟩
  have hs := dinv_start hd hd1 r0 r1 n0 n1 eh el
  have ht := fun q l => dinv_test (q := q) (l := l) hd hd1 r0 r1 n0 n1 eh el
  have hp := fun q l => dinv_step (q := q) (l := l) hd hd1 r0 r1 n0 n1 eh el
  have HS : Hid (DInv rest next d dh (rest / dh) (rest % dh)) := hs
  have HT : Hid (∀ q l, DInv rest next d dh q l → (dQ rest next d < q ↔ l * 4294967296 + next < q * dl) ∧ (4294967295 < q → dQ rest next d < q)) := ht
  have HP : Hid (∀ q l, DInv rest next d dh q l → dQ rest next d < q → (l + dh ≤ 4294967295 → DInv rest next d dh (q - 1) (l + dh)) ∧ (4294967295 < l + dh → q - 1 = dQ rest next d)) := hp
  clear hs ht hp
  have em := and_mask d (by omega) hd1
  rw [el] at em
  have hdh : 2147483648 ≤ dh := by omega
  have hdh1 : dh ≤ 4294967295 := by omega
  have hdl : 0 ≤ dl := by omega
  have hdl1 : dl ≤ 4294967295 := by omega
  go_enter Try.func45, Try.ntmps45
  go_wp2
  go_region
  go_wp2
  go_loop [10, 11] (fun t10 t11 => ∃ q l : Int, t10 = .int .u64 q ∧ t11 = .int .u64 l ∧ DInv rest next d dh q l) (fun t10 _ => (intOf t10).toNat)
  case atStart => exact ⟨_, _, rfl, rfl, HS.out⟩
  case round =>
    obtain ⟨q, l, rfl, rfl, hi⟩ := hrel
    have hT := HT.out q l hi
    have hP := HP.out q l hi
    have hI : Hid (DInv rest next d dh q l) := hi
    obtain ⟨l0, l1, hq1, hq2, _⟩ := hi
    have hQ := (dQ_bd rest next d (by omega) r0 r1 n0 n1).1
    have q0 : 0 ≤ q := by omega
    have ej : bits .or .u64 (l * 4294967296) next = l * 4294967296 + next := or_join _ _ (by omega) (by omega) (by omega) n0 (by omega)
    have m0 : 0 ≤ q * dl := Int.mul_nonneg q0 hdl
    have hR0 : Hid (IntKind.u64.wrap (IntKind.u64.wrap (IntKind.u64.wrap (rest * 4294967296) + next) - IntKind.u64.wrap (dQ rest next d * d)) = dR rest next d) := dinv_rest (by omega) hd1
    clear HS HT HP
    rcases (by omega : 4294967295 < q ∨ (q ≤ 4294967295 ∧ dQ rest next d < q) ∨ (q ≤ 4294967295 ∧ dQ rest next d = q)) with hc | ⟨hc, hc2⟩ | ⟨hc, hc2⟩
    · obtain ⟨hA, hB⟩ := hP (hT.2 hc)
      clear hT hP
      rcases (by omega : l + dh ≤ 4294967295 ∨ 4294967295 < l + dh) with hl | hl
      · have hN : Hid (DInv rest next d dh (q - 1) (l + dh)) := hA hl
        clear hA hB
        go_wp2
        go_round
        case rel => exact ⟨_, _, rfl, rfl, hN.out⟩
        case measure => simp [intOf]; omega
      · have hN : Hid (q - 1 = dQ rest next d) := hB hl
        have hR := hR0.out
        rw [← hN.out] at hR
        clear hA hB
        go_wp2
        go_ret2
        exact ⟨by rw [← hN.out]; rfl, rfl⟩
    · have hlt := (hT.1).1 hc2
      have m1 : q * dl ≤ 4294967295 * 4294967295 := Int.mul_le_mul hc hdl1 hdl (by omega)
      obtain ⟨hA, hB⟩ := hP hc2
      clear hT hP
      rcases (by omega : l + dh ≤ 4294967295 ∨ 4294967295 < l + dh) with hl | hl
      · have hN : Hid (DInv rest next d dh (q - 1) (l + dh)) := hA hl
        clear hA hB
        go_wp2
        go_round
        case rel => exact ⟨_, _, rfl, rfl, hN.out⟩
        case measure => simp [intOf]; omega
      · have hN : Hid (q - 1 = dQ rest next d) := hB hl
        have hR := hR0.out
        rw [← hN.out] at hR
        clear hA hB
        go_wp2
        go_ret2
        exact ⟨by rw [← hN.out]; rfl, rfl⟩
    · have hge : ¬ l * 4294967296 + next < q * dl := fun h => by have := (hT.1).2 h; omega
      have m1 : q * dl ≤ 4294967295 * 4294967295 := Int.mul_le_mul hc hdl1 hdl (by omega)
      have hN : Hid (q = dQ rest next d) := hc2.symm
      have hR := hR0.out
      rw [hc2] at hR
      clear hT hP hc2
      go_wp2
      go_ret2
      exact ⟨by rw [← hN.out]; rfl, rfl⟩
end Go.Proofs.Ytcnpmbgeafkmlaa

