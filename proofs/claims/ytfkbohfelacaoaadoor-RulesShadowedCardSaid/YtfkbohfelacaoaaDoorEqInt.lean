/-
  Equal on two lists of the same numbers (package airsharehelp).
-/
import Derived.Test.YtfkbohfelacaoaaDoorMem
import Derived.Deep.QuietTactic
import Derived.BigQuiet
namespace Go.Proofs.YtfkbohfelacaoaaDoor
open Go.ChangeShapes Go.WideShapes Go.ChangeAt Go.RowKit
set_option linter.unusedVariables false

set_option maxHeartbeats 1000000 in
theorem equalInt_any (A B : Option Addr) (n c d : Nat) (X : Nat → Int) (L1 B1 L2 B2 : Nat) (w : World) (hn : n ≤ 9223372036854775807) (ha : Nums w L1 B1 A n X) (hb : Nums w L2 B2 B n X) :
    Calls Tryd.prog 27 #[.slice A n c, .slice B n d] w fun e w' => e = .returned (.bool true) ∧ Below w.heap.size w w' := by
  go_enter Tryd.func27, Tryd.ntmps27
  go_wp2
  go_loopw [5] (fun i wr => ∃ k : Nat, k ≤ n ∧ i = .int .i64 k ∧ ∃ q, wr = w.drewN q) (fun i _ => n - (intOf i).toNat)
  case atStart => exact ⟨0, Nat.zero_le _, rfl, 0, rfl⟩
  case round =>
    obtain ⟨k, hk, rfl, q, rfl⟩ := hrel
    by_cases hlt : k < n
    · obtain ⟨b, off, rfl, _, _, c1⟩ := Nums.at_ ha hlt
      obtain ⟨b', off', rfl, _, _, c2⟩ := Nums.at_ hb hlt
      have d1 : (X k != X k) = false := by simp
      clear ha hb
      go_wp2
      go_quiet (fail)
      go_wp2
      go_roundw
      case rel => exact ⟨k + 1, by omega, by go_num, _, rfl⟩
      case measure => simp [intOf]; omega
    · obtain rfl : n = k := by omega
      clear ha hb
      go_wp2
      go_ret
      exact ⟨rfl, Below_drewN (Below.refl _ _) q⟩

end Go.Proofs.YtfkbohfelacaoaaDoor

