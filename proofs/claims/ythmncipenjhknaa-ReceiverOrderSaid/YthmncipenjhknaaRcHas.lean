/-
  Layer 17: Has at ids. Every list.
-/
import Derived.Test.YthmncipenjhknaaRcEnv
namespace Go.Proofs.Ythmncipenjhknaa
open Go.ChangeShapes Go.WideShapes Go.ChangeAt Go.RowKit
set_option linter.unusedVariables false

set_option maxHeartbeats 4000000 in
theorem hasI_any {v : Value} {l : List Int} {w : World} (hn : l.length ≤ 100000) (h : LsA csI 1 3 v l w) (x : Int) : Calls Try.prog 20 #[v, .int .i64 x] w (Calm (.bool (l.any (fun y => y == x))) w) := by
  obtain ⟨A, c, rfl, g1, g2⟩ := h.shape
  have HL := Lib.hid (fun k (hk : k < l.length) => h.el hk)
  have HY := Lib.hid (fun k (hk : k < l.length) (e : l[k] = x) => (List.any_eq_true.2 ⟨l[k], List.getElem_mem hk, by simpa using e⟩ : l.any (fun y => y == x) = true))
  have HN := Lib.hid (fun (e : ∀ k (hk : k < l.length), l[k] ≠ x) => (by
    rw [List.any_eq_false]
    intro y hy
    obtain ⟨k, hk, rfl⟩ := List.getElem_of_mem hy
    simpa using e k hk : l.any (fun y => y == x) = false))
  clear h g1 g2
  generalize l.any (fun y => y == x) = r at *
  obtain ⟨n, hN⟩ : ∃ n, l.length = n := ⟨_, rfl⟩
  have HN2 := Lib.hid hN
  rw [hN]
  have hn' : n ≤ 100000 := by omega
  clear hN hn
  unfold Calm
  go_enter Try.func20, Try.ntmps20
  go_wp2
  go_loopw [5] (fun s5 wr => ∃ k : Nat, k ≤ n ∧ s5 = .int .i64 k ∧ Hid (wr = w) ∧ Hid (∀ j (hj : j < l.length), j < k → l[j] ≠ x)) (fun s5 _ => n - (intOf s5).toNat)
  case atStart => exact ⟨0, Nat.zero_le _, rfl, Lib.hid rfl, Lib.hid (fun j _ h => by omega)⟩
  case round =>
    obtain ⟨k, hk, rfl, HW, HA⟩ := hrel
    obtain rfl := HW.out
    by_cases hlt : k < n
    · have hlt' : (k : Int) < n := by omega
      have hkl : k < l.length := by have := HN2.out; omega
      obtain ⟨b, o, c', e1, _, hb, _, _, f1⟩ := HL.out k hkl
      obtain ⟨rfl, rfl⟩ : A = some ⟨b, o, none⟩ ∧ c = c' := by simpa using e1
      have d0 : wr.cell? ⟨b, o + k * 1 + 0, none⟩ = some (.int .i64 l[k]) := f1 k hkl 0 (by omega)
      rw [Nat.mul_one, Nat.add_zero] at d0
      have hY := HY.out k hkl
      have HA2 := Lib.hid (fun (h : l[k] ≠ x) j (hj : j < l.length) (hjk : j < k + 1) => (by
        rcases Nat.lt_or_ge j k with h1 | h1
        · exact HA.out j hj h1
        · obtain rfl : j = k := by omega
          exact h : l[j] ≠ x))
      generalize l[k] = y at *
      clear f1 e1 HL HY HN HA
      by_cases hxy : y = x
      · have hr := hY hxy
        subst hr hxy
        have hyy : (y == y) = true := by simp
        clear HA2 hY
        go_wp2
        go_ret
        exact ⟨rfl, Below.refl _ _⟩
      · have hyy : (y == x) = false := by simpa using hxy
        have HA3 := Lib.hid (HA2.out hxy)
        clear HA2 hY hxy
        go_wp2
        go_roundw
        case rel => exact ⟨k + 1, by omega, by go_num, by first | exact Lib.hid rfl | exact Lib.hid trivial, HA3⟩
        case measure => simp [intOf]; omega
    · obtain rfl : k = n := by omega
      have hr := HN.out (fun j hj => HA.out j hj (by have := HN2.out; omega))
      subst hr
      clear HL HY HN HA HN2
      go_wp2
      go_ret
      exact ⟨rfl, Below.refl _ _⟩
end Go.Proofs.Ythmncipenjhknaa

