/-
  Plain arithmetic for layer 6: sequence numbers modulo 65536, bits of a word, the set bits at its beginning. No program in sight.
-/
import Derived.Test.YthmncipenjhknaaPlain
namespace Go.Proofs.Ythmncipenjhknaa
open Go.RowKit
set_option linter.unusedVariables false

theorem and_seq (n : Int) : bits .and .i64 n 65535 = n % 65536 := by
  have h127 : (BitVec.ofInt 64 65535).toNat = 2 ^ 16 - 1 := by decide
  have key : (BitVec.ofInt 64 n &&& BitVec.ofInt 64 65535).toNat = (n % ((2 ^ 64 : Nat) : Int)).toNat % 2 ^ 16 := by
    rw [BitVec.toNat_and, BitVec.toNat_ofInt, h127, Nat.and_two_pow_sub_one_eq_mod]
  show IntKind.i64.wrap ((BitVec.ofInt 64 n &&& BitVec.ofInt 64 65535).toNat : Nat) = n % 65536
  rw [key, IntKind.wrap_i64]
  omega

/-- Is it a sequence number? -/
def isNum (x : Int) : Bool := decide (0 ≤ x ∧ x < 65536)
theorem isNum_yes {x : Int} (h0 : 0 ≤ x) (h1 : x < 65536) : isNum x = true := by unfold isNum; simp; omega
theorem isNum_no {x : Int} (h : x < 0 ∨ 65536 ≤ x) : isNum x = false := by unfold isNum; simp; omega
theorem isNum_bd {x : Int} (h : isNum x = true) : 0 ≤ x ∧ x < 65536 := by unfold isNum at h; simpa using h
theorem isNum_out {x : Int} (h : isNum x = false) : x < 0 ∨ 65536 ≤ x := by unfold isNum at h; simp at h; omega

/-- Next: the answer and the error. -/
def nxOk (s n : Int) : Bool := isNum s && decide (-65536 ≤ n ∧ n ≤ 65536)
def nxV (s n : Int) : Int := if nxOk s n then (s + n) % 65536 else 0
def nxE (s n : Int) : Int := if nxOk s n then 0 else 1
theorem nx_yes {s n : Int} (h : isNum s = true) (h0 : -65536 ≤ n) (h1 : n ≤ 65536) : nxV s n = (s + n) % 65536 ∧ nxE s n = 0 := by
  have : nxOk s n = true := by unfold nxOk; simp [h, h0, h1]
  unfold nxV nxE; simp [this]
theorem nx_no {s n : Int} (h : isNum s = false ∨ n < -65536 ∨ 65536 < n) : nxV s n = 0 ∧ nxE s n = 1 := by
  have : nxOk s n = false := by
    unfold nxOk
    rcases h with h | h | h
    · simp [h]
    · have : ¬ -65536 ≤ n := by omega
      simp [this]
    · have : ¬ n ≤ 65536 := by omega
      simp [this]
  unfold nxV nxE; simp [this]

/-- Distance: the answer and the error. -/
def both (a b : Int) : Bool := isNum a && isNum b
def dsV (a b : Int) : Int := if both a b then (b - a) % 65536 else 0
def dsE (a b : Int) : Int := if both a b then 0 else 1
theorem both_yes {a b : Int} (h1 : isNum a = true) (h2 : isNum b = true) : both a b = true := by unfold both; simp [h1, h2]
theorem both_no {a b : Int} (h : isNum a = false ∨ isNum b = false) : both a b = false := by unfold both; rcases h with h | h <;> simp [h]
theorem both_bd {a b : Int} (h : both a b = true) : (0 ≤ a ∧ a < 65536) ∧ 0 ≤ b ∧ b < 65536 := by
  unfold both at h; simp at h; exact ⟨isNum_bd h.1, isNum_bd h.2⟩
theorem both_parts {a b : Int} (h : both a b = true) : isNum a = true ∧ isNum b = true := by unfold both at h; simpa using h
theorem both_cases (a b : Int) : both a b = true ∨ isNum a = false ∨ (isNum a = true ∧ isNum b = false) := by
  unfold both; cases isNum a <;> cases isNum b <;> simp
theorem ds_yes {a b : Int} (h : both a b = true) : dsV a b = (b - a) % 65536 ∧ dsE a b = 0 := by unfold dsV dsE; simp [h]
theorem ds_no {a b : Int} (h : both a b = false) : dsV a b = 0 ∧ dsE a b = 1 := by unfold dsV dsE; simp [h]

/-- Before, Inside. -/
def befB (a b : Int) : Bool := both a b && decide (1 ≤ (b - a) % 65536 ∧ (b - a) % 65536 ≤ 32767)
def insB (a n b : Int) : Bool := both a b && decide (1 ≤ n ∧ n ≤ 64 ∧ (b - a) % 65536 < n)
theorem bef_no {a b : Int} (h : both a b = false) : befB a b = false := by unfold befB; simp [h]
theorem ins_no {a n b : Int} (h : both a b = false) : insB a n b = false := by unfold insB; simp [h]
theorem bef_is {a b : Int} (h : both a b = true) {r : Bool} (hr : decide (1 ≤ (b - a) % 65536 ∧ (b - a) % 65536 ≤ 32767) = r) : befB a b = r := by unfold befB; rw [h, hr]; rfl
theorem ins_is {a n b : Int} (h : both a b = true) {r : Bool} (hr : decide (1 ≤ n ∧ n ≤ 64 ∧ (b - a) % 65536 < n) = r) : insB a n b = r := by unfold insB; rw [h, hr]; rfl
end Go.Proofs.Ythmncipenjhknaa

