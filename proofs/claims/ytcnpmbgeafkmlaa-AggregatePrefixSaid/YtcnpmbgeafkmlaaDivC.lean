/-
  Layer 1: contracts of the two Div. Every input; no condition.
-/
import Derived.Test.YtcnpmbgeafkmlaaDigit
import Derived.Test.YtcnpmbgeafkmlaaShelf
import Derived.Lib.ItoaNum
import Derived.Lib.Hide
import Derived.LoopTactic
namespace Go.Proofs.Ytcnpmbgeafkmlaa
open Go.ChangeShapes Go.WideShapes Go.ChangeAt Go.RowKit
set_option linter.unusedVariables false
theorem lz_nat (x : Nat) (h0 : x ≠ 0) (h1 : x < 2 ^ 64) : ∃ s : Nat, s ≤ 63 ∧ 64 - (Lib.bitLen x : Int) = s ∧ 2 ^ 63 ≤ x * 2 ^ s ∧ x * 2 ^ s < 2 ^ 64 := by
  obtain ⟨k1, k2, k3⟩ := Lib.bitLenAux_bounds 64 x h1 h0
  have k4 : Lib.bitLenAux 64 x ≤ 64 := by
    rcases Nat.lt_or_ge 64 (Lib.bitLenAux 64 x) with h | h
    · have : 2 ^ 64 ≤ 2 ^ (Lib.bitLenAux 64 x - 1) := Nat.pow_le_pow_right (by omega) (by omega)
      omega
    · exact h
  refine ⟨64 - Lib.bitLenAux 64 x, by omega, by unfold Lib.bitLen; omega, ?_, ?_⟩
  · have e : 2 ^ 63 = 2 ^ (Lib.bitLenAux 64 x - 1) * 2 ^ (64 - Lib.bitLenAux 64 x) := by rw [← Nat.pow_add]; congr 1; omega
    rw [e]; exact Nat.mul_le_mul_right _ k2
  · have e : 2 ^ 64 = 2 ^ (Lib.bitLenAux 64 x) * 2 ^ (64 - Lib.bitLenAux 64 x) := by rw [← Nat.pow_add]; congr 1; omega
    rw [e]; exact Nat.mul_lt_mul_of_pos_right k3 (Nat.two_pow_pos _)
theorem div_ok (hi lo d : Int) (h0 : 0 ≤ hi) (l0 : 0 ≤ lo) (l1 : lo ≤ 18446744073709551615) (d1 : d ≤ 18446744073709551615) (hlt : hi < d) (w : World) :
    Calls Try.prog 40 #[.agg #[.int .u64 hi, .int .u64 lo], .int .u64 d] w fun e w' => e = .returned (.tuple #[.int .u64 (qOf hi lo d), .int .u64 (rOf hi lo d), .int .i64 0]) ∧ Below w.heap.size w w' := by
  obtain ⟨s, hs, hb, k1, k2⟩ := lz_nat d.toNat (by omega) (by omega)
  have hl' : Hid (∀ w, Calls Try.prog 44 #[.int .u64 d] w fun e w' => e = .returned (.int .i64 s) ∧ w' = w) := fun w => by
    have h := leadingZeros64 d w (by omega) d1
    rw [hb] at h
    exact h
  clear hb
  obtain ⟨n, hn⟩ : ∃ n : Nat, s + n = 64 := ⟨64 - s, by omega⟩
  have p1 : (1 : Int) ≤ 2 ^ s := Int.pow_pos (by decide)
  have p2 : (1 : Int) ≤ 2 ^ n := Int.pow_pos (by decide)
  have p3 : (2 : Int) ^ s * 2 ^ n = 18446744073709551616 := by rw [← Int.pow_add, hn]; rfl
  have p4 : (9223372036854775808 : Int) ≤ d * 2 ^ s ∧ d * 2 ^ s ≤ 18446744073709551615 := by
    have e : ((d.toNat * 2 ^ s : Nat) : Int) = d * 2 ^ s := by rw [Int.natCast_mul, Int.toNat_of_nonneg (by omega)]; norm_cast
    omega
  clear k1 k2
  have p5 : hi * 2 ^ s % 2 ^ s = 0 := Int.mul_emod_left _ _
  obtain ⟨q1, q2, q3, q4, q5⟩ := shifted h0 l0 l1 hlt p1 p2 p3
  have hj := or_join_pow s (hi * 2 ^ s) (lo / 2 ^ n) q1 (by omega) p5 q2 q3 (by omega)
  have y0 : 0 ≤ IntKind.u64.wrap (lo * 2 ^ s) ∧ IntKind.u64.wrap (lo * 2 ^ s) ≤ 18446744073709551615 := by rw [IntKind.wrap_u64]; omega
  clear p5 p2 p3
  have e64 : (64 : Int) - (s : Int) = (n : Int) := by omega
  have hN : (hi * 2 ^ s + lo / 2 ^ n) * 18446744073709551616 + IntKind.u64.wrap (lo * 2 ^ s) = (hi * 18446744073709551616 + lo) * 2 ^ s := by
    rw [Int.add_mul, Int.add_mul, Int.mul_assoc, Int.mul_comm (2 ^ s) 18446744073709551616, ← Int.mul_assoc]
    omega
  generalize hm : (2 : Int) ^ s = m at *
  generalize hm2 : (2 : Int) ^ n = m2 at *
  generalize hD : d * m = D at *
  generalize hH : hi * m = H at *
  generalize hX : lo / m2 = X at *
  generalize hY : IntKind.u64.wrap (lo * m) = Y at *
  obtain ⟨R0, hR⟩ : ∃ R0, H + X = R0 := ⟨_, rfl⟩
  rw [hR] at hj hN q4
  have hR0 : 0 ≤ R0 := by omega
  have hHR : H ≤ R0 := by omega
  have ey := and_mask Y y0.1 y0.2
  obtain ⟨y0, y1⟩ := y0
  obtain ⟨D0, D1⟩ := p4
  have b1 := dR_bd R0 (Y / 4294967296) D (by omega)
  have c1 := dQ_bd R0 (Y / 4294967296) D (by omega) hR0 q4 (by omega) (by omega)
  have s1 := d_split R0 (Y / 4294967296) D
  have b2 := dR_bd (dR R0 (Y / 4294967296) D) (Y % 4294967296) D (by omega)
  have c2 := dQ_bd (dR R0 (Y / 4294967296) D) (Y % 4294967296) D (by omega) b1.1 b1.2 (by omega) (by omega)
  have s2 := d_split (dR R0 (Y / 4294967296) D) (Y % 4294967296) D
  obtain ⟨f1, f2⟩ := digits_make p1 hD hN s1 s2 b2.1 b2.2
  have fj := or_join (dQ R0 (Y / 4294967296) D * 4294967296) (dQ (dR R0 (Y / 4294967296) D) (Y % 4294967296) D) (by omega) (by omega) (by omega) c2.1 (by omega)
  rw [f1] at fj
  have dg1 : Hid (∀ w, Calls Try.prog 45 #[.int .u64 R0, .int .u64 (Y / 4294967296), .int .u64 D] w fun e w' => e = .returned (.tuple #[.int .u64 (dQ R0 (Y / 4294967296) D), .int .u64 (dR R0 (Y / 4294967296) D)]) ∧ w' = w.drew) :=
    fun w => digit_any _ _ _ D0 D1 hR0 q4 (by omega) (by omega) w
  have dg2 : Hid (∀ w, Calls Try.prog 45 #[.int .u64 (dR R0 (Y / 4294967296) D), .int .u64 (Y % 4294967296), .int .u64 D] w fun e w' => e = .returned (.tuple #[.int .u64 (dQ (dR R0 (Y / 4294967296) D) (Y % 4294967296) D), .int .u64 (dR (dR R0 (Y / 4294967296) D) (Y % 4294967296) D)]) ∧ w' = w.drew) :=
    fun w => digit_any _ _ _ D0 D1 b1.1 b1.2 (by omega) (by omega) w
  clear hN s1 s2 q5 hR f1
  obtain ⟨b1, _⟩ := b1
  obtain ⟨c1, c1'⟩ := c1
  generalize dQ R0 (Y / 4294967296) D = Q1 at *
  generalize dR R0 (Y / 4294967296) D = R1 at *
  generalize dR R1 (Y % 4294967296) D = R2 at *
  generalize dQ R1 (Y % 4294967296) D = Q2 at *
  have hne : ¬ d = 0 := by omega
  have hge : ¬ d ≤ hi := by omega
  have hHw : IntKind.u64.wrap H = H := IntWalk.u64_in H ⟨q1, by omega⟩
  have hQw : IntKind.u64.wrap (Q1 * 4294967296) = Q1 * 4294967296 := IntWalk.u64_in _ ⟨by omega, by omega⟩
  go_enter Try.func40, Try.ntmps40
  go_wp2_with (go_at_call 44; refine (hl'.out _).mono ?_; rintro e w' ⟨rfl, hw⟩; subst hw)
  go_region
  go_wp2_with (first
    | (go_at_call 45; (with_reducible refine (dg1.out _).mono ?_); rintro e w' ⟨rfl, rfl⟩)
    | (go_at_call 45; (with_reducible refine (dg2.out _).mono ?_); rintro e w' ⟨rfl, rfl⟩))
  go_region
  go_wp2
  go_ret3
  exact ⟨rfl, by repeat (first | with_reducible exact Below.refl _ _ | with_reducible apply Below.drew | with_reducible apply below_alloc)⟩
/-- What Div answers: quotient, remainder, error. -/
def dvQ (hi lo d : Int) : Int := if d = 0 ∨ d ≤ hi then 0 else qOf hi lo d
def dvR (hi lo d : Int) : Int := if d = 0 ∨ d ≤ hi then 0 else rOf hi lo d
def dvE (hi d : Int) : Int := if d = 0 then 3 else if d ≤ hi then 2 else 0
theorem dv_zero (hi lo : Int) : dvQ hi lo 0 = 0 ∧ dvR hi lo 0 = 0 ∧ dvE hi 0 = 3 := by unfold dvQ dvR dvE; simp
theorem dv_range {hi lo d : Int} (h : d ≠ 0) (h2 : d ≤ hi) : dvQ hi lo d = 0 ∧ dvR hi lo d = 0 ∧ dvE hi d = 2 := by unfold dvQ dvR dvE; simp [h, h2]
theorem dv_ok {hi lo d : Int} (h : d ≠ 0) (h2 : hi < d) : dvQ hi lo d = qOf hi lo d ∧ dvR hi lo d = rOf hi lo d ∧ dvE hi d = 0 := by
  have h3 : ¬ d ≤ hi := by omega
  unfold dvQ dvR dvE; simp [h, h3]
theorem div_any (hi lo d : Int) (h0 : 0 ≤ hi) (h1 : hi ≤ 18446744073709551615) (l0 : 0 ≤ lo) (l1 : lo ≤ 18446744073709551615) (d0 : 0 ≤ d) (d1 : d ≤ 18446744073709551615) (w : World) :
    Calls Try.prog 40 #[.agg #[.int .u64 hi, .int .u64 lo], .int .u64 d] w fun e w' => e = .returned (.tuple #[.int .u64 (dvQ hi lo d), .int .u64 (dvR hi lo d), .int .i64 (dvE hi d)]) ∧ Below w.heap.size w w' := by
  by_cases hz : d = 0
  · subst hz
    obtain ⟨e1, e2, e3⟩ := dv_zero hi lo
    rw [e1, e2, e3]
    clear e1 e2 e3
    go_enter Try.func40, Try.ntmps40
    go_wp2
    go_ret3
    exact ⟨rfl, (Below.refl _ _).alloc (Nat.le_refl _) _⟩
  · by_cases hr : d ≤ hi
    · obtain ⟨e1, e2, e3⟩ := dv_range (lo := lo) hz hr
      rw [e1, e2, e3]
      clear e1 e2 e3
      go_enter Try.func40, Try.ntmps40
      go_wp2
      go_ret3
      exact ⟨rfl, (Below.refl _ _).alloc (Nat.le_refl _) _⟩
    · obtain ⟨e1, e2, e3⟩ := dv_ok (hi := hi) (lo := lo) hz (by omega)
      rw [e1, e2, e3]
      exact div_ok hi lo d h0 l0 l1 d1 (by omega) w
end Go.Proofs.Ytcnpmbgeafkmlaa

