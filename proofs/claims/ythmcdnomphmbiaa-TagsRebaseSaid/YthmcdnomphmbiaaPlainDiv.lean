/-
  Plain arithmetic for layer 1: long division by a normalized divisor, and division bit by bit. No program in sight.
-/
import Derived.Test.YthmcdnomphmbiaaPlain
namespace Go.Proofs.Ythmcdnomphmbiaa
open Go.RowKit
set_option linter.unusedVariables false

/-- One digit of a quotient, and what is left. -/
def dQ (rest next d : Int) : Int := (rest * 4294967296 + next) / d
def dR (rest next d : Int) : Int := (rest * 4294967296 + next) % d
theorem d_split (rest next d : Int) : dQ rest next d * d + dR rest next d = rest * 4294967296 + next := by
  unfold dQ dR
  rw [Int.mul_comm]; exact Int.mul_ediv_add_emod _ _
theorem dR_bd (rest next d : Int) (hd : 0 < d) : 0 ≤ dR rest next d ∧ dR rest next d < d := ⟨Int.emod_nonneg _ (by omega), Int.emod_lt_of_pos _ hd⟩
theorem dQ_bd (rest next d : Int) (hd : 0 < d) (r0 : 0 ≤ rest) (r1 : rest < d) (n0 : 0 ≤ next) (n1 : next ≤ 4294967295) : 0 ≤ dQ rest next d ∧ dQ rest next d ≤ 4294967295 := by
  have h0 : 0 ≤ rest * 4294967296 + next := by omega
  have h1 : rest * 4294967296 + next < 4294967296 * d := by omega
  unfold dQ
  exact ⟨Int.ediv_nonneg h0 (by omega), by have := Int.ediv_lt_of_lt_mul hd h1; omega⟩

/-- What holds at the head of digit's loop. -/
def DInv (rest next d dh q l : Int) : Prop := 0 ≤ l ∧ l ≤ 4294967295 ∧ dQ rest next d ≤ q ∧ q ≤ 4294967297 ∧ q * dh + l = rest

section
variable {rest next d dh dl : Int} (hd : 9223372036854775808 ≤ d) (hd1 : d ≤ 18446744073709551615) (r0 : 0 ≤ rest) (r1 : rest < d) (n0 : 0 ≤ next) (n1 : next ≤ 4294967295)
  (eh : d / 4294967296 = dh) (el : d % 4294967296 = dl)
include hd hd1 r0 r1 n0 n1 eh el

theorem dinv_start : DInv rest next d dh (rest / dh) (rest % dh) := by
  have h1 : 2147483648 ≤ dh := by omega
  have h2 : dh ≤ 4294967295 := by omega
  have h3 : d = dh * 4294967296 + dl := by omega
  have m0 := Int.emod_nonneg rest (show dh ≠ 0 by omega)
  have m1 := Int.emod_lt_of_pos rest (show 0 < dh by omega)
  have e := Int.mul_ediv_add_emod rest dh
  have e' : rest / dh * dh + rest % dh = rest := by rw [Int.mul_comm]; exact e
  refine ⟨m0, by omega, ?_, ?_, e'⟩
  · -- the digit is at most rest / dh
    have hs := d_split rest next d
    have hb := dR_bd rest next d (by omega)
    obtain ⟨q0, q1⟩ := dQ_bd rest next d (by omega) r0 r1 n0 n1
    generalize dQ rest next d = Q at *
    have hp : Q * d = Q * dh * 4294967296 + Q * dl := by rw [h3, Int.mul_add, Int.mul_assoc]
    have hn : 0 ≤ Q * dl := Int.mul_nonneg q0 (by omega)
    have hq : Q * dh ≤ rest := by omega
    exact (Int.le_ediv_iff_mul_le (by omega)).2 hq
  · rcases Int.lt_or_le 4294967297 (rest / dh) with h | h
    · have h4 : 4294967298 * dh ≤ rest / dh * dh := Int.mul_le_mul_of_nonneg_right (by omega) (by omega)
      omega
    · exact h

theorem dinv_test {q l : Int} (h : DInv rest next d dh q l) : (dQ rest next d < q ↔ l * 4294967296 + next < q * dl) ∧ (4294967295 < q → dQ rest next d < q) := by
  obtain ⟨l0, l1, hq, hq2, e⟩ := h
  have h3 : d = dh * 4294967296 + dl := by omega
  have hs := d_split rest next d
  have hb := dR_bd rest next d (by omega)
  obtain ⟨q0, q1⟩ := dQ_bd rest next d (by omega) r0 r1 n0 n1
  have hp : q * d = q * dh * 4294967296 + q * dl := by rw [h3, Int.mul_add, Int.mul_assoc]
  refine ⟨⟨fun h => ?_, fun h => ?_⟩, fun h => by omega⟩
  · have h5 : (dQ rest next d + 1) * d ≤ q * d := Int.mul_le_mul_of_nonneg_right (by omega) (by omega)
    rw [Int.add_mul, Int.one_mul] at h5
    omega
  · rcases Int.lt_or_le (dQ rest next d) q with h6 | h6
    · exact h6
    · have h7 : q = dQ rest next d := by omega
      have h8 : q * d = dQ rest next d * d := by rw [h7]
      omega

theorem dinv_step {q l : Int} (h : DInv rest next d dh q l) (hq : dQ rest next d < q) :
    (l + dh ≤ 4294967295 → DInv rest next d dh (q - 1) (l + dh)) ∧ (4294967295 < l + dh → q - 1 = dQ rest next d) := by
  obtain ⟨l0, l1, hq1, hq2, e⟩ := h
  have h3 : d = dh * 4294967296 + dl := by omega
  have h1 : 2147483648 ≤ dh := by omega
  have e2 : (q - 1) * dh + (l + dh) = rest := by rw [Int.sub_mul, Int.one_mul]; omega
  refine ⟨fun h => ⟨by omega, h, by omega, by omega, e2⟩, fun h => ?_⟩
  have hs := d_split rest next d
  have hb := dR_bd rest next d (by omega)
  obtain ⟨q0, q1⟩ := dQ_bd rest next d (by omega) r0 r1 n0 n1
  have hp : (q - 1) * d = (q - 1) * dh * 4294967296 + (q - 1) * dl := by rw [h3, Int.mul_add, Int.mul_assoc]
  have hm : (q - 1) * dl ≤ 4294967296 * 4294967295 := Int.mul_le_mul (by omega) (by omega) (by omega) (by omega)
  rcases Int.lt_or_le (dQ rest next d) (q - 1) with h6 | h6
  · have h5 : (dQ rest next d + 1) * d ≤ (q - 1) * d := Int.mul_le_mul_of_nonneg_right (by omega) (by omega)
    rw [Int.add_mul, Int.one_mul] at h5
    omega
  · omega

end
theorem dinv_rest {rest next d : Int} (hd : 0 < d) (hd1 : d ≤ 18446744073709551615) : IntKind.u64.wrap (IntKind.u64.wrap (IntKind.u64.wrap (rest * 4294967296) + next) - IntKind.u64.wrap (dQ rest next d * d)) = dR rest next d := by
  rw [IntKind.wrap_u64, IntKind.wrap_u64, IntKind.wrap_u64, IntKind.wrap_u64]
  have hs := d_split rest next d
  have hb := dR_bd rest next d hd
  omega

/-- The quotient and the remainder of a wide number by a word. -/
def qOf (hi lo d : Int) : Int := (hi * 18446744073709551616 + lo) / d
def rOf (hi lo d : Int) : Int := (hi * 18446744073709551616 + lo) % d
theorem qr_unique {hi lo d q r : Int} (h0 : 0 ≤ r) (h1 : r < d) (e : hi * 18446744073709551616 + lo = q * d + r) : q = qOf hi lo d ∧ r = rOf hi lo d := by
  have h := (Int.ediv_emod_unique (a := hi * 18446744073709551616 + lo) (b := d) (r := r) (q := q) (by omega)).2 ⟨by rw [e, Int.mul_comm d q]; omega, h0, h1⟩
  exact ⟨h.1.symm, h.2.symm⟩

/-- The shifted dividend: what the walk reckons, and what it is. -/
theorem shifted {hi lo d m m2 : Int} (h0 : 0 ≤ hi) (l0 : 0 ≤ lo) (l1 : lo ≤ 18446744073709551615) (hlt : hi < d) (m0 : 1 ≤ m) (k0 : 1 ≤ m2) (hm : m * m2 = 18446744073709551616) :
    0 ≤ hi * m ∧ 0 ≤ lo / m2 ∧ lo / m2 < m ∧ hi * m + lo / m2 < d * m ∧ lo / m2 * 18446744073709551616 + IntKind.u64.wrap (lo * m) = lo * m := by
  have a1 : 0 ≤ hi * m := Int.mul_nonneg h0 (by omega)
  have a2 : 0 ≤ lo / m2 := Int.ediv_nonneg l0 (by omega)
  have a3 : lo / m2 < m := Int.ediv_lt_of_lt_mul (by omega) (by omega)
  have a4 : (hi + 1) * m ≤ d * m := Int.mul_le_mul_of_nonneg_right (by omega) (by omega)
  rw [Int.add_mul, Int.one_mul] at a4
  have a5 : lo * m / 18446744073709551616 = lo / m2 := by
    rw [← hm, Int.mul_comm m m2]
    exact Int.mul_ediv_mul_of_pos_left lo m2 (by omega)
  refine ⟨a1, a2, a3, by omega, ?_⟩
  rw [IntKind.wrap_u64]
  omega

/-- Two digits make the quotient; the rest, shifted back, is the remainder. -/
theorem digits_make {hi lo d m D R0 Y q1 r1 q2 r2 : Int} (m0 : 1 ≤ m) (hD : d * m = D) (hN : R0 * 18446744073709551616 + Y = (hi * 18446744073709551616 + lo) * m)
    (e1 : q1 * D + r1 = R0 * 4294967296 + Y / 4294967296) (e2 : q2 * D + r2 = r1 * 4294967296 + Y % 4294967296) (b0 : 0 ≤ r2) (b1 : r2 < D) :
    q1 * 4294967296 + q2 = qOf hi lo d ∧ r2 / m = rOf hi lo d := by
  have e3 : (hi * 18446744073709551616 + lo) * m = (q1 * 4294967296 + q2) * D + r2 := by
    have t : (q1 * 4294967296 + q2) * D = q1 * D * 4294967296 + q2 * D := by rw [Int.add_mul, Int.mul_assoc, Int.mul_comm 4294967296 D, ← Int.mul_assoc]
    rw [t]; omega
  have e4 : r2 = (hi * 18446744073709551616 + lo - (q1 * 4294967296 + q2) * d) * m := by
    rw [Int.sub_mul, Int.mul_assoc, hD]; omega
  have e5 : r2 / m = hi * 18446744073709551616 + lo - (q1 * 4294967296 + q2) * d := by
    rw [e4]; exact Int.mul_ediv_cancel _ (by omega)
  refine qr_unique ?_ ?_ ?_
  · exact Int.ediv_nonneg b0 (by omega)
  · exact Int.ediv_lt_of_lt_mul (by omega) (by omega)
  · rw [e5]; omega
theorem qOf_bd {hi lo d : Int} (h0 : 0 ≤ hi) (l0 : 0 ≤ lo) (l1 : lo ≤ 18446744073709551615) (hlt : hi < d) : 0 ≤ qOf hi lo d ∧ qOf hi lo d ≤ 18446744073709551615 := by
  have h1 : hi * 18446744073709551616 + lo < 18446744073709551616 * d := by omega
  unfold qOf
  exact ⟨Int.ediv_nonneg (by omega) (by omega), by have := Int.ediv_lt_of_lt_mul (show 0 < d by omega) h1; omega⟩
theorem rOf_bd {hi lo d : Int} (hd : 0 < d) : 0 ≤ rOf hi lo d ∧ rOf hi lo d < d := ⟨Int.emod_nonneg _ (by omega), Int.emod_lt_of_pos _ hd⟩

/-- The division bit by bit: the first 64 - k bits below the upper word. -/
def pre (hi lo : Int) (k : Nat) : Int := hi * 2 ^ (64 - k) + lo / 2 ^ k
theorem pre_top (hi lo : Int) (l0 : 0 ≤ lo) (l1 : lo ≤ 18446744073709551615) : pre hi lo 64 = hi := by
  unfold pre
  have : lo / 2 ^ 64 = 0 := by omega
  rw [this]; simp
theorem pre_all (hi lo : Int) : pre hi lo 0 = hi * 18446744073709551616 + lo := by
  unfold pre
  simp
theorem pre_next (hi lo : Int) (k : Nat) (hk : k ≤ 63) : pre hi lo k = 2 * pre hi lo (k + 1) + lo / 2 ^ k % 2 := by
  unfold pre
  have e1 : 64 - k = (64 - (k + 1)) + 1 := by omega
  have e2 : lo / 2 ^ (k + 1) = lo / 2 ^ k / 2 := by
    rw [Int.pow_succ, Int.ediv_ediv_of_nonneg (Int.le_of_lt (Int.pow_pos (by decide)))]
  rw [e1, Int.pow_succ, e2, ← Int.mul_assoc]
  omega
theorem or_join_pow (s : Nat) (x y : Int) (h0 : 0 ≤ x) (h1 : x ≤ 18446744073709551615) (hx : x % 2 ^ s = 0) (h2 : 0 ≤ y) (h3 : y < 2 ^ s) (h4 : y ≤ 18446744073709551615) : bits .or .u64 x y = x + y := by
  have e : ((2 ^ s : Nat) : Int) = 2 ^ s := by norm_cast
  rw [u64_or x y h0 (by omega) h2 (by omega), nat_join s x.toNat y.toNat ?_ ?_]
  · omega
  · rw [← e] at hx
    have : ((x.toNat % 2 ^ s : Nat) : Int) = x % ((2 ^ s : Nat) : Int) := by rw [Int.natCast_emod, Int.toNat_of_nonneg h0]
    omega
  · rw [← e] at h3; omega

/-- What holds when 64 - k bits have been brought down. -/
def RInv (hi lo d : Int) (k : Nat) (q r : Int) : Prop := 0 ≤ r ∧ r < d ∧ 0 ≤ q ∧ q < 2 ^ (64 - k) ∧ pre hi lo k = q * d + r
theorem rinv_start {hi lo d : Int} (h0 : 0 ≤ hi) (l0 : 0 ≤ lo) (l1 : lo ≤ 18446744073709551615) (hlt : hi < d) : RInv hi lo d 64 0 hi :=
  ⟨h0, hlt, Int.le_refl _, by decide, by rw [pre_top hi lo l0 l1]; omega⟩
theorem rinv_half {hi lo d q r : Int} {k : Nat} (h : RInv hi lo d (k + 1) q r) : q ≤ 9223372036854775807 := by
  obtain ⟨_, _, _, h4, _⟩ := h
  have h6 : (2 : Nat) ^ (64 - (k + 1)) ≤ 2 ^ 63 := Nat.pow_le_pow_right (by decide) (by omega)
  have h7 : ((2 ^ (64 - (k + 1)) : Nat) : Int) = 2 ^ (64 - (k + 1)) := by norm_cast
  omega
theorem rinv_keep {hi lo d q r : Int} {k : Nat} (hk : k ≤ 63) (h : RInv hi lo d (k + 1) q r) (hlt : r * 2 + lo / 2 ^ k % 2 < d) : RInv hi lo d k (q * 2) (r * 2 + lo / 2 ^ k % 2) := by
  obtain ⟨h1, h2, h3, h4, h5⟩ := h
  have e1 : 64 - k = (64 - (k + 1)) + 1 := by omega
  refine ⟨by omega, hlt, by omega, by rw [e1, Int.pow_succ]; omega, ?_⟩
  rw [pre_next hi lo k hk, h5, Int.mul_assoc, Int.mul_comm 2 d, ← Int.mul_assoc]; omega
theorem rinv_take {hi lo d q r : Int} {k : Nat} (hk : k ≤ 63) (h : RInv hi lo d (k + 1) q r) (hge : d ≤ r * 2 + lo / 2 ^ k % 2) : RInv hi lo d k (q * 2 + 1) (r * 2 + lo / 2 ^ k % 2 - d) := by
  obtain ⟨h1, h2, h3, h4, h5⟩ := h
  have e1 : 64 - k = (64 - (k + 1)) + 1 := by omega
  refine ⟨by omega, by omega, by omega, by rw [e1, Int.pow_succ]; omega, ?_⟩
  rw [pre_next hi lo k hk, h5, Int.add_mul, Int.one_mul, Int.mul_assoc, Int.mul_comm 2 d, ← Int.mul_assoc]; omega
theorem rinv_end {hi lo d q r : Int} (h : RInv hi lo d 0 q r) : q = qOf hi lo d ∧ r = rOf hi lo d := by
  obtain ⟨h1, h2, h3, h4, h5⟩ := h
  exact qr_unique h1 h2 (by rw [← pre_all]; exact h5)

/-- A product divided by a factor. -/
theorem back_mul {a b : Int} (a0 : 0 ≤ a) (a1 : a ≤ 18446744073709551615) (b0 : 0 < b) : mHi a b < b ∧ qOf (mHi a b) (mLo a b) b = a ∧ rOf (mHi a b) (mLo a b) b = 0 := by
  have e : mHi a b * 18446744073709551616 + mLo a b = a * b := by unfold mHi mLo; omega
  have h1 : a * b ≤ 18446744073709551615 * b := Int.mul_le_mul_of_nonneg_right a1 (by omega)
  refine ⟨?_, ?_, ?_⟩
  · unfold mHi; omega
  · unfold qOf; rw [e]; exact Int.mul_ediv_cancel _ (by omega)
  · unfold rOf; rw [e]; exact Int.mul_emod_left _ _
/-- The quotient times the divisor plus the remainder. -/
theorem back_div {hi lo d : Int} (h0 : 0 ≤ hi) (h1 : hi ≤ 18446744073709551615) (l0 : 0 ≤ lo) (l1 : lo ≤ 18446744073709551615) :
    aHi (mHi (qOf hi lo d) d) (mLo (qOf hi lo d) d) (rOf hi lo d) = hi ∧ aLo (mLo (qOf hi lo d) d) (rOf hi lo d) = lo ∧ aOver (mHi (qOf hi lo d) d) (mLo (qOf hi lo d) d) (rOf hi lo d) = false := by
  have e : qOf hi lo d * d + rOf hi lo d = hi * 18446744073709551616 + lo := by
    unfold qOf rOf
    rw [Int.mul_comm]; exact Int.mul_ediv_add_emod _ _
  unfold aHi aLo aOver mHi mLo
  generalize qOf hi lo d * d = P at *
  generalize rOf hi lo d = r at *
  refine ⟨by omega, by omega, ?_⟩
  simp
  omega
end Go.Proofs.Ythmcdnomphmbiaa

