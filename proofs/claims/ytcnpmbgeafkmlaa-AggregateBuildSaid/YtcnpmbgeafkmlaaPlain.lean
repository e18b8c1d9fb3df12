/-
  Plain arithmetic for layer 1: products of two words by halves, in the spelling of the walk. No program in sight.
-/
import Derived.WalkKit
import Derived.Laws.BitsAllLaws
namespace Go.Proofs.Ytcnpmbgeafkmlaa
open Go.RowKit
set_option linter.unusedVariables false

theorem and_mask (a : Int) (h0 : 0 ≤ a) (h1 : a ≤ 18446744073709551615) : bits .and .u64 a 4294967295 = a % 4294967296 := by
  rw [u64_and a 4294967295 h0 (by omega) (by omega) (by omega)]
  have : (4294967295 : Int).toNat = 2 ^ 32 - 1 := by decide
  rw [this, Nat.and_two_pow_sub_one_eq_mod]
  omega

theorem or_join (x y : Int) (h0 : 0 ≤ x) (h1 : x ≤ 18446744073709551615) (hx : x % 4294967296 = 0) (h2 : 0 ≤ y) (h3 : y < 4294967296) : bits .or .u64 x y = x + y := by
  rw [u64_or x y h0 (by omega) h2 (by omega), nat_join 32 x.toNat y.toNat (by omega) (by omega)]
  omega

/-- The upper and the lower word of a product. -/
def mHi (a b : Int) : Int := a * b / 18446744073709551616
def mLo (a b : Int) : Int := a * b % 18446744073709551616

theorem half_mul (x y : Int) (x0 : 0 ≤ x) (x1 : x ≤ 4294967295) (y0 : 0 ≤ y) (y1 : y ≤ 4294967295) : 0 ≤ x * y ∧ x * y ≤ 18446744065119617025 :=
  ⟨Int.mul_nonneg x0 y0, Int.le_trans (Int.mul_le_mul x1 y1 y0 (by omega)) (by omega)⟩

theorem mul_halves (P Q R S : Int) (p0 : 0 ≤ P) (p1 : P ≤ 18446744065119617025) (q0 : 0 ≤ Q) (q1 : Q ≤ 18446744065119617025) (r0 : 0 ≤ R) (r1 : R ≤ 18446744065119617025) (s0 : 0 ≤ S) (s1 : S ≤ 18446744065119617025)
    (T : Int) (hT : T = P * 18446744073709551616 + (Q + R) * 4294967296 + S) :
    P + (Q + S / 4294967296) / 4294967296 + (R + (Q + S / 4294967296) % 4294967296) / 4294967296 = T / 18446744073709551616
    ∧ IntKind.u64.wrap ((R + (Q + S / 4294967296) % 4294967296) * 4294967296) + S % 4294967296 = T % 18446744073709551616 := by
  rw [IntKind.wrap_u64]
  obtain ⟨l, hl⟩ : ∃ l, l = Q + S / 4294967296 := ⟨_, rfl⟩
  rw [← hl]
  obtain ⟨r, hr⟩ : ∃ r, r = R + l % 4294967296 := ⟨_, rfl⟩
  rw [← hr]
  constructor <;> omega

/-- What the walks over both programs' products need: the four products of halves, and the two words in the walk's spelling. -/
theorem word_mul (a b : Int) (a0 : 0 ≤ a) (a1 : a ≤ 18446744073709551615) (b0 : 0 ≤ b) (b1 : b ≤ 18446744073709551615) :
    ∃ P Q R S : Int, a / 4294967296 * (b / 4294967296) = P ∧ a / 4294967296 * (b % 4294967296) = Q ∧ a % 4294967296 * (b / 4294967296) = R ∧ a % 4294967296 * (b % 4294967296) = S ∧
    0 ≤ P ∧ P ≤ 18446744065119617025 ∧ 0 ≤ Q ∧ Q ≤ 18446744065119617025 ∧ 0 ≤ R ∧ R ≤ 18446744065119617025 ∧ 0 ≤ S ∧ S ≤ 18446744065119617025 ∧
    P + (Q + S / 4294967296) / 4294967296 + (R + (Q + S / 4294967296) % 4294967296) / 4294967296 ≤ 18446744073709551615 ∧
    P + (Q + S / 4294967296) / 4294967296 + (R + (Q + S / 4294967296) % 4294967296) / 4294967296 = mHi a b ∧
    bits .or .u64 (IntKind.u64.wrap ((R + (Q + S / 4294967296) % 4294967296) * 4294967296)) (S % 4294967296) = mLo a b ∧
    IntKind.u64.wrap (IntKind.u64.wrap ((R + (Q + S / 4294967296) % 4294967296) * 4294967296) + S % 4294967296) = mLo a b := by
  have hP := half_mul (a / 4294967296) (b / 4294967296) (by omega) (by omega) (by omega) (by omega)
  have hQ := half_mul (a / 4294967296) (b % 4294967296) (by omega) (by omega) (by omega) (by omega)
  have hR := half_mul (a % 4294967296) (b / 4294967296) (by omega) (by omega) (by omega) (by omega)
  have hS := half_mul (a % 4294967296) (b % 4294967296) (by omega) (by omega) (by omega) (by omega)
  have hT : a * b = a / 4294967296 * (b / 4294967296) * 18446744073709551616 + (a / 4294967296 * (b % 4294967296) + a % 4294967296 * (b / 4294967296)) * 4294967296 + a % 4294967296 * (b % 4294967296) := by
    have ea : a = a / 4294967296 * 4294967296 + a % 4294967296 := by omega
    have eb : b = b / 4294967296 * 4294967296 + b % 4294967296 := by omega
    generalize a / 4294967296 = ah at *
    generalize a % 4294967296 = al at *
    generalize b / 4294967296 = bh at *
    generalize b % 4294967296 = bl at *
    subst ea eb
    rw [Int.add_mul, Int.mul_add, Int.mul_add]
    have t1 : ah * 4294967296 * (bh * 4294967296) = ah * bh * 18446744073709551616 := by
      rw [Int.mul_assoc, Int.mul_comm 4294967296, Int.mul_assoc, Int.mul_assoc]; rfl
    have t2 : ah * 4294967296 * bl = ah * bl * 4294967296 := by rw [Int.mul_assoc, Int.mul_comm 4294967296, Int.mul_assoc]
    have t3 : al * (bh * 4294967296) = al * bh * 4294967296 := by rw [Int.mul_assoc]
    rw [t1, t2, t3]; omega
  have hM : a * b ≤ 18446744073709551615 * 18446744073709551615 := Int.mul_le_mul a1 b1 b0 (by omega)
  obtain ⟨k1, k2⟩ := mul_halves _ _ _ _ hP.1 hP.2 hQ.1 hQ.2 hR.1 hR.2 hS.1 hS.2 (a * b) hT
  refine ⟨_, _, _, _, rfl, rfl, rfl, rfl, hP.1, hP.2, hQ.1, hQ.2, hR.1, hR.2, hS.1, hS.2, ?_, k1, ?_, ?_⟩
  · rw [k1]; omega
  · rw [or_join _ _ (by rw [IntKind.wrap_u64]; omega) (by rw [IntKind.wrap_u64]; omega) (by rw [IntKind.wrap_u64]; omega) (by omega) (by omega)]
    exact k2
  · rw [k2]; unfold mLo; rw [IntKind.wrap_u64]; omega
theorem mHi_bd (a b : Int) (a0 : 0 ≤ a) (a1 : a ≤ 18446744073709551615) (b0 : 0 ≤ b) (b1 : b ≤ 18446744073709551615) : 0 ≤ mHi a b ∧ mHi a b ≤ 18446744073709551615 := by
  have hM : a * b ≤ 18446744073709551615 * 18446744073709551615 := Int.mul_le_mul a1 b1 b0 (by omega)
  have h0 : 0 ≤ a * b := Int.mul_nonneg a0 b0
  unfold mHi; omega
theorem mLo_bd (a b : Int) : 0 ≤ mLo a b ∧ mLo a b ≤ 18446744073709551615 := by unfold mLo; omega
/-- The sum of a wide number and a word: its upper word, its lower word, and whether it leaves 128 bits. -/
def aLo (lo y : Int) : Int := (lo + y) % 18446744073709551616
def aHi (hi lo y : Int) : Int := (hi + (lo + y) / 18446744073709551616) % 18446744073709551616
def aOver (hi lo y : Int) : Bool := decide (340282366920938463463374607431768211456 ≤ hi * 18446744073709551616 + lo + y)
theorem add_none (hi lo y : Int) (h0 : 0 ≤ hi) (h1 : hi ≤ 18446744073709551615) (l0 : 0 ≤ lo) (l1 : lo ≤ 18446744073709551615) (y0 : 0 ≤ y) (y1 : y ≤ 18446744073709551615) (h : lo + y ≤ 18446744073709551615) :
    aLo lo y = lo + y ∧ aHi hi lo y = hi ∧ aOver hi lo y = false := by
  unfold aLo aHi aOver
  refine ⟨by omega, by omega, ?_⟩
  simp; omega
theorem add_carry (hi lo y : Int) (h0 : 0 ≤ hi) (h1 : hi ≤ 18446744073709551615) (l0 : 0 ≤ lo) (l1 : lo ≤ 18446744073709551615) (y0 : 0 ≤ y) (y1 : y ≤ 18446744073709551615) (h : ¬ lo + y ≤ 18446744073709551615) :
    IntKind.u64.wrap (lo + y) = aLo lo y ∧ aLo lo y < y ∧ IntKind.u64.wrap (hi + 1) = aHi hi lo y ∧ (aHi hi lo y == 0) = aOver hi lo y := by
  rw [IntKind.wrap_u64, IntKind.wrap_u64]
  unfold aLo aHi aOver
  refine ⟨rfl, by omega, by omega, ?_⟩
  rw [Bool.eq_iff_iff]; simp; omega
theorem aHi_bd (hi lo y : Int) : 0 ≤ aHi hi lo y ∧ aHi hi lo y ≤ 18446744073709551615 := by unfold aHi; omega
theorem aLo_bd (lo y : Int) : 0 ≤ aLo lo y ∧ aLo lo y ≤ 18446744073709551615 := by unfold aLo; omega
/-! ### (PlainDiv) Plain arithmetic for layer 1: long division by a normalized divisor, and division bit by bit. No program in sight. -/
/-- One digit of a quotient, and what is left. -/
def dQ (rest next d : Int) : Int := (rest * 4294967296 + next) / d
def dR (rest next d : Int) : Int := (rest * 4294967296 + next) % d
theorem d_split (rest next d : Int) : dQ rest next d * d + dR rest next d = rest * 4294967296 + next := by
  unfold dQ dR
  rw [Int.mul_comm]; exact Int.mul_ediv_add_emod _ _
theorem dR_bd (rest next d : Int) (hd : 0 < d) : 0 ≤ dR rest next d ∧ dR rest next d < d := ⟨Int.emod_nonneg _ (by omega), Int.emod_lt_of_pos _ hd⟩
theorem dQ_bd (rest next d : Int) (hd : 0 < d) (r0 : 0 ≤ rest) (r1 : rest < d) (n0 : 0 ≤ next) (n1 : next ≤ 4294967295) : 0 ≤ dQ rest next d ∧ dQ rest next d ≤ 4294967295 := by
  have h0 : 0 ≤ rest * 4294967296 + next := by omega
  have h1 : rest * 4294967296 + next < 4294967296 * d := by omega
  unfold dQ
  exact ⟨Int.ediv_nonneg h0 (by omega), by have := Int.ediv_lt_of_lt_mul hd h1; omega⟩

/-- What holds at the head of digit's loop. -/
def DInv (rest next d dh q l : Int) : Prop := 0 ≤ l ∧ l ≤ 4294967295 ∧ dQ rest next d ≤ q ∧ q ≤ 4294967297 ∧ q * dh + l = rest

section
variable {rest next d dh dl : Int} (hd : 9223372036854775808 ≤ d) (hd1 : d ≤ 18446744073709551615) (r0 : 0 ≤ rest) (r1 : rest < d) (n0 : 0 ≤ next) (n1 : next ≤ 4294967295)
  (eh : d / 4294967296 = dh) (el : d % 4294967296 = dl)
include hd hd1 r0 r1 n0 n1 eh el

theorem dinv_start : DInv rest next d dh (rest / dh) (rest % dh) := by
  have h1 : 2147483648 ≤ dh := by omega
  have h2 : dh ≤ 4294967295 := by omega
  have h3 : d = dh * 4294967296 + dl := by omega
  have m0 := Int.emod_nonneg rest (show dh ≠ 0 by omega)
  have m1 := Int.emod_lt_of_pos rest (show 0 < dh by omega)
  have e := Int.mul_ediv_add_emod rest dh
  have e' : rest / dh * dh + rest % dh = rest := by rw [Int.mul_comm]; exact e
  refine ⟨m0, by omega, ?_, ?_, e'⟩
  · -- the digit is at most rest / dh
    have hs := d_split rest next d
    have hb := dR_bd rest next d (by omega)
    obtain ⟨q0, q1⟩ := dQ_bd rest next d (by omega) r0 r1 n0 n1
    generalize dQ rest next d = Q at *
    have hp : Q * d = Q * dh * 4294967296 + Q * dl := by rw [h3, Int.mul_add, Int.mul_assoc]
    have hn : 0 ≤ Q * dl := Int.mul_nonneg q0 (by omega)
    have hq : Q * dh ≤ rest := by omega
    exact (Int.le_ediv_iff_mul_le (by omega)).2 hq
  · rcases Int.lt_or_le 4294967297 (rest / dh) with h | h
    · have h4 : 4294967298 * dh ≤ rest / dh * dh := Int.mul_le_mul_of_nonneg_right (by omega) (by omega)
      omega
    · exact h

theorem dinv_test {q l : Int} (h : DInv rest next d dh q l) : (dQ rest next d < q ↔ l * 4294967296 + next < q * dl) ∧ (4294967295 < q → dQ rest next d < q) := by
  obtain ⟨l0, l1, hq, hq2, e⟩ := h
  have h3 : d = dh * 4294967296 + dl := by omega
  have hs := d_split rest next d
  have hb := dR_bd rest next d (by omega)
  obtain ⟨q0, q1⟩ := dQ_bd rest next d (by omega) r0 r1 n0 n1
  have hp : q * d = q * dh * 4294967296 + q * dl := by rw [h3, Int.mul_add, Int.mul_assoc]
  refine ⟨⟨fun h => ?_, fun h => ?_⟩, fun h => by omega⟩
  · have h5 : (dQ rest next d + 1) * d ≤ q * d := Int.mul_le_mul_of_nonneg_right (by omega) (by omega)
    rw [Int.add_mul, Int.one_mul] at h5
    omega
  · rcases Int.lt_or_le (dQ rest next d) q with h6 | h6
    · exact h6
    · have h7 : q = dQ rest next d := by omega
      have h8 : q * d = dQ rest next d * d := by rw [h7]
      omega

theorem dinv_step {q l : Int} (h : DInv rest next d dh q l) (hq : dQ rest next d < q) :
    (l + dh ≤ 4294967295 → DInv rest next d dh (q - 1) (l + dh)) ∧ (4294967295 < l + dh → q - 1 = dQ rest next d) := by
  obtain ⟨l0, l1, hq1, hq2, e⟩ := h
  have h3 : d = dh * 4294967296 + dl := by omega
  have h1 : 2147483648 ≤ dh := by omega
  have e2 : (q - 1) * dh + (l + dh) = rest := by rw [Int.sub_mul, Int.one_mul]; omega
  refine ⟨fun h => ⟨by omega, h, by omega, by omega, e2⟩, fun h => ?_⟩
  have hs := d_split rest next d
  have hb := dR_bd rest next d (by omega)
  obtain ⟨q0, q1⟩ := dQ_bd rest next d (by omega) r0 r1 n0 n1
  have hp : (q - 1) * d = (q - 1) * dh * 4294967296 + (q - 1) * dl := by rw [h3, Int.mul_add, Int.mul_assoc]
  have hm : (q - 1) * dl ≤ 4294967296 * 4294967295 := Int.mul_le_mul (by omega) (by omega) (by omega) (by omega)
  rcases Int.lt_or_le (dQ rest next d) (q - 1) with h6 | h6
  · have h5 : (dQ rest next d + 1) * d ≤ (q - 1) * d := Int.mul_le_mul_of_nonneg_right (by omega) (by omega)
    rw [Int.add_mul, Int.one_mul] at h5
    omega
  · omega

end
theorem dinv_rest {rest next d : Int} (hd : 0 < d) (hd1 : d ≤ 18446744073709551615) : IntKind.u64.wrap (IntKind.u64.wrap (IntKind.u64.wrap (rest * 4294967296) + next) - IntKind.u64.wrap (dQ rest next d * d)) = dR rest next d := by
  rw [IntKind.wrap_u64, IntKind.wrap_u64, IntKind.wrap_u64, IntKind.wrap_u64]
  have hs := d_split rest next d
  have hb := dR_bd rest next d hd
  omega

/-- The quotient and the remainder of a wide number by a word. -/
def qOf (hi lo d : Int) : Int := (hi * 18446744073709551616 + lo) / d
def rOf (hi lo d : Int) : Int := (hi * 18446744073709551616 + lo) % d
theorem qr_unique {hi lo d q r : Int} (h0 : 0 ≤ r) (h1 : r < d) (e : hi * 18446744073709551616 + lo = q * d + r) : q = qOf hi lo d ∧ r = rOf hi lo d := by
  have h := (Int.ediv_emod_unique (a := hi * 18446744073709551616 + lo) (b := d) (r := r) (q := q) (by omega)).2 ⟨by rw [e, Int.mul_comm d q]; omega, h0, h1⟩
  exact ⟨h.1.symm, h.2.symm⟩

/-- The shifted dividend: what the walk reckons, and what it is. -/
theorem shifted {hi lo d m m2 : Int} (h0 : 0 ≤ hi) (l0 : 0 ≤ lo) (l1 : lo ≤ 18446744073709551615) (hlt : hi < d) (m0 : 1 ≤ m) (k0 : 1 ≤ m2) (hm : m * m2 = 18446744073709551616) :
    0 ≤ hi * m ∧ 0 ≤ lo / m2 ∧ lo / m2 < m ∧ hi * m + lo / m2 < d * m ∧ lo / m2 * 18446744073709551616 + IntKind.u64.wrap (lo * m) = lo * m := by
  have a1 : 0 ≤ hi * m := Int.mul_nonneg h0 (by omega)
  have a2 : 0 ≤ lo / m2 := Int.ediv_nonneg l0 (by omega)
  have a3 : lo / m2 < m := Int.ediv_lt_of_lt_mul (by omega) (by omega)
  have a4 : (hi + 1) * m ≤ d * m := Int.mul_le_mul_of_nonneg_right (by omega) (by omega)
  rw [Int.add_mul, Int.one_mul] at a4
  have a5 : lo * m / 18446744073709551616 = lo / m2 := by
    rw [← hm, Int.mul_comm m m2]
    exact Int.mul_ediv_mul_of_pos_left lo m2 (by omega)
  refine ⟨a1, a2, a3, by omega, ?_⟩
  rw [IntKind.wrap_u64]
  omega

/-- Two digits make the quotient; the rest, shifted back, is the remainder. -/
theorem digits_make {hi lo d m D R0 Y q1 r1 q2 r2 : Int} (m0 : 1 ≤ m) (hD : d * m = D) (hN : R0 * 18446744073709551616 + Y = (hi * 18446744073709551616 + lo) * m)
    (e1 : q1 * D + r1 = R0 * 4294967296 + Y / 4294967296) (e2 : q2 * D + r2 = r1 * 4294967296 + Y % 4294967296) (b0 : 0 ≤ r2) (b1 : r2 < D) :
    q1 * 4294967296 + q2 = qOf hi lo d ∧ r2 / m = rOf hi lo d := by
  have e3 : (hi * 18446744073709551616 + lo) * m = (q1 * 4294967296 + q2) * D + r2 := by
    have t : (q1 * 4294967296 + q2) * D = q1 * D * 4294967296 + q2 * D := by rw [Int.add_mul, Int.mul_assoc, Int.mul_comm 4294967296 D, ← Int.mul_assoc]
    rw [t]; omega
  have e4 : r2 = (hi * 18446744073709551616 + lo - (q1 * 4294967296 + q2) * d) * m := by
    rw [Int.sub_mul, Int.mul_assoc, hD]; omega
  have e5 : r2 / m = hi * 18446744073709551616 + lo - (q1 * 4294967296 + q2) * d := by
    rw [e4]; exact Int.mul_ediv_cancel _ (by omega)
  refine qr_unique ?_ ?_ ?_
  · exact Int.ediv_nonneg b0 (by omega)
  · exact Int.ediv_lt_of_lt_mul (by omega) (by omega)
  · rw [e5]; omega
theorem qOf_bd {hi lo d : Int} (h0 : 0 ≤ hi) (l0 : 0 ≤ lo) (l1 : lo ≤ 18446744073709551615) (hlt : hi < d) : 0 ≤ qOf hi lo d ∧ qOf hi lo d ≤ 18446744073709551615 := by
  have h1 : hi * 18446744073709551616 + lo < 18446744073709551616 * d := by omega
  unfold qOf
  exact ⟨Int.ediv_nonneg (by omega) (by omega), by have := Int.ediv_lt_of_lt_mul (show 0 < d by omega) h1; omega⟩
theorem rOf_bd {hi lo d : Int} (hd : 0 < d) : 0 ≤ rOf hi lo d ∧ rOf hi lo d < d := ⟨Int.emod_nonneg _ (by omega), Int.emod_lt_of_pos _ hd⟩

/-- The division bit by bit: the first 64 - k bits below the upper word. -/
def pre (hi lo : Int) (k : Nat) : Int := hi * 2 ^ (64 - k) + lo / 2 ^ k
theorem pre_top (hi lo : Int) (l0 : 0 ≤ lo) (l1 : lo ≤ 18446744073709551615) : pre hi lo 64 = hi := by
  unfold pre
  have : lo / 2 ^ 64 = 0 := by omega
  rw [this]; simp
theorem pre_all (hi lo : Int) : pre hi lo 0 = hi * 18446744073709551616 + lo := by
  unfold pre
  simp
theorem pre_next (hi lo : Int) (k : Nat) (hk : k ≤ 63) : pre hi lo k = 2 * pre hi lo (k + 1) + lo / 2 ^ k % 2 := by
  unfold pre
  have e1 : 64 - k = (64 - (k + 1)) + 1 := by omega
  have e2 : lo / 2 ^ (k + 1) = lo / 2 ^ k / 2 := by
    rw [Int.pow_succ, Int.ediv_ediv_of_nonneg (Int.le_of_lt (Int.pow_pos (by decide)))]
  rw [e1, Int.pow_succ, e2, ← Int.mul_assoc]
  omega
theorem or_join_pow (s : Nat) (x y : Int) (h0 : 0 ≤ x) (h1 : x ≤ 18446744073709551615) (hx : x % 2 ^ s = 0) (h2 : 0 ≤ y) (h3 : y < 2 ^ s) (h4 : y ≤ 18446744073709551615) : bits .or .u64 x y = x + y := by
  have e : ((2 ^ s : Nat) : Int) = 2 ^ s := by norm_cast
  rw [u64_or x y h0 (by omega) h2 (by omega), nat_join s x.toNat y.toNat ?_ ?_]
  · omega
  · rw [← e] at hx
    have : ((x.toNat % 2 ^ s : Nat) : Int) = x % ((2 ^ s : Nat) : Int) := by rw [Int.natCast_emod, Int.toNat_of_nonneg h0]
    omega
  · rw [← e] at h3; omega

/-- What holds when 64 - k bits have been brought down. -/
def RInv (hi lo d : Int) (k : Nat) (q r : Int) : Prop := 0 ≤ r ∧ r < d ∧ 0 ≤ q ∧ q < 2 ^ (64 - k) ∧ pre hi lo k = q * d + r
theorem rinv_start {hi lo d : Int} (h0 : 0 ≤ hi) (l0 : 0 ≤ lo) (l1 : lo ≤ 18446744073709551615) (hlt : hi < d) : RInv hi lo d 64 0 hi :=
  ⟨h0, hlt, Int.le_refl _, by decide, by rw [pre_top hi lo l0 l1]; omega⟩
theorem rinv_half {hi lo d q r : Int} {k : Nat} (h : RInv hi lo d (k + 1) q r) : q ≤ 9223372036854775807 := by
  obtain ⟨_, _, _, h4, _⟩ := h
  have h6 : (2 : Nat) ^ (64 - (k + 1)) ≤ 2 ^ 63 := Nat.pow_le_pow_right (by decide) (by omega)
  have h7 : ((2 ^ (64 - (k + 1)) : Nat) : Int) = 2 ^ (64 - (k + 1)) := by norm_cast
  omega
theorem rinv_keep {hi lo d q r : Int} {k : Nat} (hk : k ≤ 63) (h : RInv hi lo d (k + 1) q r) (hlt : r * 2 + lo / 2 ^ k % 2 < d) : RInv hi lo d k (q * 2) (r * 2 + lo / 2 ^ k % 2) := by
  obtain ⟨h1, h2, h3, h4, h5⟩ := h
  have e1 : 64 - k = (64 - (k + 1)) + 1 := by omega
  refine ⟨by omega, hlt, by omega, by rw [e1, Int.pow_succ]; omega, ?_⟩
  rw [pre_next hi lo k hk, h5, Int.mul_assoc, Int.mul_comm 2 d, ← Int.mul_assoc]; omega
theorem rinv_take {hi lo d q r : Int} {k : Nat} (hk : k ≤ 63) (h : RInv hi lo d (k + 1) q r) (hge : d ≤ r * 2 + lo / 2 ^ k % 2) : RInv hi lo d k (q * 2 + 1) (r * 2 + lo / 2 ^ k % 2 - d) := by
  obtain ⟨h1, h2, h3, h4, h5⟩ := h
  have e1 : 64 - k = (64 - (k + 1)) + 1 := by omega
  refine ⟨by omega, by omega, by omega, by rw [e1, Int.pow_succ]; omega, ?_⟩
  rw [pre_next hi lo k hk, h5, Int.add_mul, Int.one_mul, Int.mul_assoc, Int.mul_comm 2 d, ← Int.mul_assoc]; omega
theorem rinv_end {hi lo d q r : Int} (h : RInv hi lo d 0 q r) : q = qOf hi lo d ∧ r = rOf hi lo d := by
  obtain ⟨h1, h2, h3, h4, h5⟩ := h
  exact qr_unique h1 h2 (by rw [← pre_all]; exact h5)

/-- A product divided by a factor. -/
theorem back_mul {a b : Int} (a0 : 0 ≤ a) (a1 : a ≤ 18446744073709551615) (b0 : 0 < b) : mHi a b < b ∧ qOf (mHi a b) (mLo a b) b = a ∧ rOf (mHi a b) (mLo a b) b = 0 := by
  have e : mHi a b * 18446744073709551616 + mLo a b = a * b := by unfold mHi mLo; omega
  have h1 : a * b ≤ 18446744073709551615 * b := Int.mul_le_mul_of_nonneg_right a1 (by omega)
  refine ⟨?_, ?_, ?_⟩
  · unfold mHi; omega
  · unfold qOf; rw [e]; exact Int.mul_ediv_cancel _ (by omega)
  · unfold rOf; rw [e]; exact Int.mul_emod_left _ _
/-- The quotient times the divisor plus the remainder. -/
theorem back_div {hi lo d : Int} (h0 : 0 ≤ hi) (h1 : hi ≤ 18446744073709551615) (l0 : 0 ≤ lo) (l1 : lo ≤ 18446744073709551615) :
    aHi (mHi (qOf hi lo d) d) (mLo (qOf hi lo d) d) (rOf hi lo d) = hi ∧ aLo (mLo (qOf hi lo d) d) (rOf hi lo d) = lo ∧ aOver (mHi (qOf hi lo d) d) (mLo (qOf hi lo d) d) (rOf hi lo d) = false := by
  have e : qOf hi lo d * d + rOf hi lo d = hi * 18446744073709551616 + lo := by
    unfold qOf rOf
    rw [Int.mul_comm]; exact Int.mul_ediv_add_emod _ _
  unfold aHi aLo aOver mHi mLo
  generalize qOf hi lo d * d = P at *
  generalize rOf hi lo d = r at *
  refine ⟨by omega, by omega, ?_⟩
  simp
  omega
/-! ### (FixPlain) Plain arithmetic for layer 2: magnitudes and signs, sums that fit, rounded quotients. No program in sight. -/
/-- A value and its error: the value if it fits, else 0 and ErrRange. -/
def fitV (x : Int) : Int := if -9223372036854775808 ≤ x ∧ x ≤ 9223372036854775807 then x else 0
def fitE (x : Int) : Int := if -9223372036854775808 ≤ x ∧ x ≤ 9223372036854775807 then 0 else 2
theorem fit_yes {x : Int} (h : -9223372036854775808 ≤ x ∧ x ≤ 9223372036854775807) : fitV x = x ∧ fitE x = 0 := by
  unfold fitV fitE; rw [if_pos h, if_pos h]; exact ⟨rfl, rfl⟩
theorem fit_no {x : Int} (h : ¬ (-9223372036854775808 ≤ x ∧ x ≤ 9223372036854775807)) : fitV x = 0 ∧ fitE x = 2 := by
  unfold fitV fitE; rw [if_neg h, if_neg h]; exact ⟨rfl, rfl⟩
theorem fitV_bd (x : Int) : -9223372036854775808 ≤ fitV x ∧ fitV x ≤ 9223372036854775807 := by
  unfold fitV; split
  · rename_i h; exact h
  · omega

/-- The absolute value. -/
def absZ (a : Int) : Int := if a < 0 then -a else a
theorem absZ_neg {a : Int} (h : a < 0) : absZ a = -a := by unfold absZ; simp [h]
theorem absZ_pos {a : Int} (h : ¬ a < 0) : absZ a = a := by unfold absZ; simp [h]
theorem absZ_bd {a : Int} (h0 : -9223372036854775808 ≤ a) (h1 : a ≤ 9223372036854775807) : 0 ≤ absZ a ∧ absZ a ≤ 9223372036854775808 := by
  unfold absZ; split <;> omega
/-- A magnitude with a sign. -/
def sgn (m : Int) (neg : Bool) : Int := if neg then -m else m

/-- The sign of a product or quotient. -/
def negs (a b : Int) : Bool := decide (a < 0) != decide (b < 0)
theorem sgn_mul (a b : Int) : sgn (absZ a * absZ b) (negs a b) = a * b := by
  unfold sgn absZ negs
  by_cases ha : a < 0 <;> by_cases hb : b < 0 <;> simp [ha, hb, Int.neg_mul, Int.mul_neg]
theorem sgn_fit {m : Int} {neg : Bool} (h0 : 0 ≤ m) : (neg = true ∧ m ≤ 9223372036854775808 ∨ neg = false ∧ m < 9223372036854775808) ↔ (-9223372036854775808 ≤ sgn m neg ∧ sgn m neg ≤ 9223372036854775807) := by
  unfold sgn
  cases neg <;> simp <;> omega

/-- Is a magnitude rounded up? -/
def away (rest d : Int) (neg : Bool) (round : Int) : Bool :=
  if round = 0 then neg && decide (0 < rest) else if round = 1 then !neg && decide (0 < rest) else decide (d - rest ≤ rest)
def ups (b : Bool) : Int := if b then 1 else 0
/-- The rounded quotient of a product: a * b / c. -/
def mdQ (a b c round : Int) : Int :=
  sgn (absZ a * absZ b / absZ c + ups (away (absZ a * absZ b % absZ c) (absZ c) (negs a b != decide (c < 0)) round)) (negs a b != decide (c < 0))
def mdV (a b c round : Int) : Int := if round < 0 ∨ 2 < round ∨ c = 0 then 0 else fitV (mdQ a b c round)
def mdE (a b c round : Int) : Int := if round < 0 ∨ 2 < round then 1 else if c = 0 then 3 else fitE (mdQ a b c round)
theorem md_bad {a b c round : Int} (h : round < 0 ∨ 2 < round) : mdV a b c round = 0 ∧ mdE a b c round = 1 := by
  unfold mdV mdE; rw [if_pos h, if_pos (by omega)]; exact ⟨rfl, rfl⟩
theorem md_zero {a b round : Int} (h : ¬ (round < 0 ∨ 2 < round)) : mdV a b 0 round = 0 ∧ mdE a b 0 round = 3 := by
  unfold mdV mdE; rw [if_neg h, if_pos (by omega), if_pos rfl]; exact ⟨rfl, rfl⟩
theorem md_ok {a b c round : Int} (h : ¬ (round < 0 ∨ 2 < round)) (hc : c ≠ 0) : mdV a b c round = fitV (mdQ a b c round) ∧ mdE a b c round = fitE (mdQ a b c round) := by
  unfold mdV mdE; rw [if_neg h, if_neg (by omega), if_neg hc]; exact ⟨rfl, rfl⟩
theorem mdV_bd (a b c round : Int) : -9223372036854775808 ≤ mdV a b c round ∧ mdV a b c round ≤ 9223372036854775807 := by
  unfold mdV; split
  · omega
  · exact fitV_bd _

theorem dec_neg {a : Int} (h : a < 0) : decide (a < 0) = true := decide_eq_true h
theorem dec_pos {a : Int} (h : 0 ≤ a) : decide (a < 0) = false := decide_eq_false (by omega)
/-- The four ways in which two numbers may have signs. -/
theorem signs (a : Int) : decide (a < 0) = true ∨ decide (a < 0) = false := by cases decide (a < 0) <;> simp
theorem sgn_big {m : Int} {neg : Bool} (h : 9223372036854775808 < m) : ¬ (-9223372036854775808 ≤ sgn m neg ∧ sgn m neg ≤ 9223372036854775807) := by
  unfold sgn; cases neg <;> simp <;> omega
theorem ups_bd (b : Bool) : 0 ≤ ups b ∧ ups b ≤ 1 := by cases b <;> decide
/-- The quotient as Div gives it, out of the words of the product. -/
theorem wide_prod (a b : Int) : mHi a b * 18446744073709551616 + mLo a b = a * b := by unfold mHi mLo; omega
theorem qOf_prod (a b d : Int) : qOf (mHi a b) (mLo a b) d = a * b / d := by unfold qOf; rw [wide_prod]
theorem rOf_prod (a b d : Int) : rOf (mHi a b) (mLo a b) d = a * b % d := by unfold rOf; rw [wide_prod]
/-- A quotient of 2^64 or more fits in no case. -/
theorem big_quo {p d : Int} (hd : 0 < d) (p0 : 0 ≤ p) (h : d ≤ p / 18446744073709551616) : 18446744073709551616 ≤ p / d := by
  refine (Int.le_ediv_iff_mul_le hd).2 ?_
  omega
/-! ### (ShPlain) Plain arithmetic for layer 3: sums, shares, the distribution under caps, the distribution of units. No program in sight. -/
/-- The sum of the first n. -/
def sumTo (X : Nat → Int) : Nat → Int
  | 0 => 0
  | n + 1 => sumTo X n + X n
theorem sumTo_succ (X : Nat → Int) (n : Nat) : sumTo X (n + 1) = sumTo X n + X n := rfl
theorem sumTo_congr {X Y : Nat → Int} {n : Nat} (h : ∀ i, i < n → X i = Y i) : sumTo X n = sumTo Y n := by
  induction n with
  | zero => rfl
  | succ n ih => simp only [sumTo_succ]; rw [ih (fun i hi => h i (by omega)), h n (by omega)]
theorem sumTo_ge {X : Nat → Int} {n : Nat} (h : ∀ i, i < n → 0 ≤ X i) : 0 ≤ sumTo X n := by
  induction n with
  | zero => exact Int.le_refl _
  | succ n ih => simp only [sumTo_succ]; have := ih (fun i hi => h i (by omega)); have := h n (by omega); omega
theorem sumTo_mono {X : Nat → Int} {n k : Nat} (hk : k ≤ n) (h : ∀ i, i < n → 0 ≤ X i) : sumTo X k ≤ sumTo X n := by
  induction n with
  | zero => obtain rfl : k = 0 := by omega
            exact Int.le_refl _
  | succ n ih =>
    rcases (by omega : k = n + 1 ∨ k ≤ n) with rfl | h'
    · exact Int.le_refl _
    · have := ih h' (fun i hi => h i (by omega)); have := h n (by omega); simp only [sumTo_succ]; omega
theorem sumTo_le {X : Nat → Int} {n : Nat} {c : Int} (h : ∀ i, i < n → X i ≤ c) : sumTo X n ≤ n * c := by
  induction n with
  | zero => simp [sumTo]
  | succ n ih =>
    have h1 := ih (fun i hi => h i (by omega)); have h2 := h n (by omega)
    have h3 : ((n + 1 : Nat) : Int) * c = n * c + c := by rw [Int.natCast_add, Int.add_mul]; simp
    simp only [sumTo_succ]; omega
theorem sumTo_one {X : Nat → Int} {n i : Nat} (hi : i < n) (h : ∀ j, j < n → 0 ≤ X j) : X i ≤ sumTo X n := by
  have h1 := sumTo_mono (k := i + 1) (by omega) h
  have h2 := sumTo_ge (X := X) (n := i) (fun j hj => h j (by omega))
  rw [sumTo_succ] at h1; omega
theorem sumTo_neg (X : Nat → Int) (n : Nat) : sumTo (fun i => -(X i)) n = -(sumTo X n) := by
  induction n with
  | zero => rfl
  | succ n ih => simp only [sumTo_succ]; rw [ih]; omega
/-- X with v at place k. -/
def upd (X : Nat → Int) (k : Nat) (v : Int) : Nat → Int := fun i => if i = k then v else X i
theorem upd_at (X : Nat → Int) (k : Nat) (v : Int) : upd X k v k = v := by simp [upd]
theorem upd_ne {X : Nat → Int} {k i : Nat} {v : Int} (h : i ≠ k) : upd X k v i = X i := by simp [upd, h]
theorem sumTo_upd {X : Nat → Int} {n k : Nat} {v : Int} (hk : k < n) : sumTo (upd X k v) n = sumTo X n + (v - X k) := by
  induction n with
  | zero => omega
  | succ n ih =>
    simp only [sumTo_succ]
    rcases (by omega : k < n ∨ k = n) with h | h
    · rw [ih h, upd_ne (by omega)]; omega
    · subst h; rw [sumTo_congr (Y := X) (fun i hi => upd_ne (by omega)), upd_at]; omega

/-! ### Split -/
def rndOf (a : Int) : Int := if a < 0 then 1 else 0
/-- The share of part i of total T, rounded toward zero. -/
def shr (a : Int) (V : Nat → Int) (T : Int) (i : Nat) : Int := mdV a (V i) T (rndOf a)
theorem shr_pos {a T : Int} {V : Nat → Int} {i : Nat} (a0 : 0 ≤ a) (a1 : a ≤ 9223372036854775807) (v0 : 0 ≤ V i) (v1 : V i ≤ T) (hT : 0 < T) : shr a V T i = a * V i / T ∧ 0 ≤ a * V i / T ∧ a * V i / T ≤ a := by
  have hb : a * V i / T ≤ a := by
    have : a * V i ≤ a * T := Int.mul_le_mul_of_nonneg_left v1 a0
    exact Int.ediv_le_of_le_mul hT this
  have hb0 : 0 ≤ a * V i / T := Int.ediv_nonneg (Int.mul_nonneg a0 v0) (by omega)
  refine ⟨?_, hb0, hb⟩
  unfold shr rndOf
  rw [if_neg (by omega), (md_ok (by omega) (by omega)).1]
  have : mdQ a (V i) T 0 = a * V i / T := by
    unfold mdQ negs
    rw [absZ_pos (by omega), absZ_pos (by omega), absZ_pos (by omega), decide_eq_false (show ¬ a < 0 by omega), decide_eq_false (show ¬ V i < 0 by omega), decide_eq_false (show ¬ T < 0 by omega)]
    simp [sgn, away, ups]
  rw [this]
  exact (fit_yes (by omega)).1
theorem shr_neg {a T : Int} {V : Nat → Int} {i : Nat} (a0 : a < 0) (a1 : -9223372036854775808 ≤ a) (v0 : 0 ≤ V i) (v1 : V i ≤ T) (hT : 0 < T) : shr a V T i = -(-a * V i / T) ∧ 0 ≤ -a * V i / T ∧ -a * V i / T ≤ -a := by
  have hb : -a * V i / T ≤ -a := by
    have : -a * V i ≤ -a * T := Int.mul_le_mul_of_nonneg_left v1 (by omega)
    exact Int.ediv_le_of_le_mul hT this
  have hb0 : 0 ≤ -a * V i / T := Int.ediv_nonneg (Int.mul_nonneg (by omega) v0) (by omega)
  refine ⟨?_, hb0, hb⟩
  unfold shr rndOf
  rw [if_pos a0, (md_ok (by omega) (by omega)).1]
  have : mdQ a (V i) T 1 = -(-a * V i / T) := by
    unfold mdQ negs
    rw [absZ_neg a0, absZ_pos (by omega), absZ_pos (by omega), decide_eq_true a0, decide_eq_false (show ¬ V i < 0 by omega), decide_eq_false (show ¬ T < 0 by omega)]
    simp [sgn, away, ups]
  rw [this]
  exact (fit_yes (by omega)).1
theorem quo_sum {a T : Int} {V : Nat → Int} (a0 : 0 ≤ a) (hT : 0 < T) (k : Nat) (h : ∀ i, i < k → 0 ≤ V i) : sumTo (fun i => a * V i / T) k * T ≤ a * sumTo V k := by
  induction k with
  | zero => simp [sumTo]
  | succ k ih =>
    have h1 := ih (fun i hi => h i (by omega))
    have h2 : a * V k / T * T ≤ a * V k := Int.ediv_mul_le _ (by omega)
    simp only [sumTo_succ]
    rw [Int.add_mul, Int.mul_add]; omega
theorem quo_le {a T : Int} {V : Nat → Int} (a0 : 0 ≤ a) (hT : 0 < T) (k : Nat) (h : ∀ i, i < k → 0 ≤ V i) (hs : sumTo V k ≤ T) : 0 ≤ sumTo (fun i => a * V i / T) k ∧ sumTo (fun i => a * V i / T) k ≤ a := by
  refine ⟨sumTo_ge fun i hi => Int.ediv_nonneg (Int.mul_nonneg a0 (h i hi)) (by omega), ?_⟩
  have h1 := quo_sum a0 hT k h
  have h2 : a * sumTo V k ≤ a * T := Int.mul_le_mul_of_nonneg_left hs a0
  exact Int.le_of_mul_le_mul_right (Int.le_trans h1 h2) hT
/-- What is left of the amount behind k parts. -/
def leftOf (a : Int) (V : Nat → Int) (T : Int) (k : Nat) : Int := a - sumTo (shr a V T) k
theorem left_bd {a T : Int} {V : Nat → Int} {k : Nat} (a0 : -9223372036854775808 ≤ a) (a1 : a ≤ 9223372036854775807) (hT : 0 < T) (h : ∀ i, i < k → 0 ≤ V i ∧ V i ≤ T) (hs : sumTo V k ≤ T) :
    (0 ≤ a → 0 ≤ leftOf a V T k ∧ leftOf a V T k ≤ a) ∧ (a < 0 → a ≤ leftOf a V T k ∧ leftOf a V T k ≤ 0) := by
  unfold leftOf
  constructor
  · intro ha
    rw [sumTo_congr (fun i hi => (shr_pos ha a1 (h i hi).1 (h i hi).2 hT).1)]
    have := quo_le ha hT k (fun i hi => (h i hi).1) hs
    omega
  · intro ha
    rw [sumTo_congr (fun i hi => (shr_neg ha a0 (h i hi).1 (h i hi).2 hT).1), sumTo_neg]
    have := quo_le (a := -a) (by omega) hT k (fun i hi => (h i hi).1) hs
    omega
theorem shr_bd {a T : Int} {V : Nat → Int} {i : Nat} (a0 : -9223372036854775808 ≤ a) (a1 : a ≤ 9223372036854775807) (hT : 0 < T) (v0 : 0 ≤ V i) (v1 : V i ≤ T) :
    (0 ≤ a → 0 ≤ shr a V T i ∧ shr a V T i ≤ a) ∧ (a < 0 → a ≤ shr a V T i ∧ shr a V T i ≤ 0) := by
  constructor
  · intro ha; have := shr_pos ha a1 v0 v1 hT; omega
  · intro ha; have := shr_neg ha a0 v0 v1 hT; omega
/-- The shares: the part with the lowest ID gets what is left. -/
def spl (a : Int) (V : Nat → Int) (n : Nat) (i : Nat) : Int := if i = 0 then shr a V (sumTo V n) 0 + leftOf a V (sumTo V n) n else shr a V (sumTo V n) i
theorem spl_eq (a : Int) (V : Nat → Int) (n : Nat) : spl a V n = upd (shr a V (sumTo V n)) 0 (shr a V (sumTo V n) 0 + leftOf a V (sumTo V n) n) := by
  funext i; unfold spl upd; split
  · rename_i h; subst h; rfl
  · rfl
theorem spl_sum {a : Int} {V : Nat → Int} {n : Nat} (hn : 0 < n) : sumTo (spl a V n) n = a := by
  rw [spl_eq, sumTo_upd hn]; unfold leftOf; omega
theorem sum_first {X : Nat → Int} {n : Nat} (hn : 0 < n) (h : ∀ i, i < n → 0 ≤ X i) : X 0 ≤ sumTo X n := sumTo_one hn h
/-- The total of valid weights. -/
theorem total_bd {V : Nat → Int} {n : Nat} (hn : n ≤ 64) (h : ∀ i, i < n → 1 ≤ V i ∧ V i ≤ 2147483648) (k : Nat) (hk : k ≤ n) : 0 ≤ sumTo V k ∧ sumTo V k ≤ 137438953472 := by
  refine ⟨sumTo_ge fun i hi => by have := h i (by omega); omega, ?_⟩
  have h1 := sumTo_le (X := V) (n := k) (c := 2147483648) (fun i hi => (h i (by omega)).2)
  have h2 : (k : Int) * 2147483648 ≤ 64 * 2147483648 := Int.mul_le_mul_of_nonneg_right (by omega) (by omega)
  omega
theorem total_pos {V : Nat → Int} {n : Nat} (hn : 0 < n) (h : ∀ i, i < n → 1 ≤ V i ∧ V i ≤ 2147483648) : 0 < sumTo V n := by
  have := sumTo_one (X := V) hn (fun i hi => by have := h i hi; omega)
  have := h 0 hn; omega
/-- All that the walks of Split want of a round k. -/
theorem split_facts {a : Int} {V : Nat → Int} {n : Nat} (a0 : -9223372036854775808 ≤ a) (a1 : a ≤ 9223372036854775807) (hn0 : 0 < n) (hn : n ≤ 64) (h : ∀ i, i < n → 1 ≤ V i ∧ V i ≤ 2147483648) {k : Nat} (hk : k ≤ n) :
    -9223372036854775808 ≤ leftOf a V (sumTo V n) k ∧ leftOf a V (sumTo V n) k ≤ 9223372036854775807 := by
  have hT := total_pos hn0 h
  have hm : ∀ i, i < n → 0 ≤ V i ∧ V i ≤ sumTo V n := fun i hi => ⟨by have := h i hi; omega, sumTo_one hi (fun j hj => by have := h j hj; omega)⟩
  have hs : sumTo V k ≤ sumTo V n := sumTo_mono hk (fun i hi => by have := h i hi; omega)
  have := left_bd a0 a1 hT (fun i hi => hm i (by omega)) hs
  omega
theorem spl_bd {a : Int} {V : Nat → Int} {n : Nat} (a0 : -9223372036854775808 ≤ a) (a1 : a ≤ 9223372036854775807) (hn : n ≤ 64) (h : ∀ i, i < n → 1 ≤ V i ∧ V i ≤ 2147483648) {i : Nat} (hi : i < n) :
    (0 ≤ a → 0 ≤ spl a V n i ∧ spl a V n i ≤ a) ∧ (a < 0 → a ≤ spl a V n i ∧ spl a V n i ≤ 0) := by
  have hT := total_pos (V := V) (n := n) (by omega) h
  have hm : ∀ i, i < n → 0 ≤ V i ∧ V i ≤ sumTo V n := fun i hi => ⟨by have := h i hi; omega, sumTo_one hi (fun j hj => by have := h j hj; omega)⟩
  have hsb := shr_bd (i := i) a0 a1 hT (hm i hi).1 (hm i hi).2
  by_cases h0 : i = 0
  · subst h0
    have hs0 := shr_bd (i := 0) a0 a1 hT (hm 0 hi).1 (hm 0 hi).2
    have hle := left_bd a0 a1 hT (fun i hi => hm i hi) (Int.le_refl (sumTo V n))
    have hsum : spl a V n 0 = shr a V (sumTo V n) 0 + leftOf a V (sumTo V n) n := by unfold spl; rw [if_pos rfl]
    constructor
    · intro ha
      have h1 := sumTo_one (X := shr a V (sumTo V n)) hi (fun j hj => ((shr_bd a0 a1 hT (hm j hj).1 (hm j hj).2).1 ha).1)
      have := hs0.1 ha; have := hle.1 ha
      unfold leftOf at *; omega
    · intro ha
      have h1 := sumTo_one (X := fun i => -(shr a V (sumTo V n) i)) hi (fun j hj => by have := ((shr_bd a0 a1 hT (hm j hj).1 (hm j hj).2).2 ha).2; omega)
      rw [sumTo_neg] at h1
      have := hs0.2 ha; have := hle.2 ha
      unfold leftOf at *; omega
  · unfold spl; rw [if_neg h0]; exact hsb
end Go.Proofs.Ytcnpmbgeafkmlaa

