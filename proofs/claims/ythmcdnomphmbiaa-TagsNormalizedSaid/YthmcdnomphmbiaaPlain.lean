/-
  Plain arithmetic for layer 1: products of two words by halves, in the spelling of the walk. No program in sight.
-/
import Derived.WalkKit
import Derived.Laws.BitsAllLaws
namespace Go.Proofs.Ythmcdnomphmbiaa
open Go.RowKit
set_option linter.unusedVariables false

theorem and_mask (a : Int) (h0 : 0 ≤ a) (h1 : a ≤ 18446744073709551615) : bits .and .u64 a 4294967295 = a % 4294967296 := by
  rw [u64_and a 4294967295 h0 (by omega) (by omega) (by omega)]
  have : (4294967295 : Int).toNat = 2 ^ 32 - 1 := by decide
  rw [this, Nat.and_two_pow_sub_one_eq_mod]
  omega

theorem or_join (x y : Int) (h0 : 0 ≤ x) (h1 : x ≤ 18446744073709551615) (hx : x % 4294967296 = 0) (h2 : 0 ≤ y) (h3 : y < 4294967296) : bits .or .u64 x y = x + y := by
  rw [u64_or x y h0 (by omega) h2 (by omega), nat_join 32 x.toNat y.toNat (by omega) (by omega)]
  omega

/-- The upper and the lower word of a product. -/
def mHi (a b : Int) : Int := a * b / 18446744073709551616
def mLo (a b : Int) : Int := a * b % 18446744073709551616

theorem half_mul (x y : Int) (x0 : 0 ≤ x) (x1 : x ≤ 4294967295) (y0 : 0 ≤ y) (y1 : y ≤ 4294967295) : 0 ≤ x * y ∧ x * y ≤ 18446744065119617025 :=
  ⟨Int.mul_nonneg x0 y0, Int.le_trans (Int.mul_le_mul x1 y1 y0 (by omega)) (by omega)⟩

theorem mul_halves (P Q R S : Int) (p0 : 0 ≤ P) (p1 : P ≤ 18446744065119617025) (q0 : 0 ≤ Q) (q1 : Q ≤ 18446744065119617025) (r0 : 0 ≤ R) (r1 : R ≤ 18446744065119617025) (s0 : 0 ≤ S) (s1 : S ≤ 18446744065119617025)
    (T : Int) (hT : T = P * 18446744073709551616 + (Q + R) * 4294967296 + S) :
    P + (Q + S / 4294967296) / 4294967296 + (R + (Q + S / 4294967296) % 4294967296) / 4294967296 = T / 18446744073709551616
    ∧ IntKind.u64.wrap ((R + (Q + S / 4294967296) % 4294967296) * 4294967296) + S % 4294967296 = T % 18446744073709551616 := by
  rw [IntKind.wrap_u64]
  obtain ⟨l, hl⟩ : ∃ l, l = Q + S / 4294967296 := ⟨_, rfl⟩
  rw [← hl]
  obtain ⟨r, hr⟩ : ∃ r, r = R + l % 4294967296 := ⟨_, rfl⟩
  rw [← hr]
  constructor <;> omega

/-- What the walks over both programs' products need: the four products of halves, and the two words in the walk's spelling. -/
theorem word_mul (a b : Int) (a0 : 0 ≤ a) (a1 : a ≤ 18446744073709551615) (b0 : 0 ≤ b) (b1 : b ≤ 18446744073709551615) :
    ∃ P Q R S : Int, a / 4294967296 * (b / 4294967296) = P ∧ a / 4294967296 * (b % 4294967296) = Q ∧ a % 4294967296 * (b / 4294967296) = R ∧ a % 4294967296 * (b % 4294967296) = S ∧
    0 ≤ P ∧ P ≤ 18446744065119617025 ∧ 0 ≤ Q ∧ Q ≤ 18446744065119617025 ∧ 0 ≤ R ∧ R ≤ 18446744065119617025 ∧ 0 ≤ S ∧ S ≤ 18446744065119617025 ∧
    P + (Q + S / 4294967296) / 4294967296 + (R + (Q + S / 4294967296) % 4294967296) / 4294967296 ≤ 18446744073709551615 ∧
    P + (Q + S / 4294967296) / 4294967296 + (R + (Q + S / 4294967296) % 4294967296) / 4294967296 = mHi a b ∧
    bits .or .u64 (IntKind.u64.wrap ((R + (Q + S / 4294967296) % 4294967296) * 4294967296)) (S % 4294967296) = mLo a b ∧
    IntKind.u64.wrap (IntKind.u64.wrap ((R + (Q + S / 4294967296) % 4294967296) * 4294967296) + S % 4294967296) = mLo a b := by
  have hP := half_mul (a / 4294967296) (b / 4294967296) (by omega) (by omega) (by omega) (by omega)
  have hQ := half_mul (a / 4294967296) (b % 4294967296) (by omega) (by omega) (by omega) (by omega)
  have hR := half_mul (a % 4294967296) (b / 4294967296) (by omega) (by omega) (by omega) (by omega)
  have hS := half_mul (a % 4294967296) (b % 4294967296) (by omega) (by omega) (by omega) (by omega)
  have hT : a * b = a / 4294967296 * (b / 4294967296) * 18446744073709551616 + (a / 4294967296 * (b % 4294967296) + a % 4294967296 * (b / 4294967296)) * 4294967296 + a % 4294967296 * (b % 4294967296) := by
    have ea : a = a / 4294967296 * 4294967296 + a % 4294967296 := by omega
    have eb : b = b / 4294967296 * 4294967296 + b % 4294967296 := by omega
    generalize a / 4294967296 = ah at *
    generalize a % 4294967296 = al at *
    generalize b / 4294967296 = bh at *
    generalize b % 4294967296 = bl at *
    subst ea eb
    rw [Int.add_mul, Int.mul_add, Int.mul_add]
    have t1 : ah * 4294967296 * (bh * 4294967296) = ah * bh * 18446744073709551616 := by
      rw [Int.mul_assoc, Int.mul_comm 4294967296, Int.mul_assoc, Int.mul_assoc]; rfl
    have t2 : ah * 4294967296 * bl = ah * bl * 4294967296 := by rw [Int.mul_assoc, Int.mul_comm 4294967296, Int.mul_assoc]
    have t3 : al * (bh * 4294967296) = al * bh * 4294967296 := by rw [Int.mul_assoc]
    rw [t1, t2, t3]; omega
  have hM : a * b ≤ 18446744073709551615 * 18446744073709551615 := Int.mul_le_mul a1 b1 b0 (by omega)
  obtain ⟨k1, k2⟩ := mul_halves _ _ _ _ hP.1 hP.2 hQ.1 hQ.2 hR.1 hR.2 hS.1 hS.2 (a * b) hT
  refine ⟨_, _, _, _, rfl, rfl, rfl, rfl, hP.1, hP.2, hQ.1, hQ.2, hR.1, hR.2, hS.1, hS.2, ?_, k1, ?_, ?_⟩
  · rw [k1]; omega
  · rw [or_join _ _ (by rw [IntKind.wrap_u64]; omega) (by rw [IntKind.wrap_u64]; omega) (by rw [IntKind.wrap_u64]; omega) (by omega) (by omega)]
    exact k2
  · rw [k2]; unfold mLo; rw [IntKind.wrap_u64]; omega
theorem mHi_bd (a b : Int) (a0 : 0 ≤ a) (a1 : a ≤ 18446744073709551615) (b0 : 0 ≤ b) (b1 : b ≤ 18446744073709551615) : 0 ≤ mHi a b ∧ mHi a b ≤ 18446744073709551615 := by
  have hM : a * b ≤ 18446744073709551615 * 18446744073709551615 := Int.mul_le_mul a1 b1 b0 (by omega)
  have h0 : 0 ≤ a * b := Int.mul_nonneg a0 b0
  unfold mHi; omega
theorem mLo_bd (a b : Int) : 0 ≤ mLo a b ∧ mLo a b ≤ 18446744073709551615 := by unfold mLo; omega
/-- The sum of a wide number and a word: its upper word, its lower word, and whether it leaves 128 bits. -/
def aLo (lo y : Int) : Int := (lo + y) % 18446744073709551616
def aHi (hi lo y : Int) : Int := (hi + (lo + y) / 18446744073709551616) % 18446744073709551616
def aOver (hi lo y : Int) : Bool := decide (340282366920938463463374607431768211456 ≤ hi * 18446744073709551616 + lo + y)
theorem add_none (hi lo y : Int) (h0 : 0 ≤ hi) (h1 : hi ≤ 18446744073709551615) (l0 : 0 ≤ lo) (l1 : lo ≤ 18446744073709551615) (y0 : 0 ≤ y) (y1 : y ≤ 18446744073709551615) (h : lo + y ≤ 18446744073709551615) :
    aLo lo y = lo + y ∧ aHi hi lo y = hi ∧ aOver hi lo y = false := by
  unfold aLo aHi aOver
  refine ⟨by omega, by omega, ?_⟩
  simp; omega
theorem add_carry (hi lo y : Int) (h0 : 0 ≤ hi) (h1 : hi ≤ 18446744073709551615) (l0 : 0 ≤ lo) (l1 : lo ≤ 18446744073709551615) (y0 : 0 ≤ y) (y1 : y ≤ 18446744073709551615) (h : ¬ lo + y ≤ 18446744073709551615) :
    IntKind.u64.wrap (lo + y) = aLo lo y ∧ aLo lo y < y ∧ IntKind.u64.wrap (hi + 1) = aHi hi lo y ∧ (aHi hi lo y == 0) = aOver hi lo y := by
  rw [IntKind.wrap_u64, IntKind.wrap_u64]
  unfold aLo aHi aOver
  refine ⟨rfl, by omega, by omega, ?_⟩
  rw [Bool.eq_iff_iff]; simp; omega
theorem aHi_bd (hi lo y : Int) : 0 ≤ aHi hi lo y ∧ aHi hi lo y ≤ 18446744073709551615 := by unfold aHi; omega
theorem aLo_bd (lo y : Int) : 0 ≤ aLo lo y ∧ aLo lo y ≤ 18446744073709551615 := by unfold aLo; omega
end Go.Proofs.Ythmcdnomphmbiaa

