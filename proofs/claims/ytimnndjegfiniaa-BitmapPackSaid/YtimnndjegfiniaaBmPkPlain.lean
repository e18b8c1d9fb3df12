/-
  Plain arithmetic for layer 6, fourth part: the packed form: ten bytes, and what is read back from any string. No program in sight.
-/
import Derived.Test.YtimnndjegfiniaaBmBits
import Derived.Laws.BytesArg
namespace Go.Proofs.Ytimnndjegfiniaa
open Go.RowKit
set_option linter.unusedVariables false

/-- Byte j of the packed form. -/
def pkI (b x : Int) (j : Nat) : Int := if j = 0 then b / 256 else if j = 1 then b % 256 else x / 2 ^ (8 * (j - 2)) % 256
def pkN (b x : Int) : Nat → List Int
  | 0 => []
  | n + 1 => pkN b x n ++ [pkI b x n]
theorem pkN_len (b x : Int) (n : Nat) : (pkN b x n).length = n := by
  induction n with
  | zero => rfl
  | succ n ih => simp [pkN, ih]
theorem pkN_at (b x : Int) (n j : Nat) (h : j < n) : (pkN b x n).getD j 0 = pkI b x j := by
  induction n with
  | zero => omega
  | succ n ih =>
    unfold pkN
    rcases (by omega : j < n ∨ j = n) with h' | rfl
    · rw [← ih h', List.getD_eq_getElem?_getD, List.getD_eq_getElem?_getD, List.getElem?_append_left (by rw [pkN_len]; exact h')]
    · rw [List.getD_eq_getElem?_getD, List.getElem?_append_right (by rw [pkN_len]; omega), pkN_len, Nat.sub_self]; rfl
theorem pkI_bd {b x : Int} (b0 : 0 ≤ b) (b1 : b < 65536) (j : Nat) : 0 ≤ pkI b x j ∧ pkI b x j ≤ 255 := by
  unfold pkI; split
  · omega
  · split <;> omega
theorem pkI_hi (b x : Int) : pkI b x 0 = b / 256 := rfl
theorem pkI_lo (b x : Int) : pkI b x 1 = b % 256 := rfl
theorem pkI_at (b x : Int) (k : Nat) : pkI b x (2 + k) = x / 2 ^ (8 * k) % 256 := by
  unfold pkI
  rw [if_neg (by omega), if_neg (by omega), Nat.add_sub_cancel_left]
/-- The packed form, and the error. -/
def pkS (b x : Int) : ByteArray := strOfNums (pkN b x 10)
def pkV (b x : Int) : ByteArray := if isNum b then pkS b x else ⟨#[]⟩
def pkE (b : Int) : Int := if isNum b then 0 else 1
theorem pk_no {b x : Int} (h : isNum b = false) : pkV b x = ⟨#[]⟩ ∧ pkE b = 1 := by unfold pkV pkE; simp [h]
theorem pk_yes {b x : Int} (h : isNum b = true) : pkV b x = pkS b x ∧ pkE b = 0 := by unfold pkV pkE; simp [h]
/-- Byte j of a string. -/
def byI (s : ByteArray) (j : Nat) : Int := ((s.data.toList.getD j 0).toNat : Int)
theorem byI_bd (s : ByteArray) (j : Nat) : 0 ≤ byI s j ∧ byI s j ≤ 255 := by
  unfold byI; have := (s.data.toList.getD j 0).toNat_lt; omega
theorem byI_get (s : ByteArray) (j : Nat) (h : j < s.size) : ((s[j]'h).toNat : Int) = byI s j := by
  unfold byI
  have h' : j < s.data.toList.length := by simpa using h
  rw [List.getD_eq_getElem?_getD, List.getElem?_eq_getElem h']
  rfl
theorem byI_pk {b x : Int} (b0 : 0 ≤ b) (b1 : b < 65536) {j : Nat} (h : j < 10) : byI (pkS b x) j = pkI b x j := by
  have hb := pkI_bd b0 b1 (x := x) j
  unfold byI pkS
  rw [strOfNums_data, List.getD_eq_getElem?_getD, List.getElem?_map]
  have := pkN_at b x 10 j h
  rw [List.getD_eq_getElem?_getD, List.getElem?_eq_getElem (by rw [pkN_len]; exact h)] at this
  rw [List.getElem?_eq_getElem (by rw [pkN_len]; exact h)]
  simp only [Option.map_some, Option.getD_some] at this ⊢
  rw [this]
  simp; omega
theorem pkS_size (b x : Int) : (pkS b x).size = 10 := by unfold pkS; rw [strOfNums_size, pkN_len]
/-- The bits that the first n bytes behind the base hold. -/
def sumX (s : ByteArray) : Nat → Int
  | 0 => 0
  | n + 1 => byI s (2 + n) * 2 ^ (8 * n) + sumX s n
theorem pow8 (n : Nat) : (2 : Int) ^ (8 * (n + 1)) = 256 * 2 ^ (8 * n) := by
  rw [show 8 * (n + 1) = 8 * n + 8 from by omega, Int.pow_add]; omega
theorem sumX_bd (s : ByteArray) (n : Nat) : 0 ≤ sumX s n ∧ sumX s n < 2 ^ (8 * n) := by
  induction n with
  | zero => simp [sumX]
  | succ n ih =>
    have hb := byI_bd s (2 + n)
    have hp := pow_pos' (8 * n)
    rw [pow8]
    unfold sumX
    generalize (2 : Int) ^ (8 * n) = P at *
    have h1 : 0 ≤ byI s (2 + n) * P := Int.mul_nonneg hb.1 (by omega)
    have h2 : byI s (2 + n) * P ≤ 255 * P := Int.mul_le_mul_of_nonneg_right hb.2 (by omega)
    omega
theorem pow_le56 {n : Nat} (h : n < 8) : (2 : Int) ^ (8 * n) ≤ 72057594037927936 := by
  have h1 : (2 : Nat) ^ (8 * n) ≤ 2 ^ 56 := Nat.pow_le_pow_right (by decide) (by omega)
  have h2 : ((2 ^ (8 * n) : Nat) : Int) ≤ ((2 ^ 56 : Nat) : Int) := by exact_mod_cast h1
  simpa using h2
theorem sumX_wd (s : ByteArray) {n : Nat} (h : n ≤ 8) : Wd (sumX s n) := by
  obtain ⟨h0, h1⟩ := sumX_bd s n
  refine ⟨h0, ?_⟩
  have h2 : (2 : Nat) ^ (8 * n) ≤ 2 ^ 64 := Nat.pow_le_pow_right (by decide) (by omega)
  have h3 : ((2 ^ (8 * n) : Nat) : Int) ≤ ((2 ^ 64 : Nat) : Int) := by exact_mod_cast h2
  have h4 : (2 : Int) ^ (8 * n) ≤ 18446744073709551616 := by simpa using h3
  omega
theorem or_above (s : Nat) (x y : Int) (h0 : 0 ≤ x) (h1 : x ≤ 18446744073709551615) (hx : x % 2 ^ s = 0) (h2 : 0 ≤ y) (h3 : y < 2 ^ s) (h4 : y ≤ 18446744073709551615) : bits .or .u64 y x = x + y := by
  have hc : bits .or .u64 y x = bits .or .u64 x y := by simp only [bits, BitVec.or_comm]
  rw [hc, u64_or x y h0 (by omega) h2 (by omega)]
  have hxn : x.toNat % 2 ^ s = 0 := by
    have h5 : ((x.toNat % 2 ^ s : Nat) : Int) = 0 := by
      rw [Int.natCast_emod, Int.toNat_of_nonneg h0]; norm_cast
    exact_mod_cast h5
  have hyn : y.toNat < 2 ^ s := by
    have h6 : (y.toNat : Int) < ((2 ^ s : Nat) : Int) := by rw [Int.toNat_of_nonneg h2]; norm_cast
    exact_mod_cast h6
  rw [nat_join s x.toNat y.toNat hxn hyn]; omega
theorem byte_wd (s : ByteArray) {k : Nat} (hk : k < 8) : Wd (byI s (2 + k) * 2 ^ (8 * k)) := by
  have hb := byI_bd s (2 + k)
  have hp := pow_pos' (8 * k)
  have hq := pow_le56 hk
  generalize (2 : Int) ^ (8 * k) = P at *
  have h1 : 0 ≤ byI s (2 + k) * P := Int.mul_nonneg hb.1 (by omega)
  have h2 : byI s (2 + k) * P ≤ 255 * P := Int.mul_le_mul_of_nonneg_right hb.2 (by omega)
  exact ⟨h1, by omega⟩
theorem sumX_next (s : ByteArray) {k : Nat} (hk : k < 8) : bits .or .u64 (sumX s k) (byI s (2 + k) * 2 ^ (8 * k)) = sumX s (k + 1) := by
  obtain ⟨h0, h1⟩ := sumX_bd s k
  obtain ⟨g0, g1⟩ := sumX_wd s (n := k) (by omega)
  obtain ⟨w0, w1⟩ := byte_wd s hk
  rw [or_above (8 * k) _ _ w0 w1 (Int.mul_emod_left _ _) h0 h1 g1]; rfl
theorem sumX_wrap (s : ByteArray) {k : Nat} (hk : k < 8) : IntKind.u64.wrap (byI s (2 + k) * 2 ^ (8 * k)) = byI s (2 + k) * 2 ^ (8 * k) := by
  obtain ⟨w0, w1⟩ := byte_wd s hk
  rw [IntKind.wrap_u64]; omega
theorem base_or (s : ByteArray) : bits .or .i64 (byI s 0 * 256) (byI s 1) = byI s 0 * 256 + byI s 1 := by
  obtain ⟨a0, a1⟩ := byI_bd s 0
  obtain ⟨c0, c1⟩ := byI_bd s 1
  generalize byI s 0 = a at *
  generalize byI s 1 = c at *
  have key : bits .or .i64 (a * 256) c = IntKind.i64.wrap ((BitVec.ofInt 64 (a * 256) ||| BitVec.ofInt 64 c).toNat : Nat) := rfl
  have ha : (BitVec.ofInt 64 (a * 256)).toNat = (a * 256).toNat := by rw [BitVec.toNat_ofInt]; omega
  have hc : (BitVec.ofInt 64 c).toNat = c.toNat := by rw [BitVec.toNat_ofInt]; omega
  rw [key, BitVec.toNat_or, ha, hc, nat_join 8 (a * 256).toNat c.toNat (by omega) (by omega), IntKind.wrap_i64]
  omega
/-- Unpack: the base, the bits, the error. -/
def upB (s : ByteArray) : Int := if s.size = 10 then byI s 0 * 256 + byI s 1 else 0
def upX (s : ByteArray) : Int := if s.size = 10 then sumX s 8 else 0
def upE (s : ByteArray) : Int := if s.size = 10 then 0 else if s.size < 10 then 9 else 11
theorem up_yes {s : ByteArray} (h : s.size = 10) : upB s = byI s 0 * 256 + byI s 1 ∧ upX s = sumX s 8 ∧ upE s = 0 := by unfold upB upX upE; simp [h]
theorem up_less {s : ByteArray} (h : s.size < 10) : upB s = 0 ∧ upX s = 0 ∧ upE s = 9 := by
  have : ¬ s.size = 10 := by omega
  unfold upB upX upE; simp [h, this]
theorem up_more {s : ByteArray} (h : 10 < s.size) : upB s = 0 ∧ upX s = 0 ∧ upE s = 11 := by
  have h1 : ¬ s.size = 10 := by omega
  have h2 : ¬ s.size < 10 := by omega
  unfold upB upX upE; simp [h1, h2]
theorem emod_two (x P : Int) (hp : 1 ≤ P) : x % (256 * P) = x % P + P * (x / P % 256) := by
  have h1 := Int.emod_add_mul_ediv x P
  have h2 := Int.emod_add_mul_ediv (x / P) 256
  have a0 := Int.emod_nonneg x (show P ≠ 0 by omega)
  have a1 := Int.emod_lt_of_pos x (show 0 < P by omega)
  have c0 := Int.emod_nonneg (x / P) (show (256 : Int) ≠ 0 by omega)
  have c1 := Int.emod_lt_of_pos (x / P) (show (0 : Int) < 256 by omega)
  generalize x % P = r at *
  generalize x / P % 256 = r2 at *
  generalize x / P / 256 = q2 at *
  have e : x = r + P * r2 + 256 * P * q2 := by
    rw [← h1, ← h2, Int.mul_add, ← Int.mul_assoc, Int.mul_comm P 256]; omega
  have d0 : 0 ≤ P * r2 := Int.mul_nonneg (by omega) c0
  have d1 : P * r2 ≤ P * 255 := Int.mul_le_mul_of_nonneg_left (by omega) (by omega)
  rw [e, Int.add_mul_emod_self_left]
  exact Int.emod_eq_of_lt (by omega) (by omega)
theorem sumX_pk {b x : Int} (b0 : 0 ≤ b) (b1 : b < 65536) (n : Nat) (hn : n ≤ 8) : sumX (pkS b x) n = x % 2 ^ (8 * n) := by
  induction n with
  | zero => simp [sumX]
  | succ n ih =>
    unfold sumX
    rw [ih (by omega), byI_pk b0 b1 (by omega), pkI_at, pow8]
    have hp := pow_pos' (8 * n)
    generalize (2 : Int) ^ (8 * n) = P at *
    rw [emod_two x P hp, Int.mul_comm]; omega
/-- What Pack gives is read back. -/
theorem up_pk {b x : Int} (h : isNum b = true) (hx : Wd x) : upB (pkS b x) = b ∧ upX (pkS b x) = x ∧ upE (pkS b x) = 0 := by
  obtain ⟨b0, b1⟩ := isNum_bd h
  obtain ⟨e1, e2, e3⟩ := up_yes (pkS_size b x)
  rw [e1, e2, e3, sumX_pk b0 b1 8 (by decide), byI_pk b0 b1 (by decide), byI_pk b0 b1 (by decide), pkI_hi, pkI_lo]
  refine ⟨by omega, ?_, rfl⟩
  obtain ⟨x0, x1⟩ := hx
  have : (2 : Int) ^ (8 * 8) = 18446744073709551616 := by decide
  rw [this]; omega
end Go.Proofs.Ytimnndjegfiniaa

