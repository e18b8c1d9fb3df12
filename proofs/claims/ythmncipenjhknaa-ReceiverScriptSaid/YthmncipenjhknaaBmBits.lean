/-
  Plain arithmetic for layer 6, second part: one bit of a word, shifts, the set bits at the beginning. No program in sight.
-/
import Derived.Test.YthmncipenjhknaaBmPlain
namespace Go.Proofs.Ythmncipenjhknaa
open Go.RowKit
set_option linter.unusedVariables false

/-- A word. -/
def Wd (x : Int) : Prop := 0 ≤ x ∧ x ≤ 18446744073709551615
theorem pow_pos' (k : Nat) : (1 : Int) ≤ 2 ^ k := Int.pow_pos (by decide)
theorem pow_lt64 {k : Nat} (h : k < 64) : (2 : Int) ^ k ≤ 9223372036854775808 := by
  have h1 : (2 : Nat) ^ k ≤ 2 ^ 63 := Nat.pow_le_pow_right (by decide) (by omega)
  have h2 : ((2 ^ k : Nat) : Int) ≤ ((2 ^ 63 : Nat) : Int) := by exact_mod_cast h1
  simpa using h2
theorem pow_ge64 {k : Nat} (h : 64 ≤ k) : (18446744073709551616 : Int) ≤ 2 ^ k := by
  have h1 : (2 : Nat) ^ 64 ≤ 2 ^ k := Nat.pow_le_pow_right (by decide) h
  have h2 : ((2 ^ 64 : Nat) : Int) ≤ ((2 ^ k : Nat) : Int) := by exact_mod_cast h1
  simpa using h2
theorem shr_wd {x : Int} (h : Wd x) (k : Nat) : Wd (x / 2 ^ k) :=
  ⟨Int.ediv_nonneg h.1 (Int.le_of_lt (Int.pow_pos (by decide))), Int.le_trans (Int.ediv_le_self _ h.1) h.2⟩
theorem shr_all {x : Int} (h : Wd x) {k : Nat} (hk : 64 ≤ k) : x / 2 ^ k = 0 :=
  Int.ediv_eq_zero_of_lt h.1 (by have := pow_ge64 hk; have := h.2; omega)
theorem shr_min {x : Int} (h : Wd x) (k : Nat) : x / 2 ^ min k 64 = x / 2 ^ k := by
  rcases Nat.lt_or_ge k 64 with h1 | h1
  · rw [Nat.min_eq_left (by omega)]
  · rw [Nat.min_eq_right h1, shr_all h (Nat.le_refl _), shr_all h h1]
theorem shr_next (x : Int) (k : Nat) : x / 2 ^ k / 2 = x / 2 ^ (k + 1) := by
  rw [Int.pow_succ, Int.ediv_ediv_of_nonneg (Int.le_of_lt (Int.pow_pos (by decide)))]
theorem shr_add (x : Int) (j k : Nat) : x / 2 ^ j / 2 ^ k = x / 2 ^ (j + k) := by
  rw [Int.pow_add, Int.ediv_ediv_of_nonneg (Int.le_of_lt (Int.pow_pos (by decide)))]
theorem and_bit {x : Int} (h : Wd x) {k : Nat} (hk : k < 64) : bits .and .u64 x (2 ^ k) = x / 2 ^ k % 2 * 2 ^ k := by
  have h1 := pow_lt64 hk
  have h2 := pow_pos' k
  have e : (2 ^ k : Int).toNat = 2 ^ k := by
    have : (2 ^ k : Int) = ((2 ^ k : Nat) : Int) := by norm_cast
    rw [this]; exact Int.toNat_natCast _
  rw [u64_and x (2 ^ k) h.1 (by have := h.2; omega) (by omega) (by omega), e, nat_bit]
  have ex : x = (x.toNat : Int) := (Int.toNat_of_nonneg h.1).symm
  rw [ex, Int.toNat_natCast]
  norm_cast
theorem and_zero {x : Int} (h : Wd x) : bits .and .u64 x 0 = 0 := by
  rw [u64_and x 0 h.1 (by have := h.2; omega) (by decide) (by decide)]; simp
theorem and_low {x : Int} (h : Wd x) : bits .and .u64 x 1 = x % 2 := by
  have := and_bit h (k := 0) (by decide)
  simpa using this
theorem pow_wrap {k : Nat} (hk : k < 64) : IntKind.u64.wrap (2 ^ k) = 2 ^ k := by
  have h1 := pow_lt64 hk
  have h2 := pow_pos' k
  rw [IntKind.wrap_u64]; omega

/-- The steps from b to s. -/
def dOf (b s : Int) : Nat := ((s - b) % 65536).toNat
theorem dOf_is (b s : Int) : (s - b) % 65536 = (dOf b s : Int) := by unfold dOf; omega
theorem dOf_lt (b s : Int) : dOf b s < 65536 := by unfold dOf; omega
theorem ins64_yes {b s : Int} (h : both b s = true) (hd : dOf b s < 64) : insB b 64 s = true := ins_is h (by rw [dOf_is]; simp; omega)
theorem ins64_no {b s : Int} (h : both b s = false ∨ 64 ≤ dOf b s) : insB b 64 s = false := by
  rcases h' : both b s with _ | _
  · exact ins_no h'
  · rcases h with h | h
    · rw [h'] at h; cases h
    · exact ins_is h' (by rw [dOf_is]; simp; omega)
theorem ins64_cases (b s : Int) : (both b s = true ∧ dOf b s < 64 ∧ insB b 64 s = true) ∨ (both b s = true ∧ 64 ≤ dOf b s ∧ insB b 64 s = false) ∨ (both b s = false ∧ insB b 64 s = false) := by
  rcases h' : both b s with _ | _
  · exact .inr (.inr ⟨rfl, ins_no h'⟩)
  · rcases Nat.lt_or_ge (dOf b s) 64 with h | h
    · exact .inl ⟨rfl, h, ins64_yes h' h⟩
    · exact .inr (.inl ⟨rfl, h, ins64_no (.inr h)⟩)

/-- The bit of a number, Has, Set. -/
def bitV (b s : Int) : Int := if insB b 64 s then 2 ^ dOf b s else 0
def hasB (b x s : Int) : Bool := insB b 64 s && decide (x / 2 ^ dOf b s % 2 = 1)
def stOk (b s : Int) : Bool := insB b 64 s
def stE (b s : Int) : Int := if both b s then (if insB b 64 s then 0 else 2) else 1
def stB (b s : Int) : Int := if insB b 64 s then b else 0
def stX (b x s : Int) : Int := if insB b 64 s then bits .or .u64 x (2 ^ dOf b s) else 0
theorem bitV_yes {b s : Int} (h : insB b 64 s = true) : bitV b s = 2 ^ dOf b s := by unfold bitV; simp [h]
theorem bitV_no {b s : Int} (h : insB b 64 s = false) : bitV b s = 0 := by unfold bitV; simp [h]
theorem has_no {b x s : Int} (h : insB b 64 s = false) : hasB b x s = false := by unfold hasB; simp [h]
theorem has_is {b x s : Int} (h : insB b 64 s = true) {r : Bool} (hr : decide (x / 2 ^ dOf b s % 2 = 1) = r) : hasB b x s = r := by unfold hasB; rw [h, hr]; rfl
theorem has_and {b x s : Int} (hx : Wd x) : (bits .and .u64 x (bitV b s) != 0) = hasB b x s := by
  rcases ins64_cases b s with ⟨_, h2, h3⟩ | ⟨_, _, h3⟩ | ⟨_, h3⟩
  · rw [bitV_yes h3, and_bit hx h2]
    unfold hasB
    have hp := pow_pos' (dOf b s)
    rcases (by omega : x / 2 ^ dOf b s % 2 = 0 ∨ x / 2 ^ dOf b s % 2 = 1) with e | e
    · rw [e, h3]; simp
    · rw [e, h3]; simp; omega
  · rw [bitV_no h3, has_no h3, and_zero hx]; rfl
  · rw [bitV_no h3, has_no h3, and_zero hx]; rfl
theorem st_bad {b x s : Int} (h : both b s = false) : stE b s = 1 ∧ stB b s = 0 ∧ stX b x s = 0 := by
  have h3 := ins_no (n := 64) h
  unfold stE stB stX; simp [h, h3]
theorem st_far {b x s : Int} (h : both b s = true) (h3 : insB b 64 s = false) : stE b s = 2 ∧ stB b s = 0 ∧ stX b x s = 0 := by
  unfold stE stB stX; simp [h, h3]
theorem st_yes {b x s : Int} (h : both b s = true) (h3 : insB b 64 s = true) : stE b s = 0 ∧ stB b s = b ∧ stX b x s = bits .or .u64 x (2 ^ dOf b s) := by
  unfold stE stB stX; simp [h, h3]

/-- Move: the error, the base, the bits. -/
def mvOk (b t : Int) : Bool := both b t && decide (dOf b t ≤ 32767)
def mvE (b t : Int) : Int := if mvOk b t then 0 else 1
def mvB (b t : Int) : Int := if mvOk b t then t else 0
def mvX (b x t : Int) : Int := if mvOk b t then x / 2 ^ dOf b t else 0
theorem mv_no {b t : Int} (h : both b t = false ∨ 32767 < dOf b t) : mvOk b t = false := by
  unfold mvOk; rcases h with h | h
  · simp [h]
  · have : ¬ dOf b t ≤ 32767 := by omega
    simp [this]
theorem mv_yes {b t : Int} (h : both b t = true) (hd : dOf b t ≤ 32767) : mvOk b t = true := by unfold mvOk; simp [h, hd]
theorem mv_bad {b x t : Int} (h : mvOk b t = false) : mvE b t = 1 ∧ mvB b t = 0 ∧ mvX b x t = 0 := by unfold mvE mvB mvX; simp [h]
theorem mv_ok {b x t : Int} (h : mvOk b t = true) : mvE b t = 0 ∧ mvB b t = t ∧ mvX b x t = x / 2 ^ dOf b t := by unfold mvE mvB mvX; simp [h]
theorem mv_base {b t : Int} (h : both b t = true) : (b + dOf b t) % 65536 = t := by
  obtain ⟨_, h0, h1⟩ := both_bd h
  rw [← dOf_is]; omega

/-- The number of set bits at the beginning. -/
def advF : Nat → Nat → Nat
  | 0, _ => 0
  | f + 1, x => if x % 2 = 1 then advF f (x / 2) + 1 else 0
def advN (x : Int) : Nat := advF 64 x.toNat
/-- The first k bits are set. -/
def Ones (x : Int) (k : Nat) : Prop := k ≤ 64 ∧ ∀ j, j < k → x / 2 ^ j % 2 = 1
theorem Ones.zero (x : Int) : Ones x 0 := ⟨by omega, fun j hj => by omega⟩
theorem Ones.lt {x : Int} (hx : Wd x) {k : Nat} (h : Ones x k) (h1 : x / 2 ^ k % 2 = 1) : k < 64 := by
  rcases Nat.lt_or_ge k 64 with h2 | h2
  · exact h2
  · rw [shr_all hx h2] at h1; omega
theorem Ones.next {x : Int} (hx : Wd x) {k : Nat} (h : Ones x k) (h1 : x / 2 ^ k % 2 = 1) : Ones x (k + 1) :=
  ⟨h.lt hx h1, fun j hj => by
    rcases (by omega : j < k ∨ j = k) with h2 | rfl
    · exact h.2 j h2
    · exact h1⟩
theorem advF_is : ∀ (f k x : Nat), k ≤ f → (∀ j, j < k → x / 2 ^ j % 2 = 1) → (k < f → x / 2 ^ k % 2 ≠ 1) → advF f x = k
  | 0, k, x, hk, _, _ => by simp [advF]; omega
  | f + 1, 0, x, _, _, h0 => by
    have := h0 (by omega)
    unfold advF; rw [if_neg (by simpa using this)]
  | f + 1, k + 1, x, hk, h1, h0 => by
    unfold advF
    rw [if_pos (by simpa using h1 0 (by omega))]
    rw [advF_is f k (x / 2) (by omega) (fun j hj => by rw [Nat.div_div_eq_div_mul, ← Nat.pow_succ']; exact h1 (j + 1) (by omega)) (fun hk' => by rw [Nat.div_div_eq_div_mul, ← Nat.pow_succ']; exact h0 (by omega))]
theorem toNat_bit {x : Int} (hx : 0 ≤ x) (j : Nat) : ((x.toNat / 2 ^ j % 2 : Nat) : Int) = x / 2 ^ j % 2 := by
  rw [Int.natCast_emod, Int.natCast_ediv, Int.toNat_of_nonneg hx]; norm_cast
theorem adv_is {x : Int} (hx : Wd x) {k : Nat} (h : Ones x k) (h0 : x / 2 ^ k % 2 = 0) : advN x = k := by
  unfold advN
  refine advF_is 64 k x.toNat h.1 (fun j hj => ?_) (fun _ => ?_)
  · have := h.2 j hj
    rw [← toNat_bit hx.1] at this; omega
  · rw [← toNat_bit hx.1] at h0; omega
/-- Advance: the answers. -/
def avN (b x : Int) : Int := if isNum b then advN x else 0
def avB (b x : Int) : Int := if isNum b then (b + advN x) % 65536 else 0
def avX (b x : Int) : Int := if isNum b then x / 2 ^ advN x else 0
theorem av_no {b x : Int} (h : isNum b = false) : avN b x = 0 ∧ avB b x = 0 ∧ avX b x = 0 := by unfold avN avB avX; simp [h]
theorem av_yes {b x : Int} (h : isNum b = true) {k : Nat} (hk : advN x = k) : avN b x = k ∧ avB b x = (b + k) % 65536 ∧ avX b x = x / 2 ^ k := by unfold avN avB avX; simp [h, hk]
end Go.Proofs.Ythmncipenjhknaa

