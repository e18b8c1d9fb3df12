/-
  Plain arithmetic for layer 6, third part: a set bit keeps its number when the base moves; what Advance leaves. No program in sight.
-/
import Derived.Test.YtimnndjegfiniaaBmBits
namespace Go.Proofs.Ytimnndjegfiniaa
open Go.RowKit
set_option linter.unusedVariables false

theorem dOf_eq {b s : Int} {k : Nat} (h : (s - b) % 65536 = (k : Int)) : dOf b s = k := by have := dOf_is b s; omega
theorem dOf_self (b : Int) : dOf b b = 0 := dOf_eq (by simp)
theorem advF_zero : ∀ (f x : Nat), x < 2 ^ f → x / 2 ^ advF f x % 2 = 0
  | 0, x, h => by simp at h; subst h; simp
  | f + 1, x, h => by
    unfold advF
    split
    · have := advF_zero f (x / 2) (by rw [Nat.pow_succ] at h; omega)
      rw [Nat.div_div_eq_div_mul, ← Nat.pow_succ'] at this
      exact this
    · simp; omega
theorem adv_zero {x : Int} (hx : Wd x) : x / 2 ^ advN x % 2 = 0 := by
  have h := advF_zero 64 x.toNat (by have := hx.1; have := hx.2; omega)
  have h2 := toNat_bit hx.1 (advN x)
  unfold advN at h2 ⊢
  rw [← h2, h]; rfl
theorem adv_first {x : Int} (hx : Wd x) : (((advN x : Nat) : Int) == 0) = !decide (x / 2 ^ 0 % 2 = 1) := by
  have h2 := toNat_bit hx.1 0
  rw [← h2]
  unfold advN
  rw [show (64 : Nat) = 63 + 1 from rfl, advF]
  split
  · rename_i h
    simp [h]; omega
  · rename_i h
    simp; omega
/-- Where the base is moved to: d steps on. -/
structure KeepAt (b t : Int) (d : Nat) : Prop where
  b0 : 0 ≤ b
  b1 : b < 65536
  d1 : d < 70
  to : t = (b + d) % 65536
theorem KeepAt.bd {b t : Int} {d : Nat} (h : KeepAt b t d) : 0 ≤ t ∧ t < 65536 := by have := h.to; omega
theorem KeepAt.pair {b t : Int} {d : Nat} (h : KeepAt b t d) : both b t = true := both_yes (isNum_yes h.b0 h.b1) (isNum_yes h.bd.1 h.bd.2)
theorem KeepAt.steps {b t : Int} {d : Nat} (h : KeepAt b t d) : dOf b t = d := dOf_eq (by have := h.to; have := h.d1; have := h.b0; have := h.b1; omega)
theorem KeepAt.ok {b t : Int} {d : Nat} (h : KeepAt b t d) (x : Int) : mvE b t = 0 ∧ mvB b t = t ∧ mvX b x t = x / 2 ^ d := by
  have := mv_ok (x := x) (mv_yes h.pair (by rw [h.steps]; have := h.d1; omega))
  rw [h.steps] at this; exact this
theorem KeepAt.has {b t x : Int} {d : Nat} (h : KeepAt b t d) (hx : Wd x) {k : Nat} (hk : k < 64) :
    hasB t (x / 2 ^ d) ((t + k) % 65536) = hasB b x ((t + k) % 65536) := by
  obtain ⟨t0, t1⟩ := h.bd
  have hb0 := h.b0
  have hb1 := h.b1
  have hd1 := h.d1
  have e1 : dOf t ((t + k) % 65536) = k := dOf_eq (by omega)
  have e2 : dOf b ((t + k) % 65536) = d + k := dOf_eq (by have := h.to; omega)
  have n1 : both t ((t + k) % 65536) = true := both_yes (isNum_yes t0 t1) (isNum_yes (by omega) (by omega))
  have n2 : both b ((t + k) % 65536) = true := both_yes (isNum_yes hb0 hb1) (isNum_yes (by omega) (by omega))
  have i1 := ins64_yes n1 (by rw [e1]; exact hk)
  have l : hasB t (x / 2 ^ d) ((t + k) % 65536) = decide (x / 2 ^ (d + k) % 2 = 1) := has_is i1 (by rw [e1, shr_add])
  rw [l]
  rcases Nat.lt_or_ge (d + k) 64 with g | g
  · exact (has_is (ins64_yes n2 (by rw [e2]; exact g)) (by rw [e2])).symm
  · rw [has_no (ins64_no (.inr (by rw [e2]; exact g))), shr_all hx g]; rfl
theorem has_base {b x : Int} (h : isNum b = true) : hasB b x b = decide (x / 2 ^ 0 % 2 = 1) :=
  has_is (ins64_yes (both_yes h h) (by rw [dOf_self]; decide)) (by rw [dOf_self])
theorem av_has {b x : Int} (h : isNum b = true) (hx : Wd x) : hasB (avB b x) (avX b x) (avB b x) = false := by
  obtain ⟨_, e2, e3⟩ := av_yes (x := x) h rfl
  rw [e2, e3, has_base (isNum_yes (by omega) (by omega)), Int.pow_zero, Int.ediv_one, adv_zero hx]; rfl
theorem av_first {b x : Int} (h : isNum b = true) (hx : Wd x) : (avN b x == 0) = !hasB b x b := by
  obtain ⟨e1, _, _⟩ := av_yes (x := x) h rfl
  rw [e1, has_base h]; exact adv_first hx
end Go.Proofs.Ytimnndjegfiniaa

