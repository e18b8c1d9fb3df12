/-
  Layer 4: contracts of the comparisons that the heap calls: cmp.Compare at int64 and at int, cmp.Or, the heap's compare, the reference's less. Every input; no condition.
-/
import Derived.Test.YtlnbjmmbjhglnaaHpPlain
import Derived.Test.YtlnbjmmbjhglnaaMem
import Derived.Deep.QuietTactic
import Derived.BigQuiet
import Derived.Deep.RegionWith
import Derived.StillTailTactics
import Derived.Sort.Grow
import Derived.LoopTactic
namespace Go.Proofs.Ytlnbjmmbjhglnaa
open Go.ChangeShapes Go.WideShapes Go.ChangeAt Go.RowKit
set_option linter.unusedVariables false

def cmpI (x y : Int) : Int := if x < y then -1 else if y < x then 1 else 0
theorem isNaN64_any (x : Int) (w : World) : Calls Try.prog 61 #[.int .i64 x] w fun e w' => e = .returned (.bool false) ∧ w = w' := by
  have d1 : (x != x) = false := by simp
  go_enter Try.func61, Try.ntmps61
  go_wp2
  go_ret
  exact ⟨rfl, rfl⟩
theorem isNaNInt_any (x : Int) (w : World) : Calls Try.prog 62 #[.int .i64 x] w fun e w' => e = .returned (.bool false) ∧ w = w' := by
  have d1 : (x != x) = false := by simp
  go_enter Try.func62, Try.ntmps62
  go_wp2
  go_ret
  exact ⟨rfl, rfl⟩
theorem compare64_any (x y : Int) (w : World) : Calls Try.prog 44 #[.int .i64 x, .int .i64 y] w fun e w' => e = .returned (.int .i64 (cmpI x y)) ∧ w = w' := by
  have hx := Lib.hid (fun w => isNaN64_any x w)
  have hy := Lib.hid (fun w => isNaN64_any y w)
  unfold cmpI
  by_cases h1 : x < y
  · rw [if_pos h1]
    go_enter Try.func44, Try.ntmps44
    go_wp2_with fail
    (with_reducible refine (hx.out _).mono ?_); rintro e w' ⟨rfl, rfl⟩
    go_wp2_with fail
    (with_reducible refine (hy.out _).mono ?_); rintro e w' ⟨rfl, rfl⟩
    go_wp2
    go_ret
    exact ⟨rfl, rfl⟩
  · rw [if_neg h1]
    by_cases h2 : y < x
    · rw [if_pos h2]
      go_enter Try.func44, Try.ntmps44
      go_wp2_with fail
      (with_reducible refine (hx.out _).mono ?_); rintro e w' ⟨rfl, rfl⟩
      go_wp2_with fail
      (with_reducible refine (hy.out _).mono ?_); rintro e w' ⟨rfl, rfl⟩
      go_wp2
      go_ret
      exact ⟨rfl, rfl⟩
    · rw [if_neg h2]
      go_enter Try.func44, Try.ntmps44
      go_wp2_with fail
      (with_reducible refine (hx.out _).mono ?_); rintro e w' ⟨rfl, rfl⟩
      go_wp2_with fail
      (with_reducible refine (hy.out _).mono ?_); rintro e w' ⟨rfl, rfl⟩
      go_wp2
      go_ret
      exact ⟨rfl, rfl⟩
theorem compareInt_any (x y : Int) (w : World) : Calls Try.prog 45 #[.int .i64 x, .int .i64 y] w fun e w' => e = .returned (.int .i64 (cmpI x y)) ∧ w = w' := by
  have hx := Lib.hid (fun w => isNaNInt_any x w)
  have hy := Lib.hid (fun w => isNaNInt_any y w)
  unfold cmpI
  by_cases h1 : x < y
  · rw [if_pos h1]
    go_enter Try.func45, Try.ntmps45
    go_wp2_with fail
    (with_reducible refine (hx.out _).mono ?_); rintro e w' ⟨rfl, rfl⟩
    go_wp2_with fail
    (with_reducible refine (hy.out _).mono ?_); rintro e w' ⟨rfl, rfl⟩
    go_wp2
    go_ret
    exact ⟨rfl, rfl⟩
  · rw [if_neg h1]
    by_cases h2 : y < x
    · rw [if_pos h2]
      go_enter Try.func45, Try.ntmps45
      go_wp2_with fail
      (with_reducible refine (hx.out _).mono ?_); rintro e w' ⟨rfl, rfl⟩
      go_wp2_with fail
      (with_reducible refine (hy.out _).mono ?_); rintro e w' ⟨rfl, rfl⟩
      go_wp2
      go_ret
      exact ⟨rfl, rfl⟩
    · rw [if_neg h2]
      go_enter Try.func45, Try.ntmps45
      go_wp2_with fail
      (with_reducible refine (hx.out _).mono ?_); rintro e w' ⟨rfl, rfl⟩
      go_wp2_with fail
      (with_reducible refine (hy.out _).mono ?_); rintro e w' ⟨rfl, rfl⟩
      go_wp2
      go_ret
      exact ⟨rfl, rfl⟩
def or2 (x y : Int) : Int := if x = 0 then y else x
theorem or2_any (b : Nat) (c : Nat) (x y : Int) (w : World) (c0 : w.cell? ⟨b, 0, none⟩ = some (.int .i64 x)) (c1 : w.cell? ⟨b, 1, none⟩ = some (.int .i64 y)) :
    Calls Try.prog 43 #[.slice (some ⟨b, 0, none⟩) 2 c] w fun e w' => e = .returned (.int .i64 (or2 x y)) ∧ w = w' := by
  have H0 := Lib.hid c0
  have H1 := Lib.hid c1
  clear c0 c1
  by_cases hx : x = 0
  · subst hx
    have e : or2 0 y = y := by unfold or2; rw [if_pos rfl]
    rw [e]; clear e
    go_enter Try.func43, Try.ntmps43
    go_wp2
    go_loop [8] (fun i => ∃ k : Nat, k ≤ 2 ∧ (k = 2 → y = 0) ∧ i = .int .i64 k) (fun i => 2 - (intOf i).toNat)
    case atStart => exact ⟨0, by omega, by omega, rfl⟩
    case round =>
      obtain ⟨k, hk, hy, rfl⟩ := hrel
      have HY := Lib.hid hy
      clear hy
      rcases (by omega : k = 0 ∨ k = 1 ∨ k = 2) with rfl | rfl | rfl
      · have c0 := H0.out
        have d0 : ((0 : Int) != 0) = false := rfl
        go_wp2
        go_round
        case rel => exact ⟨1, by omega, by omega, by go_num⟩
        case measure => simp [intOf]
      · have c1 := H1.out
        by_cases h : y = 0
        · subst h
          have d0 : ((0 : Int) != 0) = false := rfl
          go_wp2
          go_round
          case rel => exact ⟨2, by omega, by simp, by go_num⟩
          case measure => simp [intOf]
        · have d0 : (y != 0) = true := by simpa using h
          go_wp2
          go_ret
          exact ⟨rfl, rfl⟩
      · have h := HY.out rfl
        subst h
        go_wp2
        go_ret
        exact ⟨rfl, rfl⟩
  · have e : or2 x y = x := by unfold or2; rw [if_neg hx]
    rw [e]; clear e
    have d0 : (x != 0) = true := by simpa using hx
    have HD := Lib.hid d0
    clear hx d0
    go_enter Try.func43, Try.ntmps43
    go_wp2
    go_loop [8] (fun i => i = .int .i64 0) (fun i => 2 - (intOf i).toNat)
    case atStart => exact rfl
    case round =>
      obtain rfl := hrel
      have c0 := H0.out
      have d0 := HD.out
      go_wp2
      go_ret
      exact ⟨rfl, rfl⟩
theorem wp_region_tail {P : Program} {id : Nat} {Q : Exit → Act → World → Prop} {a : Act} {w : World} {l : List Oper} (n : Nat) (hm : P.follows .mixedOrders = true) (hB : Region.lexTailB .any l.toArray n = true)
    (h : wpStill P l.toArray w.drew (fun a' => wpList P l.toArray Q (l.drop n) a' w.drew) (l.take n) a) : (Code.region id l.toArray true).wp P Q a w := wp_region_still_tail n hm hB h
open Go.Sort in
set_option maxRecDepth 100000 in
set_option maxHeartbeats 1000000 in
theorem cmp_try (a b c d : Int) (W : World) :
    Calls Try.prog 33 #[.agg #[.int .i64 a, .int .i64 b], .agg #[.int .i64 c, .int .i64 d]] W fun e w' => e = .returned (.int .i64 (or2 (cmpI b d) (cmpI a c))) ∧ ∃ q os', w' = grow (W.drewN q) os' := by
  have h1 := fun w => compare64_any b d w
  have h2 := fun w => compareInt_any a c w
  have h3 := fun B w => or2_any B 2 (cmpI b d) (cmpI a c) w
  generalize cmpI b d = r at h1 h3 ⊢
  generalize cmpI a c = s at h2 h3 ⊢
  generalize or2 r s = t at h3 ⊢
  have H1 := Lib.hid h1
  have H2 := Lib.hid h2
  have H3 := Lib.hid h3
  clear h1 h2 h3
  go_enter Try.func33, Try.ntmps33
  go_wp2_with fail
  refine wp_region_tail 10 (by kernel_rfl) (by kernel_rfl) ?_
  simp only [List.take_succ_cons, List.take_zero, List.drop_succ_cons, List.drop_zero]
  still_step; still_step; still_step; still_step
  still_call ((H1.out _).mono fun _ _ h => ⟨h.1, h.2.symm⟩)
  still_step; still_step; still_step; still_step
  still_call ((H2.out _).mono fun _ _ h => ⟨h.1, h.2.symm⟩)
  refine wpStill_nil ?_
  go_wp2_with (go_at_call 43; refine (H3.out _ _ (by go_simp) (by go_simp)).mono ?_; rintro e w' ⟨rfl, rfl⟩)
  go_ret
  exact ⟨rfl, 1, _, by rw [alloc_eq_grow, alloc_eq_grow, alloc_eq_grow, grow_grow, grow_grow]; rfl⟩
/-- compare's answer. -/
def cf2 (x y : Int × Int) : Int := or2 (cmpI x.2 y.2) (cmpI x.1 y.1)
theorem cf2_lt {x y : Int × Int} : cf2 x y < 0 ↔ lt2 x y := by
  unfold cf2 or2 cmpI lt2
  by_cases h1 : x.2 < y.2
  · rw [if_pos h1]; simp [h1]
  · rw [if_neg h1]
    by_cases h2 : y.2 < x.2
    · rw [if_pos h2]; simp; omega
    · rw [if_neg h2]
      by_cases h3 : x.1 < y.1
      · rw [if_pos h3]; simp; omega
      · rw [if_neg h3]
        by_cases h4 : y.1 < x.1
        · rw [if_pos h4]; simp; omega
        · rw [if_neg h4]; simp; omega
theorem below_grow {C : Nat} {a w : World} (h : Below C a w) (hC : C ≤ w.heap.size) (q : Nat) (os : Array Obj) : Below C a (Go.Sort.grow (w.drewN q) os) :=
  h.trans ⟨rfl, rfl, rfl, by simp [Go.Sort.grow], fun k hk => by
    show (w.heap ++ os)[k]? = _
    rw [Array.getElem?_append_left (by omega)]⟩
theorem cmp_any (x y : Int × Int) (W : World) :
    Calls Try.prog 33 #[.agg #[.int .i64 x.1, .int .i64 x.2], .agg #[.int .i64 y.1, .int .i64 y.2]] W fun e w' => e = .returned (.int .i64 (cf2 x y)) ∧ Below W.heap.size W w' :=
  (cmp_try x.1 x.2 y.1 y.2 W).mono fun _ _ ⟨he, q, os, hw⟩ => ⟨he, by rw [hw]; exact below_grow (Below.refl _ _) (Nat.le_refl _) q os⟩
end Go.Proofs.Ytlnbjmmbjhglnaa
