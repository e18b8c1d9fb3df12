/-
  Layer 3: contracts of Apportion (package shares), of the program and the reference. Every input; no condition.
-/
import Derived.Test.YtbhgkifalihheaaShSplit
import Derived.Test.YtbhgkifalihheaaShPlain2
import Derived.Deep.RegionHeld3
namespace Go.Proofs.Ytbhgkifalihheaa
open Go.ChangeShapes Go.WideShapes Go.ChangeAt Go.RowKit
set_option linter.unusedVariables false

theorem prod_fit {u v : Int} (u0 : 0 ≤ u) (u1 : u ≤ 4096) (v0 : 1 ≤ v) (v1 : v ≤ 2147483648) : IntKind.i64.wrap ((u + 1) * v) = (u + 1) * v := by
  have h1 : 0 ≤ (u + 1) * v := Int.mul_nonneg (by omega) (by omega)
  have h2 : (u + 1) * v ≤ 4097 * 2147483648 := Int.mul_le_mul (by omega) v1 (by omega) (by omega)
  exact IntWalk.i64_in _ (by omega)
set_option maxHeartbeats 1000000 in
theorem next_taker (A : Option Addr) (n cap : Nat) (I V : Nat → Int) (D : Option Addr) (d : Nat) (U : Nat → Int) (w : World) (n0 : 0 < n) (hn : n ≤ 64) (hv : ∀ i, i < n → 1 ≤ V i ∧ V i ≤ 2147483648) (hu : ∀ i, 0 ≤ U i ∧ U i ≤ 4096)
    (hp : Prs w 0 w.heap.size A n I V) (hq : Nums w 0 w.heap.size D n U) :
    Calls Try.prog 33 #[.slice A n cap, .slice D n d] w fun e w' => e = .returned (.int .i64 (bestTo U V n)) ∧ Below w.heap.size w w' := by
  go_enter Try.func33, Try.ntmps33
  go_wp2
  go_loopw [5, 10] (fun b i wr => ∃ k : Nat, k ≤ n ∧ i = .int .i64 k ∧ b = .int .i64 (bestTo U V k) ∧ Below w.heap.size w wr) (fun _ i _ => n - (intOf i).toNat)
  case atStart => exact ⟨0, Nat.zero_le _, rfl, rfl, Below.refl _ _⟩
  case round =>
    obtain ⟨k, hk, rfl, rfl, hB⟩ := hrel
    by_cases hlt : k < n
    · have hb : bestTo U V k < n := by
        rcases Nat.eq_zero_or_pos k with h | h
        · subst h; exact n0
        · have := bestTo_lt U V k h; omega
      have HS : Hid (bestTo U V (k + 1) = if (U k + 1) * V (bestTo U V k) < (U (bestTo U V k) + 1) * V k then k else bestTo U V k) := rfl
      have hpr := Cells.below hp hB (Nat.le_refl _)
      have hqr := Cells.below hq hB (Nat.le_refl _)
      obtain ⟨b, off, rfl, _, hbb, c1, c2⟩ := Prs.at_ hpr hlt
      obtain ⟨b', off', e', _, _, c3, c4⟩ := Prs.at_ hpr hb
      obtain ⟨rfl, rfl⟩ : b = b' ∧ off = off' := by simpa using e'
      obtain ⟨g, og, rfl, _, hgg, c5⟩ := Nums.at_ hqr hlt
      obtain ⟨g', og', e'', _, _, c6⟩ := Nums.at_ hqr hb
      obtain ⟨rfl, rfl⟩ : g = g' ∧ og = og' := by simpa using e''
      have hs := hB.size
      have v1 := hv k hlt
      have v2 := hv _ hb
      have u1 := hu k
      have u2 := hu (bestTo U V k)
      have hb' : (bestTo U V k : Int) < n := by omega
      have s1 : IntKind.i64.wrap (U k + 1) = U k + 1 := IntWalk.i64_in _ (by omega)
      have p1 := prod_fit u1.1 u1.2 v2.1 v2.2
      have p2 := prod_fit u2.1 u2.2 v1.1 v1.2
      generalize bestTo U V k = bst at *
      have s2 : IntKind.i64.wrap (U bst + 1) = U bst + 1 := IntWalk.i64_in _ (by omega)
      have d3 := cell_alloc_of c3
      have d4 := cell_alloc_of c4
      have d5 := cell_alloc_of c5
      have d6 := cell_alloc_of c6
      clear e' e'' hp hq hpr hqr hv hu c3 c4 c5 c6
      by_cases hc : (U k + 1) * V bst < (U bst + 1) * V k
      · have HS' : Hid (bestTo U V (k + 1) = k) := by rw [HS.out, if_pos hc]; exact rfl
        go_wp2
        go_quiet (fail)
        clear s1 s2 p1 p2
        go_wp2
        go_roundw
        case rel => exact ⟨k + 1, by omega, by go_num, by rw [HS'.out], Below_drewN (hB.alloc (by omega) _) _⟩
        case measure => simp [intOf]; omega
      · have HS' : Hid (bestTo U V (k + 1) = bst) := by rw [HS.out, if_neg hc]; exact rfl
        have hc' : decide ((U k + 1) * V bst < (U bst + 1) * V k) = false := decide_eq_false hc
        go_wp2
        go_quiet (fail)
        clear s1 s2 p1 p2
        go_wp2
        go_roundw
        case rel => exact ⟨k + 1, by omega, by go_num, by rw [HS'.out], Below_drewN (hB.alloc (by omega) _) _⟩
        case measure => simp [intOf]; omega
    · obtain rfl : n = k := by omega
      clear hp hq hv hu
      go_wp2
      go_ret
      exact ⟨rfl, hB⟩

/-- What Apportion answers: so many numbers, this error. -/
def ApOk (m : Int) (n : Nat) (I V : Nat → Int) : Prop := VParts n I V ∧ 0 ≤ m ∧ m ≤ 4096
noncomputable instance instApOk (m : Int) (n : Nat) (I V : Nat → Int) : Decidable (ApOk m n I V) := Classical.propDecidable _
noncomputable def apLen (m : Int) (n : Nat) (I V : Nat → Int) : Nat := if ApOk m n I V then n else 0
noncomputable def apErr (m : Int) (n : Nat) (I V : Nat → Int) : Int := if ApOk m n I V then (if n = 0 then 5 else 0) else 1
def AppTo (m : Int) (n : Nat) (I V : Nat → Int) (w : World) (e : Ending) (w' : World) : Prop :=
  ∃ (A' : Option Addr) (c' : Nat), e = .returned (.tuple #[.slice A' (apLen m n I V) c', .int .i64 (apErr m n I V)]) ∧ Nums w' w.heap.size w'.heap.size A' (apLen m n I V) (unitsAt V n m.toNat) ∧ Below w.heap.size w w'
theorem AppTo.bad {m : Int} {n : Nat} {I V : Nat → Int} {w w' : World} (h : ¬ ApOk m n I V) (hb : Below w.heap.size w w') : AppTo m n I V w (.returned (.tuple #[.slice none 0 0, .int .i64 1])) w' := by
  unfold AppTo apLen apErr; rw [if_neg h, if_neg h]; exact ⟨none, 0, rfl, Cells.nil, hb⟩
theorem AppTo.empty {m : Int} {n : Nat} {I V : Nat → Int} {w w' : World} (h : ApOk m n I V) (h0 : n = 0) (hb : Below w.heap.size w w') : AppTo m n I V w (.returned (.tuple #[.slice none 0 0, .int .i64 5])) w' := by
  unfold AppTo apLen apErr; rw [if_pos h, if_pos h, if_pos h0, h0]; exact ⟨none, 0, rfl, Cells.nil, hb⟩
theorem AppTo.done {m : Int} {n : Nat} {I V : Nat → Int} {w w' : World} {g : Nat} (h : ApOk m n I V) (h0 : n ≠ 0) (hg : w.heap.size ≤ g) (hr : Row w' g 3 n (unitsAt V n m.toNat)) (hb : Below w.heap.size w w') :
    AppTo m n I V w (.returned (.tuple #[.slice (some ⟨g, 0, none⟩) n n, .int .i64 0])) w' := by
  unfold AppTo apLen apErr; rw [if_pos h, if_pos h, if_neg h0]; exact ⟨_, n, rfl, (Cells.wider hr.nums hg hr.lt), hb⟩
theorem info_int : (Try.prog.info? 3).map (fun i => (i.zero, i.size, i.bytes)) = some (some (.int .i64 0), 1, 8) := by kernel_rfl

set_option maxHeartbeats 2000000 in
theorem apportion_any (m : Int) (A : Option Addr) (n cap : Nat) (I V : Nat → Int) (w : World) (hn : n ≤ 9223372036854775807) (hi : Fits n I) (hv : Fits n V) (hp : Prs w 0 w.heap.size A n I V) :
    Calls Try.prog 20 #[.int .i64 m, .slice A n cap] w (AppTo m n I V w) := by
  have HV := Lib.hid (valid_any A n cap I V w hn hi hv hp)
  by_cases hok : ApOk m n I V
  · obtain ⟨hval, m0, m1⟩ := hok
    rw [vparts_yes hval] at HV
    have hm0 : ¬ m < 0 := by omega
    have hm1 : ¬ 4096 < m := by omega
    by_cases h0 : n = 0
    · have HE := fun (w' : World) (hb : Below w.heap.size w w') => AppTo.empty (m := m) ⟨hval, m0, m1⟩ h0 hb
      subst h0
      have HE' := Lib.hid HE
      clear HE hval hi hv hp
      go_enter Try.func20, Try.ntmps20
      go_wp2_with fail
      (with_reducible refine HV.out.mono ?_)
      rintro e w' ⟨rfl, hb⟩
      go_wp2
      go_ret2
      exact HE'.out _ hb
    · have hw := fun i hi => (hval.2 i hi).2.2
      have hn64 := hval.1
      have HW := Lib.hid hw
      have HD := Lib.hid (fun (w' : World) (g : Nat) (hg : w.heap.size ≤ g) (hr : Row w' g 3 n (unitsAt V n m.toNat)) (hb : Below w.heap.size w w') => AppTo.done (m := m) ⟨hval, m0, m1⟩ h0 hg hr hb)
      have h0' : ((n : Int) == 0) = false := beq_eq_false_iff_ne.2 (by omega)
      obtain ⟨i0, hii, hz0, hz1, hz2⟩ := info_parts info_int
      clear hval hi hv hw
      obtain ⟨M, rfl⟩ := Int.eq_ofNat_of_zero_le m0
      have hMM : (M : Int).toNat = M := by omega
      rw [hMM] at HD
      clear hMM
      go_enter Try.func20, Try.ntmps20
      go_wp2_with fail
      (with_reducible refine HV.out.mono ?_)
      rintro e w1 ⟨rfl, hb⟩
      go_wp2_with (at_make; refine wpList_make_full _ rfl _ _ 22 rfl w.heap.size 3 i0 (.int .i64 0) 1 Try.underlying22 hii hz0 hz1 .i64 .i64 _ _ n rfl rfl rfl rfl (by rw [hz2]; omega) (by unfold maxLen; omega) hb.size ?_; intro w3 hown hg)
      have hgs := hb.size
      have hrow := Row.of_make (cap := n) hown
      have hb3 := hb.grown hg hb.size (by intro k hk; cases hk)
      clear hown hg hb
      generalize w1.heap.size = g at *
      go_loopw [25] (fun i wr => ∃ k : Nat, k ≤ M ∧ i = .int .i64 k ∧ Row wr g 3 n (unitsAt V n k) ∧ Below w.heap.size w wr) (fun i _ => M - (intOf i).toNat)
      case atStart => exact ⟨0, Nat.zero_le _, rfl, hrow, hb3⟩
      case round =>
        obtain ⟨k, hk, rfl, hX, hB⟩ := hrel
        clear hb3 hrow
        by_cases hlt : k < M
        · have hbd := unitsAt_bd V n k
          have hblt := bestTo_lt (unitsAt V n k) V n (by omega)
          have HN := Lib.hid (next_taker A n cap I V (some ⟨g, 0, none⟩) n (unitsAt V n k) wr (by omega) hn64 HW.out (fun i => by have := hbd i; omega) (Cells.wider (Cells.below hp hB (Nat.le_refl _)) (Nat.le_refl _) hB.size) (Cells.wider hX.nums (Nat.zero_le _) hX.lt))
          have hub := hbd (bestTo (unitsAt V n k) V n)
          have HU : Hid (unitsAt V n (k + 1) = upd (unitsAt V n k) (bestTo (unitsAt V n k) V n) (unitsAt V n k (bestTo (unitsAt V n k) V n) + 1)) := rfl
          clear hbd
          generalize hbb : bestTo (unitsAt V n k) V n = b at *
          clear hbb
          go_wp2_with fail
          (with_reducible refine HN.out.mono ?_)
          rintro e w4 ⟨rfl, hb4⟩
          have hX4 := hX.below hb4 hX.lt
          have hB4 := hB.trans (hb4.mono hB.size)
          have f4 := hX4.frozen b
          have c4 := hX4.cell hblt
          clear hb4 hX hB
          go_wp2
          go_roundw
          case rel => exact ⟨k + 1, by omega, by go_num, by rw [HU.out]; exact hX4.set_ hblt _, hB4.setCell hgs _⟩
          case measure => simp [intOf]; omega
        · obtain rfl : M = k := by omega
          have HF := Lib.hid (HD.out _ g hgs hX hB)
          clear hX hB
          go_wp2
          go_ret2
          exact HF.out
  · have HE := Lib.hid (fun (w' : World) (hb : Below w.heap.size w w') => AppTo.bad (m := m) hok hb)
    by_cases hval : VParts n I V
    · rw [vparts_yes hval] at HV
      have hor : m < 0 ∨ 4096 < m := by
        rcases (by omega : m < 0 ∨ 4096 < m ∨ (0 ≤ m ∧ m ≤ 4096)) with h | h | h
        · exact .inl h
        · exact .inr h
        · exact absurd ⟨hval, h⟩ hok
      clear hval hok hi hv hp
      rcases hor with hm | hm
      · go_enter Try.func20, Try.ntmps20
        go_wp2_with fail
        (with_reducible refine HV.out.mono ?_)
        rintro e w' ⟨rfl, hb⟩
        go_wp2
        go_ret2
        exact HE.out _ hb
      · have hm' : ¬ m < 0 := by omega
        go_enter Try.func20, Try.ntmps20
        go_wp2_with fail
        (with_reducible refine HV.out.mono ?_)
        rintro e w' ⟨rfl, hb⟩
        go_wp2
        go_ret2
        exact HE.out _ hb
    · rw [vparts_no hval] at HV
      clear hval hok hi hv hp
      go_enter Try.func20, Try.ntmps20
      go_wp2_with fail
      (with_reducible refine HV.out.mono ?_)
      rintro e w' ⟨rfl, hb⟩
      go_wp2
      go_ret2
      exact HE.out _ hb
end Go.Proofs.Ytbhgkifalihheaa
