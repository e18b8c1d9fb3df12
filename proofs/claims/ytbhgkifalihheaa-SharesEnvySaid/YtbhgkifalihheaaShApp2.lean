/-
  Layer 3: the contract of the reference's Apportion. Every input; no condition.
-/
import Derived.Test.YtbhgkifalihheaaShApp
import Derived.Test.YtbhgkifalihheaaCrossC
namespace Go.Proofs.Ytbhgkifalihheaa
open Go.ChangeShapes Go.WideShapes Go.ChangeAt Go.RowKit
set_option linter.unusedVariables false

theorem cross_neg {a b c d : Int} : crossZ a b c d < 0 ↔ a * b < c * d := by
  have h1 := wide_prod a b
  have h2 := wide_prod c d
  have l1 : 0 ≤ mLo a b ∧ mLo a b < 18446744073709551616 := by unfold mLo; omega
  have l2 : 0 ≤ mLo c d ∧ mLo c d < 18446744073709551616 := by unfold mLo; omega
  rw [← h1, ← h2]
  unfold crossZ wLess
  generalize mHi a b = p at *
  generalize mLo a b = q at *
  generalize mHi c d = r at *
  generalize mLo c d = s at *
  by_cases hp : p = r
  · subst hp
    by_cases hq : q < s
    · simp [hq]
    · by_cases hs : s < q <;> simp [hq, hs] <;> omega
  · by_cases hq : p < r
    · simp [hp, hq]; omega
    · have hr : r < p := by omega
      have hp' : ¬ r = p := fun e => hp e.symm
      simp [hp, hq, hp', hr]; omega
theorem held4 {w0 w w' : World} {b1 o1 b2 o2 b3 o3 b4 o4 : Nat} {v1 v2 v3 v4 : Value} (hb : Below w.heap.size w w')
    (h : w.cell? ⟨b1, o1, none⟩ = some v1 ∧ w.cell? ⟨b2, o2, none⟩ = some v2 ∧ w.cell? ⟨b3, o3, none⟩ = some v3 ∧ w.cell? ⟨b4, o4, none⟩ = some v4 ∧ Below w0.heap.size w0 w) :
    w'.cell? ⟨b1, o1, none⟩ = some v1 ∧ w'.cell? ⟨b2, o2, none⟩ = some v2 ∧ w'.cell? ⟨b3, o3, none⟩ = some v3 ∧ w'.cell? ⟨b4, o4, none⟩ = some v4 ∧ Below w0.heap.size w0 w' :=
  ⟨cell_later h.1 hb, cell_later h.2.1 hb, cell_later h.2.2.1 hb, cell_later h.2.2.2.1 hb, h.2.2.2.2.trans (hb.mono h.2.2.2.2.size)⟩

set_option maxHeartbeats 2000000 in
theorem refApportion_any (m : Int) (A : Option Addr) (n cap : Nat) (I V : Nat → Int) (w : World) (hn : n ≤ 9223372036854775807) (hi : Fits n I) (hv : Fits n V) (hp : Prs w 0 w.heap.size A n I V) :
    Calls Try.prog 26 #[.int .i64 m, .slice A n cap] w (AppTo m n I V w) := by
  have HV := Lib.hid (refValid_any A n cap I V w hn hi hv hp)
  by_cases hok : ApOk m n I V
  · obtain ⟨hval, m0, m1⟩ := hok
    rw [vparts_yes hval] at HV
    have hm0 : ¬ m < 0 := by omega
    have hm1 : ¬ 4096 < m := by omega
    by_cases h0 : n = 0
    · have HE := fun (w' : World) (hb : Below w.heap.size w w') => AppTo.empty (m := m) ⟨hval, m0, m1⟩ h0 hb
      subst h0
      have HE' := Lib.hid HE
      clear HE hval hi hv hp
      go_enter Try.func26, Try.ntmps26
      go_wp2_with fail
      (with_reducible refine HV.out.mono ?_)
      rintro e w' ⟨rfl, hb⟩
      go_wp2
      go_ret2
      exact HE'.out _ hb
    · have hw := fun i hi => (hval.2 i hi).2.2
      have hn64 := hval.1
      have HW := Lib.hid hw
      have HD := Lib.hid (fun (w' : World) (g : Nat) (hg : w.heap.size ≤ g) (hr : Row w' g 3 n (unitsAt V n m.toNat)) (hb : Below w.heap.size w w') => AppTo.done (m := m) ⟨hval, m0, m1⟩ h0 hg hr hb)
      have h0' : ((n : Int) == 0) = false := beq_eq_false_iff_ne.2 (by omega)
      obtain ⟨i0, hii, hz0, hz1, hz2⟩ := info_parts info_int
      clear hval hi hv hw
      obtain ⟨M, rfl⟩ := Int.eq_ofNat_of_zero_le m0
      have hMM : (M : Int).toNat = M := by omega
      rw [hMM] at HD
      clear hMM
      go_enter Try.func26, Try.ntmps26
      go_wp2_with fail
      (with_reducible refine HV.out.mono ?_)
      rintro e w1 ⟨rfl, hb⟩
      go_wp2_with (at_make; refine wpList_make_full _ rfl _ _ 22 rfl w.heap.size 3 i0 (.int .i64 0) 1 Try.underlying22 hii hz0 hz1 .i64 .i64 _ _ n rfl rfl rfl rfl (by rw [hz2]; omega) (by unfold maxLen; omega) hb.size ?_; intro w3 hown hg)
      have hgs := hb.size
      have hrow := Row.of_make (cap := n) hown
      have hb3 := hb.grown hg hb.size (by intro k hk; cases hk)
      clear hown hg hb
      generalize w1.heap.size = g at *
      go_loopw [7] (fun i wr => ∃ k : Nat, k ≤ M ∧ i = .int .i64 k ∧ Row wr g 3 n (unitsAt V n k) ∧ Below w.heap.size w wr) (fun i _ => M - (intOf i).toNat)
      case atStart => exact ⟨0, Nat.zero_le _, rfl, hrow, hb3⟩
      case round =>
        obtain ⟨k, hk, rfl, hX, hB⟩ := hrel
        clear hb3 hrow
        by_cases hlt : k < M
        · have hbd := unitsAt_bd V n k
          have hub := hbd (bestTo (unitsAt V n k) V n)
          have hblt := bestTo_lt (unitsAt V n k) V n (by omega)
          have HU : Hid (unitsAt V n (k + 1) = upd (unitsAt V n k) (bestTo (unitsAt V n k) V n) (unitsAt V n k (bestTo (unitsAt V n k) V n) + 1)) := rfl
          have HBD := Lib.hid (fun i => show 0 ≤ unitsAt V n k i ∧ unitsAt V n k i ≤ 4096 by have := hbd i; omega)
          clear hbd
          generalize hUU : unitsAt V n k = U at *
          clear hUU
          obtain ⟨wo, rfl⟩ : ∃ wo : World, wo = wr := ⟨_, rfl⟩
          go_wp2
          go_loopw [8, 9] (fun b i w2 => ∃ j : Nat, 1 ≤ j ∧ j ≤ n ∧ i = .int .i64 j ∧ b = .int .i64 (bestTo U V j) ∧ Below wo.heap.size wo w2) (fun _ i _ => n - (intOf i).toNat)
          case atStart => exact ⟨1, by omega, by omega, rfl, by rw [bestTo_one]; rfl, Below.refl _ _⟩
          case round =>
            obtain ⟨j, hj1, hj, rfl, rfl, hB2⟩ := hrel
            by_cases hjn : j < n
            · have hb : bestTo U V j < n := by have := bestTo_lt U V j (by omega); omega
              have HS : Hid (bestTo U V (j + 1) = if (U j + 1) * V (bestTo U V j) < (U (bestTo U V j) + 1) * V j then j else bestTo U V j) := rfl
              have hpr := Cells.below hp (hB.trans (hB2.mono hB.size)) (Nat.le_refl _)
              have hX2 := hX.below hB2 hX.lt
              obtain ⟨b, off, e0, _, hbb, c1, c2⟩ := Prs.at_ hpr hjn
              obtain ⟨b', off', e', _, _, c3, c4⟩ := Prs.at_ hpr hb
              obtain ⟨rfl, rfl⟩ : b = b' ∧ off = off' := by rw [e0] at e'; simpa using e'
              subst e0
              have c5 := hX2.cell hjn
              have c6 := hX2.cell hb
              have v1 := HW.out j hjn
              have v2 := HW.out _ hb
              have u1 := HBD.out j
              have u2 := HBD.out (bestTo U V j)
              have hb' : (bestTo U V j : Int) < n := by omega
              have HC := Lib.hid (fun w' => refCross_any (U j + 1) (V (bestTo U V j)) (U (bestTo U V j) + 1) (V j) (by omega) (by omega) (by omega) (by omega) (by omega) (by omega) (by omega) (by omega) w')
              have HN := Lib.hid (cross_neg (a := U j + 1) (b := V (bestTo U V j)) (c := U (bestTo U V j) + 1) (d := V j))
              clear e' hpr c1 c3 hX2
              generalize hcz : crossZ (U j + 1) (V (bestTo U V j)) (U (bestTo U V j) + 1) (V j) = z at *
              clear hcz
              generalize bestTo U V j = bst at *
              have hB3 := Lib.hid hB2
              have s1 : IntKind.i64.wrap (U j + 1) = U j + 1 := IntWalk.i64_in _ (by omega)
              have s2 : IntKind.i64.wrap (U bst + 1) = U bst + 1 := IntWalk.i64_in _ (by omega)
              have t1 : IntKind.u64.wrap (U j + 1) = U j + 1 := IntWalk.u64_in _ (by omega)
              have t2 : IntKind.u64.wrap (U bst + 1) = U bst + 1 := IntWalk.u64_in _ (by omega)
              have t3 : IntKind.u64.wrap (V j) = V j := IntWalk.u64_in _ (by omega)
              have t4 : IntKind.u64.wrap (V bst) = V bst := IntWalk.u64_in _ (by omega)
              clear hB2
              go_wp2
              go_region_held3 (fun w' => w'.cell? ⟨g, j, none⟩ = some (.int .i64 (U j)) ∧ w'.cell? ⟨b, off + bst * 2 + 1, none⟩ = some (.int .i64 (V bst)) ∧ w'.cell? ⟨g, bst, none⟩ = some (.int .i64 (U bst)) ∧ w'.cell? ⟨b, off + j * 2 + 1, none⟩ = some (.int .i64 (V j)) ∧ Below wr.heap.size wr w')
                ((first | exact held4 (by assumption) (by assumption) | exact ⟨c5, c4, c6, c2, (Below.refl _ _).drew⟩))
                (first | (go_at_call 35; refine (HC.out _).mono ?_; rintro e w' ⟨rfl, hb⟩))
              rename_i hH
              have hB4 := hB3.out.trans (hH.2.2.2.2.mono hB3.out.size)
              clear hH s1 s2 t1 t2 t3 t4 c2 c4 c5 c6
              by_cases hc : (U j + 1) * V bst < (U bst + 1) * V j
              · have HS' : Hid (bestTo U V (j + 1) = j) := by rw [HS.out, if_pos hc]; exact rfl
                have hz : z < 0 := HN.out.2 hc
                clear hc
                go_wp2
                go_roundw
                case rel => exact ⟨j + 1, by omega, by omega, by go_num, by rw [HS'.out], hB4⟩
                case measure => simp [intOf]; omega
              · have HS' : Hid (bestTo U V (j + 1) = bst) := by rw [HS.out, if_neg hc]; exact rfl
                have hz : ¬ z < 0 := fun h => hc (HN.out.1 h)
                clear hc
                go_wp2
                go_roundw
                case rel => exact ⟨j + 1, by omega, by omega, by go_num, by rw [HS'.out], hB4⟩
                case measure => simp [intOf]; omega
            · obtain rfl : n = j := by omega
              have hX4 := hX.below hB2 hX.lt
              have hB4 := hB.trans (hB2.mono hB.size)
              generalize hbb : bestTo U V n = b at *
              have f4 := hX4.frozen b
              have c4 := hX4.cell hblt
              clear hB2 hX hB hbb
              go_wp2
              go_roundw
              case rel => exact ⟨k + 1, by omega, by go_num, by rw [HU.out]; exact hX4.set_ hblt _, hB4.setCell hgs _⟩
              case measure => simp [intOf]; omega
        · obtain rfl : M = k := by omega
          have HF := Lib.hid (HD.out _ g hgs hX hB)
          clear hX hB
          go_wp2
          go_ret2
          exact HF.out
  · have HE := Lib.hid (fun (w' : World) (hb : Below w.heap.size w w') => AppTo.bad (m := m) hok hb)
    by_cases hval : VParts n I V
    · rw [vparts_yes hval] at HV
      have hor : m < 0 ∨ 4096 < m := by
        rcases (by omega : m < 0 ∨ 4096 < m ∨ (0 ≤ m ∧ m ≤ 4096)) with h | h | h
        · exact .inl h
        · exact .inr h
        · exact absurd ⟨hval, h⟩ hok
      clear hval hok hi hv hp
      rcases hor with hm | hm
      · go_enter Try.func26, Try.ntmps26
        go_wp2_with fail
        (with_reducible refine HV.out.mono ?_)
        rintro e w' ⟨rfl, hb⟩
        go_wp2
        go_ret2
        exact HE.out _ hb
      · have hm' : ¬ m < 0 := by omega
        go_enter Try.func26, Try.ntmps26
        go_wp2_with fail
        (with_reducible refine HV.out.mono ?_)
        rintro e w' ⟨rfl, hb⟩
        go_wp2
        go_ret2
        exact HE.out _ hb
    · rw [vparts_no hval] at HV
      clear hval hok hi hv hp
      go_enter Try.func26, Try.ntmps26
      go_wp2_with fail
      (with_reducible refine HV.out.mono ?_)
      rintro e w' ⟨rfl, hb⟩
      go_wp2
      go_ret2
      exact HE.out _ hb
end Go.Proofs.Ytbhgkifalihheaa
