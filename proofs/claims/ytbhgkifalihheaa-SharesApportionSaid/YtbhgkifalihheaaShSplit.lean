/-
  Layer 3: contracts of Split (package shares), of the program and the reference. Every amount and every slice of parts; no condition.
-/
import Derived.Test.YtbhgkifalihheaaShVal
import Derived.Test.YtbhgkifalihheaaFixC5
import Derived.Deep.RegionWith
import Derived.Laws.NewBlocks
namespace Go.Proofs.Ytbhgkifalihheaa
open Go.ChangeShapes Go.WideShapes Go.ChangeAt Go.RowKit
set_option linter.unusedVariables false

theorem info_i64 : (Try.prog.info? 2).map (fun i => (i.zero, i.size, i.bytes)) = some (some (.int .i64 0), 1, 8) := by kernel_rfl

set_option maxHeartbeats 1000000 in
theorem total_any (A : Option Addr) (n cap : Nat) (I V : Nat → Int) (w : World) (hn : n ≤ 64) (hv : ∀ i, i < n → 1 ≤ V i ∧ V i ≤ 2147483648) (hp : Prs w 0 w.heap.size A n I V) :
    Calls Try.prog 28 #[.slice A n cap] w fun e w' => e = .returned (.int .i64 (sumTo V n)) ∧ Below w.heap.size w w' := by
  go_enter Try.func28, Try.ntmps28
  go_wp2
  go_loopw [3, 8] (fun t i wr => ∃ k : Nat, k ≤ n ∧ i = .int .i64 k ∧ t = .int .i64 (sumTo V k) ∧ Below w.heap.size w wr) (fun _ i _ => n - (intOf i).toNat)
  case atStart => exact ⟨0, Nat.zero_le _, rfl, rfl, Below.refl _ _⟩
  case round =>
    obtain ⟨k, hk, rfl, rfl, hB⟩ := hrel
    by_cases hlt : k < n
    · have hpr := Cells.below hp hB (Nat.le_refl _)
      obtain ⟨b, off, rfl, _, hb, c1, c2⟩ := Prs.at_ hpr hlt
      obtain ⟨t0, t1⟩ := total_bd hn hv k hk
      obtain ⟨v0, v1⟩ := hv k hlt
      have hs := hB.size
      clear hp hpr hv
      go_wp2
      go_roundw
      case rel => exact ⟨k + 1, by omega, by go_num, rfl, hB.alloc (by omega) _⟩
      case measure => simp [intOf]; omega
    · obtain rfl : k = n := by omega
      clear hp hv
      go_wp2
      go_ret
      exact ⟨rfl, hB⟩

/-- What Split answers: so many shares, this error. -/
noncomputable def spLen (n : Nat) (I V : Nat → Int) : Nat := if VParts n I V then n else 0
noncomputable def spErr (n : Nat) (I V : Nat → Int) : Int := if VParts n I V then (if n = 0 then 5 else 0) else 1
def SplitTo (a : Int) (n : Nat) (I V : Nat → Int) (w : World) (e : Ending) (w' : World) : Prop :=
  ∃ (A' : Option Addr) (c' : Nat), e = .returned (.tuple #[.slice A' (spLen n I V) c', .int .i64 (spErr n I V)]) ∧ Nums w' w.heap.size w'.heap.size A' (spLen n I V) (spl a V n) ∧ Below w.heap.size w w'
theorem SplitTo.bad {a : Int} {n : Nat} {I V : Nat → Int} {w w' : World} (h : ¬ VParts n I V) (hb : Below w.heap.size w w') : SplitTo a n I V w (.returned (.tuple #[.slice none 0 0, .int .i64 1])) w' := by
  unfold SplitTo spLen spErr; rw [if_neg h, if_neg h]; exact ⟨none, 0, rfl, Cells.nil, hb⟩
theorem SplitTo.empty {a : Int} {n : Nat} {I V : Nat → Int} {w w' : World} (h : VParts n I V) (h0 : n = 0) (hb : Below w.heap.size w w') : SplitTo a n I V w (.returned (.tuple #[.slice none 0 0, .int .i64 5])) w' := by
  unfold SplitTo spLen spErr; rw [if_pos h, if_pos h, if_pos h0, h0]; exact ⟨none, 0, rfl, Cells.nil, hb⟩
theorem SplitTo.done {a : Int} {n : Nat} {I V : Nat → Int} {w w' : World} {g : Nat} (h : VParts n I V) (h0 : n ≠ 0) (hg : w.heap.size ≤ g) (hr : Row w' g 2 n (spl a V n)) (hb : Below w.heap.size w w') :
    SplitTo a n I V w (.returned (.tuple #[.slice (some ⟨g, 0, none⟩) n n, .int .i64 0])) w' := by
  unfold SplitTo spLen spErr; rw [if_pos h, if_pos h, if_neg h0]; exact ⟨_, n, rfl, (Cells.wider hr.nums hg hr.lt), hb⟩

/-- The row of the shares behind j rounds, and what is left. -/
def SplRow (w0 : World) (g : Nat) (a : Int) (V : Nat → Int) (n : Nat) (T : Int) (k : Nat) (w : World) : Prop :=
  ∃ X, Row w g 2 n X ∧ (∀ i, i < k → X i = shr a V T i) ∧ Below w0.heap.size w0 w

set_option maxHeartbeats 2000000 in
theorem split_any (a : Int) (A : Option Addr) (n cap : Nat) (I V : Nat → Int) (w : World) (a0 : -9223372036854775808 ≤ a) (a1 : a ≤ 9223372036854775807) (hn : n ≤ 9223372036854775807) (hi : Fits n I) (hv : Fits n V) (hp : Prs w 0 w.heap.size A n I V) :
    Calls Try.prog 17 #[.int .i64 a, .slice A n cap] w (SplitTo a n I V w) := by
  have HV := Lib.hid (valid_any A n cap I V w hn hi hv hp)
  by_cases hval : VParts n I V
  · rw [vparts_yes hval] at HV
    by_cases h0 : n = 0
    · have HE := fun (w' : World) (hb : Below w.heap.size w w') => SplitTo.empty (a := a) hval h0 hb
      subst h0
      have HE' := Lib.hid HE
      clear HE hval hi hv hp
      go_enter Try.func17, Try.ntmps17
      go_wp2_with fail
      (with_reducible refine HV.out.mono ?_)
      rintro e w' ⟨rfl, hb⟩
      go_wp2
      go_ret2
      exact HE'.out _ hb
    · have hw := fun i hi => (hval.2 i hi).2.2
      have hT := total_bd hval.1 hw
      have hTp := total_pos (by omega) hw
      have hlf := fun k hk => split_facts a0 a1 (by omega) hval.1 hw (k := k) hk
      have hn64 := hval.1
      have HD := Lib.hid (fun (w' : World) (g : Nat) (hg : w.heap.size ≤ g) (hr : Row w' g 2 n (spl a V n)) (hb : Below w.heap.size w w') => SplitTo.done (a := a) hval h0 hg hr hb)
      obtain ⟨i0, hii, hz0, hz1, hz2⟩ := info_parts info_i64
      have HT := Lib.hid (fun (w1 : World) (hb : Below w.heap.size w w1) => total_any A n cap I V w1 hval.1 hw (Cells.wider (Cells.below hp hb (Nat.le_refl _)) (Nat.le_refl _) hb.size))
      obtain ⟨r, hr⟩ : ∃ r : Int, (a < 0 ∧ r = 1) ∨ (¬ a < 0 ∧ r = 0) := by
        by_cases h : a < 0
        · exact ⟨1, .inl ⟨h, rfl⟩⟩
        · exact ⟨0, .inr ⟨h, rfl⟩⟩
      have HR : Hid (r = rndOf a) := by
        unfold rndOf
        rcases hr with ⟨h, rfl⟩ | ⟨h, rfl⟩
        · rw [if_pos h]; exact rfl
        · rw [if_neg h]; exact rfl
      have h0' : ((n : Int) == 0) = false := beq_eq_false_iff_ne.2 (by omega)
      have hsq : spl a V n = upd (shr a V (sumTo V n)) 0 (shr a V (sumTo V n) 0 + leftOf a V (sumTo V n) n) := spl_eq a V n
      have h0b : -9223372036854775808 ≤ shr a V (sumTo V n) 0 + leftOf a V (sumTo V n) n ∧ shr a V (sumTo V n) 0 + leftOf a V (sumTo V n) n ≤ 9223372036854775807 := by
        have := spl_bd a0 a1 hval.1 hw (i := 0) (by omega)
        rw [hsq, upd_at] at this
        omega
      have H0 := Lib.hid h0b
      rw [hsq] at HD
      have HW := Lib.hid hw
      have HL := Lib.hid hlf
      have HM := Lib.hid (fun k (hk : k < n) w' => muldiv_any a (V k) (sumTo V n) r a0 a1 (by have := hw k hk; omega) (by have := hw k hk; omega) (by omega) (by have := hT n (Nat.le_refl _); omega) w')
      have hTn := hT n (Nat.le_refl _)
      have HS := Lib.hid (fun k (hk : k < n) => mdV_bd a (V k) (sumTo V n) r)
      clear hval hw hlf hT hsq hi hv h0b
      have HSh := Lib.hid (fun k => show shr a V (sumTo V n) k = mdV a (V k) (sumTo V n) r by unfold shr; rw [← HR.out])
      generalize hTT : sumTo V n = T at *
      clear hTT
      rcases hr with ⟨hneg, rfl⟩ | ⟨hneg, rfl⟩
      all_goals
        go_enter Try.func17, Try.ntmps17
        go_wp2_with fail
        (with_reducible refine HV.out.mono ?_)
        rintro e w1 ⟨rfl, hb1⟩
        go_wp2_with fail
        (with_reducible refine (HT.out _ hb1).mono ?_)
        rintro e w2 ⟨rfl, hb2⟩
        have hb := hb1.trans (hb2.mono hb1.size)
        clear hb1 hb2
        go_wp2_with (at_make; refine wpList_make_full _ rfl _ _ 31 rfl w.heap.size 2 i0 (.int .i64 0) 1 Try.underlying31 hii hz0 hz1 .i64 .i64 _ _ n rfl rfl rfl rfl (by rw [hz2]; omega) (by unfold maxLen; omega) hb.size ?_; intro w3 hown hg)
        have hgs := hb.size
        have hrow := Row.of_make (cap := n) hown
        have hb3 := hb.grown hg hb.size (by intro k hk; cases hk)
        clear hown hg hb
        generalize w2.heap.size = g at *
        go_loopw [9, 28] (fun l i wr => ∃ k : Nat, k ≤ n ∧ i = .int .i64 k ∧ l = .int .i64 (leftOf a V T k) ∧ SplRow w g a V n T k wr) (fun _ i _ => n - (intOf i).toNat)
        case atStart => exact ⟨0, Nat.zero_le _, rfl, by unfold leftOf sumTo; rw [Int.sub_zero], _, hrow, fun i hi => by omega, hb3⟩
        case round =>
          obtain ⟨k, hk, rfl, rfl, X, hX, hXs, hB⟩ := hrel
          clear hb3 hrow
          have hlk := HL.out k hk
          have hs := hB.size
          by_cases hlt : k < n
          · have hpr := Cells.below hp hB (Nat.le_refl _)
            obtain ⟨b, off, rfl, _, hbb, c1, c2⟩ := Prs.at_ hpr hlt
            have hm := HS.out k hlt
            have HXS := Lib.hid hXs
            have hl1 := HL.out (k + 1) (by omega)
            have hsk := HSh.out k
            have hlv : leftOf a V T (k + 1) = leftOf a V T k - shr a V T k := by unfold leftOf; rw [sumTo_succ]; omega
            rw [hsk] at hlv
            rw [hlv] at hl1
            have HSK := Lib.hid hsk
            have HLV := Lib.hid hlv
            clear hpr hXs hsk hlv
            go_wp2_with fail
            refine (HM.out k hlt _).mono ?_
            rintro e w4 ⟨rfl, hb4⟩
            have hX4 := (hX.alloc _).below hb4 (by simp; have := hX.lt; omega)
            have hB4 := (hB.alloc (by omega) _).trans (hb4.mono (by simp; omega))
            have f4 := hX4.frozen k
            have c4 := hX4.cell hlt
            clear hb4
            go_wp2
            go_roundw
            case rel => exact ⟨k + 1, by omega, by go_num, by rw [HLV.out], _, hX4.set_ hlt _, fun i hi => by
              rcases (by omega : i = k ∨ i < k) with rfl | h
              · rw [upd_at, HSK.out]
              · rw [upd_ne (by omega)]; exact HXS.out i h, hB4.setCell hgs _⟩
            case measure => simp [intOf]; omega
          · obtain rfl : k = n := by omega
            have f0 := hX.frozen 0
            have x0 := hX.cell (i := 0) (by omega)
            have hx0 := hXs 0 (by omega)
            rw [hx0] at x0
            have h0b := H0.out
            have hbs := mdV_bd a (V 0) T (rndOf a)
            have hbs' : -9223372036854775808 ≤ shr a V T 0 ∧ shr a V T 0 ≤ 9223372036854775807 := hbs
            have hfin := (hX.set_ (i := 0) (by omega) (shr a V T 0 + leftOf a V T k)).same (Y := upd (shr a V T) 0 (shr a V T 0 + leftOf a V T k)) (fun i hi => by
              rcases (by omega : i = 0 ∨ i ≠ 0) with rfl | h
              · rw [upd_at, upd_at]
              · rw [upd_ne h, upd_ne h, hXs i hi])
            have hBf := hB.setCell (p := ⟨g, 0, none⟩) hgs (.int .i64 (shr a V T 0 + leftOf a V T k))
            have HF := Lib.hid (HD.out _ g hgs hfin hBf)
            clear hXs hx0 hbs hfin hBf
            go_wp2
            go_ret2
            exact HF.out
  · rw [vparts_no hval] at HV
    have HE := Lib.hid (fun (w' : World) (hb : Below w.heap.size w w') => SplitTo.bad (a := a) hval hb)
    clear hval hi hv hp
    go_enter Try.func17, Try.ntmps17
    go_wp2_with fail
    (with_reducible refine HV.out.mono ?_)
    rintro e w' ⟨rfl, hb⟩
    go_wp2
    go_ret2
    exact HE.out _ hb
set_option maxHeartbeats 2000000 in
theorem refSplit_any (a : Int) (A : Option Addr) (n cap : Nat) (I V : Nat → Int) (w : World) (a0 : -9223372036854775808 ≤ a) (a1 : a ≤ 9223372036854775807) (hn : n ≤ 9223372036854775807) (hi : Fits n I) (hv : Fits n V) (hp : Prs w 0 w.heap.size A n I V) :
    Calls Try.prog 21 #[.int .i64 a, .slice A n cap] w (SplitTo a n I V w) := by
  have HV := Lib.hid (refValid_any A n cap I V w hn hi hv hp)
  by_cases hval : VParts n I V
  · rw [vparts_yes hval] at HV
    by_cases h0 : n = 0
    · have HE := fun (w' : World) (hb : Below w.heap.size w w') => SplitTo.empty (a := a) hval h0 hb
      subst h0
      have HE' := Lib.hid HE
      clear HE hval hi hv hp
      go_enter Try.func21, Try.ntmps21
      go_wp2_with fail
      (with_reducible refine HV.out.mono ?_)
      rintro e w' ⟨rfl, hb⟩
      go_wp2
      go_ret2
      exact HE'.out _ hb
    · have hw := fun i hi => (hval.2 i hi).2.2
      have hT := total_bd hval.1 hw
      have hTp := total_pos (by omega) hw
      have hlf := fun k hk => split_facts a0 a1 (by omega) hval.1 hw (k := k) hk
      have hn64 := hval.1
      have HD := Lib.hid (fun (w' : World) (g : Nat) (hg : w.heap.size ≤ g) (hr : Row w' g 2 n (spl a V n)) (hb : Below w.heap.size w w') => SplitTo.done (a := a) hval h0 hg hr hb)
      obtain ⟨i0, hii, hz0, hz1, hz2⟩ := info_parts info_i64
      have HPR := Lib.hid hp
      have HTB := Lib.hid hT
      obtain ⟨r, hr⟩ : ∃ r : Int, (a < 0 ∧ r = 1) ∨ (¬ a < 0 ∧ r = 0) := by
        by_cases h : a < 0
        · exact ⟨1, .inl ⟨h, rfl⟩⟩
        · exact ⟨0, .inr ⟨h, rfl⟩⟩
      have HR : Hid (r = rndOf a) := by
        unfold rndOf
        rcases hr with ⟨h, rfl⟩ | ⟨h, rfl⟩
        · rw [if_pos h]; exact rfl
        · rw [if_neg h]; exact rfl
      have h0' : ((n : Int) == 0) = false := beq_eq_false_iff_ne.2 (by omega)
      have hsq : spl a V n = upd (shr a V (sumTo V n)) 0 (shr a V (sumTo V n) 0 + leftOf a V (sumTo V n) n) := spl_eq a V n
      have h0b : -9223372036854775808 ≤ shr a V (sumTo V n) 0 + leftOf a V (sumTo V n) n ∧ shr a V (sumTo V n) 0 + leftOf a V (sumTo V n) n ≤ 9223372036854775807 := by
        have := spl_bd a0 a1 hval.1 hw (i := 0) (by omega)
        rw [hsq, upd_at] at this
        omega
      have H0 := Lib.hid h0b
      rw [hsq] at HD
      have HW := Lib.hid hw
      have HL := Lib.hid hlf
      have HM := Lib.hid (fun k (hk : k < n) w' => refMuldiv_any a (V k) (sumTo V n) r a0 a1 (by have := hw k hk; omega) (by have := hw k hk; omega) (by omega) (by have := hT n (Nat.le_refl _); omega) w')
      have hTn := hT n (Nat.le_refl _)
      have HS := Lib.hid (fun k (hk : k < n) => mdV_bd a (V k) (sumTo V n) r)
      clear hval hw hlf hT hsq hi hv h0b
      have HSh := Lib.hid (fun k => show shr a V (sumTo V n) k = mdV a (V k) (sumTo V n) r by unfold shr; rw [← HR.out])
      rcases hr with ⟨hneg, rfl⟩ | ⟨hneg, rfl⟩
      all_goals
        go_enter Try.func21, Try.ntmps21
        go_wp2_with fail
        (with_reducible refine HV.out.mono ?_)
        rintro e w1 ⟨rfl, hb1⟩
        go_wp2_with fail
        go_loopw [6, 7] (fun t i wr => ∃ k : Nat, k ≤ n ∧ i = .int .i64 k ∧ t = .int .i64 (sumTo V k) ∧ Below w.heap.size w wr) (fun _ i _ => n - (intOf i).toNat)
        case atStart => exact ⟨0, Nat.zero_le _, rfl, rfl, hb1⟩
        case round =>
          obtain ⟨k, hk, rfl, rfl, hb⟩ := hrel
          clear hb1
          by_cases hlt : k < n
          · have hpr := Cells.below HPR.out hb (Nat.le_refl _)
            obtain ⟨b, off, rfl, _, hbb, c1, c2⟩ := Prs.at_ hpr hlt
            obtain ⟨t0, t1⟩ := HTB.out k hk
            obtain ⟨v0, v1⟩ := HW.out k hlt
            have hs := hb.size
            clear hpr
            go_wp2
            go_roundw
            case rel => exact ⟨k + 1, by omega, by go_num, rfl, hb⟩
            case measure => simp [intOf]; omega
          · obtain rfl : n = k := by omega
            clear hlt hk HTB
            generalize hTT : sumTo V n = T at *
            clear hTT
            go_wp2_with (at_make; refine wpList_make_full _ rfl _ _ 31 rfl w.heap.size 2 i0 (.int .i64 0) 1 Try.underlying31 hii hz0 hz1 .i64 .i64 _ _ n rfl rfl rfl rfl (by rw [hz2]; omega) (by unfold maxLen; omega) hb.size ?_; intro w3 hown hg)
            have hgs := hb.size
            have hrow := Row.of_make (cap := n) hown
            have hb3 := hb.grown hg hb.size (by intro k hk; cases hk)
            clear hown hg hb
            generalize wr.heap.size = g at *
            go_loopw [9, 10] (fun l i wr => ∃ k : Nat, k ≤ n ∧ i = .int .i64 k ∧ l = .int .i64 (leftOf a V T k) ∧ SplRow w g a V n T k wr) (fun _ i _ => n - (intOf i).toNat)
            case atStart => exact ⟨0, Nat.zero_le _, rfl, by unfold leftOf sumTo; rw [Int.sub_zero], _, hrow, fun i hi => by omega, hb3⟩
            case round =>
              obtain ⟨k, hk, rfl, rfl, X, hX, hXs, hB⟩ := hrel
              clear hb3 hrow
              have hlk := HL.out k hk
              have hs := hB.size
              by_cases hlt : k < n
              · have hpr := Cells.below hp hB (Nat.le_refl _)
                obtain ⟨b, off, rfl, _, hbb, c1, c2⟩ := Prs.at_ hpr hlt
                have hm := HS.out k hlt
                have HXS := Lib.hid hXs
                have hl1 := HL.out (k + 1) (by omega)
                have hsk := HSh.out k
                have hlv : leftOf a V T (k + 1) = leftOf a V T k - shr a V T k := by unfold leftOf; rw [sumTo_succ]; omega
                rw [hsk] at hlv
                rw [hlv] at hl1
                have HSK := Lib.hid hsk
                have HLV := Lib.hid hlv
                clear hpr hXs hsk hlv
                go_wp2_with fail
                refine (HM.out k hlt _).mono ?_
                rintro e w4 ⟨rfl, hb4⟩
                have hX4 := hX.below hb4 hX.lt
                have hB4 := hB.trans (hb4.mono (by omega))
                have f4 := hX4.frozen k
                have c4 := hX4.cell hlt
                clear hb4
                go_wp2
                go_roundw
                case rel => exact ⟨k + 1, by omega, by go_num, by rw [HLV.out], _, hX4.set_ hlt _, fun i hi => by
                  rcases (by omega : i = k ∨ i < k) with rfl | h
                  · rw [upd_at, HSK.out]
                  · rw [upd_ne (by omega)]; exact HXS.out i h, hB4.setCell hgs _⟩
                case measure => simp [intOf]; omega
              · obtain rfl : k = n := by omega
                have f0 := hX.frozen 0
                have x0 := hX.cell (i := 0) (by omega)
                have hx0 := hXs 0 (by omega)
                rw [hx0] at x0
                have h0b := H0.out
                have hbs := mdV_bd a (V 0) T (rndOf a)
                have hbs' : -9223372036854775808 ≤ shr a V T 0 ∧ shr a V T 0 ≤ 9223372036854775807 := hbs
                have hfin := (hX.set_ (i := 0) (by omega) (shr a V T 0 + leftOf a V T k)).same (Y := upd (shr a V T) 0 (shr a V T 0 + leftOf a V T k)) (fun i hi => by
                  rcases (by omega : i = 0 ∨ i ≠ 0) with rfl | h
                  · rw [upd_at, upd_at]
                  · rw [upd_ne h, upd_ne h, hXs i hi])
                have hBf := hB.setCell (p := ⟨g, 0, none⟩) hgs (.int .i64 (shr a V T 0 + leftOf a V T k))
                have HF := Lib.hid (HD.out _ g hgs hfin hBf)
                clear hXs hx0 hbs hfin hBf
                go_wp2
                go_ret2
                exact HF.out
  · rw [vparts_no hval] at HV
    have HE := Lib.hid (fun (w' : World) (hb : Below w.heap.size w w') => SplitTo.bad (a := a) hval hb)
    clear hval hi hv hp
    go_enter Try.func21, Try.ntmps21
    go_wp2_with fail
    (with_reducible refine HV.out.mono ?_)
    rintro e w' ⟨rfl, hb⟩
    go_wp2
    go_ret2
    exact HE.out _ hb
end Go.Proofs.Ytbhgkifalihheaa
