/-
  Layer 3: the contract of Fill (package shares). Every input; no condition.
-/
import Derived.Test.YtbhgkifalihheaaShFillR
namespace Go.Proofs.Ytbhgkifalihheaa
open Go.ChangeShapes Go.WideShapes Go.ChangeAt Go.RowKit
set_option linter.unusedVariables false

/-- The arguments that Fill permits. -/
def FlOk (a : Int) (n nc : Nat) (I V C : Nat → Int) : Prop := VParts n I V ∧ nc = n ∧ VCaps n C ∧ 0 ≤ a
noncomputable instance instFlOk (a : Int) (n nc : Nat) (I V C : Nat → Int) : Decidable (FlOk a n nc I V C) := Classical.propDecidable _
/-- What Fill answers: so many numbers X, this rest, this error. -/
def FlRes (a : Int) (n nc : Nat) (I V C : Nat → Int) (L : Nat) (X : Nat → Int) (r E : Int) : Prop :=
  (FlOk a n nc I V C ∧ L = n ∧ E = 0 ∧ FirstEnd C V n a (X, r)) ∨ (¬ FlOk a n nc I V C ∧ L = 0 ∧ r = 0 ∧ E = 1)
theorem FlRes.one {a : Int} {n nc : Nat} {I V C : Nat → Int} {L L' : Nat} {X X' : Nat → Int} {r r' E E' : Int} (h : FlRes a n nc I V C L X r E) (k : FlRes a n nc I V C L' X' r' E') : L = L' ∧ r = r' ∧ E = E' ∧ ∀ i, i < L → X i = X' i := by
  rcases h with ⟨h1, rfl, rfl, h4⟩ | ⟨h1, rfl, rfl, rfl⟩ <;> rcases k with ⟨k1, rfl, rfl, k4⟩ | ⟨k1, rfl, rfl, rfl⟩
  · have e := h4.one k4
    injection e with e1 e2
    subst e1; subst e2
    exact ⟨rfl, rfl, rfl, fun _ _ => rfl⟩
  · exact absurd h1 k1
  · exact absurd k1 h1
  · exact ⟨rfl, rfl, rfl, fun i hi => by omega⟩
def FillAns (a : Int) (n nc : Nat) (I V C : Nat → Int) (w : World) (e : Ending) (w' : World) : Prop :=
  ∃ (A' : Option Addr) (c' L : Nat) (X : Nat → Int) (r E : Int), e = .returned (.tuple #[.slice A' L c', .int .i64 r, .int .i64 E]) ∧ Nums w' w.heap.size w'.heap.size A' L X ∧ Below w.heap.size w w' ∧ FlRes a n nc I V C L X r E
theorem FillAns.bad {a : Int} {n nc : Nat} {I V C : Nat → Int} {w w' : World} (h : ¬ FlOk a n nc I V C) (hb : Below w.heap.size w w') : FillAns a n nc I V C w (.returned (.tuple #[.slice none 0 0, .int .i64 0, .int .i64 1])) w' :=
  ⟨none, 0, 0, fun _ => 0, 0, 1, rfl, Cells.nil, hb, .inr ⟨h, rfl, rfl, rfl⟩⟩
theorem FillAns.done {a : Int} {n nc : Nat} {I V C : Nat → Int} {w w' : World} {g j : Nat} (h : FlOk a n nc I V C) (hg : w.heap.size ≤ g) (hr : Row w' g 2 n (fillIt C V n a j).1) (hb : Below w.heap.size w w')
    (he : fillEnd C n (fillIt C V n a j)) (hf : ∀ i, i < j → ¬ fillEnd C n (fillIt C V n a i)) :
    FillAns a n nc I V C w (.returned (.tuple #[.slice (some ⟨g, 0, none⟩) n n, .int .i64 (fillIt C V n a j).2, .int .i64 0])) w' :=
  ⟨_, n, n, _, _, 0, rfl, Cells.wider hr.nums hg hr.lt, hb, .inl ⟨h, rfl, rfl, j, rfl, he, hf⟩⟩
set_option maxHeartbeats 4000000 in
theorem fill_any (a : Int) (A D : Option Addr) (n nc ca cd : Nat) (I V C : Nat → Int) (w : World) (a1 : a ≤ 9223372036854775807) (hn : n ≤ 9223372036854775807) (hnc : nc ≤ 9223372036854775807) (hi : Fits n I) (hv : Fits n V) (hp : Prs w 0 w.heap.size A n I V) (hd : Nums w 0 w.heap.size D nc C) :
    Calls Try.prog 19 #[.int .i64 a, .slice A n ca, .slice D nc cd] w (FillAns a n nc I V C w) := by
  have HV := Lib.hid (valid_any A n ca I V w hn hi hv hp)
  by_cases hok : FlOk a n nc I V C
  · obtain ⟨hval, rfl, hcap, a0⟩ := hok
    have HC := Lib.hid (fun (w' : World) (hb : Below w.heap.size w w') => validCaps_any D nc cd C w' hnc (Cells.wider (Cells.below hd hb (Nat.le_refl _)) (Nat.le_refl _) hb.size))
    rw [vparts_yes hval] at HV
    rw [vcaps_yes hcap] at HC
    have ha0 : ¬ a < 0 := by omega
    have hn64 := hval.1
    have HD := Lib.hid (fun (w' : World) (g j : Nat) => FillAns.done (a := a) (nc := nc) (I := I) (V := V) (C := C) (w := w) (w' := w') (g := g) (j := j) ⟨hval, rfl, hcap, a0⟩)
    have HIT := Lib.hid (fun j => fillIt_ok (C := C) (V := V) (n := nc) (a := a) a0 a1 hn64 (fun i hi => (hval.2 i hi).2.2) (fun i hi => (hcap i hi).1) j)
    have HLESS := Lib.hid (fun s => fillRnd_ok (C := C) (V := V) (n := nc) (a := a) (s := s) a1 hn64 (fun i hi => (hval.2 i hi).2.2))
    have HR := Lib.hid (fun (r : Int) (O : Option Addr) (co g : Nat) (G : Nat → Int) (w' : World) => fillRound_any r a A O D nc ca cd co g I V G C w' a1 hval hi hcap)
    have HO := Lib.hid (fun (g : Nat) (G : Nat → Int) (w' : World) (h1 : Row w' g 2 nc G) (hb : Below w.heap.size w w') => openParts_any (some ⟨g, 0, none⟩) D nc nc cd G C w' hn64 (Cells.wider h1.nums (Nat.zero_le _) h1.lt) (Cells.wider (Cells.below hd hb (Nat.le_refl _)) (Nat.le_refl _) hb.size))
    obtain ⟨i0, hii, hz0, hz1, hz2⟩ := info_parts infoInt64
    clear hval hcap hi hv
    go_enter Try.func19, Try.ntmps19
    go_wp2_with fail
    (with_reducible refine HV.out.mono ?_)
    rintro e w1 ⟨rfl, hb1⟩
    go_wp2_with fail
    (with_reducible refine (HC.out _ hb1).mono ?_)
    rintro e w1' ⟨rfl, rfl⟩
    go_wp2_with (at_make; refine wpList_make_full _ rfl _ _ 31 rfl w.heap.size 2 i0 (.int .i64 0) 1 Try.underlying31 hii hz0 hz1 .i64 .i64 _ _ nc rfl rfl rfl rfl (by rw [hz2]; omega) (by unfold maxLen; omega) hb1.size ?_; intro w3 hown hg)
    have hgs := hb1.size
    have hrow := Row.of_make (cap := nc) hown
    have hb3 := hb1.grown hg hb1.size (by intro k hk; cases hk)
    clear hown hg hb1
    generalize w1.heap.size = g at *
    go_loopw [10] (fun r wr => ∃ j : Nat, r = .int .i64 (fillIt C V nc a j).2 ∧ Row wr g 2 nc (fillIt C V nc a j).1 ∧ (∀ i, i < j → ¬ fillEnd C nc (fillIt C V nc a i)) ∧ Below w.heap.size w wr) (fun r _ => (intOf r).toNat)
    case atStart => exact ⟨0, rfl, hrow, fun i hi => by omega, hb3⟩
    case round =>
      obtain ⟨j, rfl, hX, hfirst, hB⟩ := hrel
      clear hrow hb3
      have hfo := HIT.out j hfirst
      have HFI := Lib.hid hfirst
      clear hfirst
      have hs2 : Hid (fillIt C V nc a (j + 1) = fillRnd C V nc (fillIt C V nc a j)) := rfl
      have HDD := HD.out
      by_cases hr : 0 < (fillIt C V nc a j).2
      · have HOJ := Lib.hid (HO.out g _ wr hX hB)
        have hrb := hfo.2.2.1
        by_cases hm : (opens (fillIt C V nc a j).1 C nc).length = 0
        · have HFIN := Lib.hid (fun (w' : World) (h1 : Row w' g 2 nc (fillIt C V nc a j).1) (hb : Below w.heap.size w w') => HD.out w' g j hgs h1 hb (.inr hm) HFI.out)
          unfold OpTo at HOJ
          rw [hm] at HOJ
          clear HDD hm hs2
          generalize fillIt C V nc a j = s at *
          go_wp2_with fail
          (with_reducible refine HOJ.out.mono ?_)
          rintro e w4 ⟨A4, c4, rfl, _, hb4⟩
          have hX4 := hX.below hb4 hX.lt
          have hB4 := hB.trans (hb4.mono hB.size)
          clear hX hB hb4
          go_wp2
          go_ret3
          exact HFIN.out _ hX4 hB4
        · have hne : ¬ fillEnd C nc (fillIt C V nc a j) := by
            rintro (h | h)
            · omega
            · exact hm h
          have HFL := Lib.hid (HLESS.out _ hfo hne)
          have HRR := Lib.hid (fun (O : Option Addr) (co : Nat) (w' : World) => HR.out (fillIt C V nc a j).2 O co g (fillIt C V nc a j).1 w' hfo hne)
          have HNE := Lib.hid hne
          have hm' : (((opens (fillIt C V nc a j).1 C nc).length : Int) == 0) = false := beq_eq_false_iff_ne.2 (by omega)
          unfold OpTo at HOJ
          clear HDD hm hne
          generalize hss : fillIt C V nc a j = s at *
          have HSS := Lib.hid hss
          clear hss
          go_wp2_with fail
          (with_reducible refine HOJ.out.mono ?_)
          rintro e w4 ⟨A4, c4, rfl, hn4, hb4⟩
          have hX4 := hX.below hb4 hX.lt
          have hB4 := hB.trans (hb4.mono hB.size)
          have hR4 := Lib.hid (HRR.out A4 c4 w4 hX4 (Cells.wider (Cells.below hp hB4 (Nat.le_refl _)) (Nat.le_refl _) hgs) (Cells.wider (Cells.below hd hB4 (Nat.le_refl _)) (Nat.le_refl _) hgs) (Cells.wider hn4 (by have := hX.lt; omega) (Nat.le_refl _)))
          have hgl := hX4.lt
          clear hX hB hb4 hn4 hX4
          go_wp2_with fail
          (with_reducible refine hR4.out.mono ?_)
          rintro e w5 ⟨rfl, hX5, hO5⟩
          have hB5 := hB4.trans ((hO5.below (by omega)).mono hgs)
          clear hO5 hB4
          go_wp2
          go_roundw
          case rel => exact ⟨j + 1, by rw [hs2.out], by rw [hs2.out]; exact hX5, fun i hi => by
            rcases (by omega : i < j ∨ i = j) with h | rfl
            · exact HFI.out i h
            · rw [HSS.out]; exact HNE.out, hB5⟩
          case measure =>
            have h1 : (fillRnd C V nc (s.1, s.2)).2 < s.2 := HFL.out.2
            simp [intOf]
            omega
      · have HFIN := Lib.hid (HD.out wr g j hgs hX hB (.inl (by omega)) HFI.out)
        clear HDD hs2
        generalize fillIt C V nc a j = s at *
        go_wp2
        go_ret3
        exact HFIN.out
  · have HE := Lib.hid (fun (w' : World) (hb : Below w.heap.size w w') => FillAns.bad hok hb)
    by_cases ha : a < 0
    · clear hok hi hv hp hd HV
      go_enter Try.func19, Try.ntmps19
      go_wp2
      go_ret3
      exact HE.out _ (Below.refl _ _)
    · by_cases hval : VParts n I V
      · rw [vparts_yes hval] at HV
        by_cases hl : nc = n
        · have hcap : ¬ VCaps n C := fun h => hok ⟨hval, hl, h, by omega⟩
          subst hl
          have HC := Lib.hid (fun (w' : World) (hb : Below w.heap.size w w') => validCaps_any D nc cd C w' hnc (Cells.wider (Cells.below hd hb (Nat.le_refl _)) (Nat.le_refl _) hb.size))
          rw [vcaps_no hcap] at HC
          clear hok hi hv hp hd hval hcap
          go_enter Try.func19, Try.ntmps19
          go_wp2_with fail
          (with_reducible refine HV.out.mono ?_)
          rintro e w1 ⟨rfl, hb1⟩
          go_wp2_with fail
          (with_reducible refine (HC.out _ hb1).mono ?_)
          rintro e w1' ⟨rfl, rfl⟩
          go_wp2
          go_ret3
          exact HE.out _ hb1
        · have hl' : ((nc : Int) != (n : Int)) = true := by rw [bne_iff_ne]; omega
          clear hok hi hv hp hd hval hl
          go_enter Try.func19, Try.ntmps19
          go_wp2_with fail
          (with_reducible refine HV.out.mono ?_)
          rintro e w1 ⟨rfl, hb1⟩
          go_wp2
          go_ret3
          exact HE.out _ hb1
      · rw [vparts_no hval] at HV
        clear hok hi hv hp hd hval
        go_enter Try.func19, Try.ntmps19
        go_wp2_with fail
        (with_reducible refine HV.out.mono ?_)
        rintro e w1 ⟨rfl, hb1⟩
        go_wp2
        go_ret3
        exact HE.out _ hb1
end Go.Proofs.Ytbhgkifalihheaa
