/-
  Layer 5: contracts of the ring's Remove. Every input.
-/
import Derived.Test.YtpdoommjmmlhfaaRgOps
namespace Go.Proofs.Ytpdoommjmmlhfaa
open Go.ChangeShapes Go.WideShapes Go.ChangeAt Go.RowKit
set_option linter.unusedVariables false

/-- The list whose numbers from i + 1 to k - 1 have moved up by one. -/
def shfN (L : Nat → Int) (i k : Nat) : Nat → Int := fun j => if j < i then L j else if j + 1 < k then L (j + 1) else L j
theorem Holds.shift0 {X L : Nat → Int} {cap f n i : Nat} (h : Holds X cap f n L) : Holds X cap f n (shfN L i (i + 1)) :=
  h.same fun j _ => by
    unfold shfN
    split
    · rfl
    · rw [if_neg (by omega)]
theorem Holds.shift {X L : Nat → Int} {cap f n i k p q : Nat} (h : Holds X cap f n (shfN L i k)) (hf : f < cap) (hn : n ≤ cap) (hi : i < k) (hk : k < n) (hp : (f + (k - 1)) % cap = p) (hq : (f + k) % cap = q) :
    Holds (upd X p (X q)) cap f n (shfN L i (k + 1)) := by
  have e1 : X q = L k := by rw [← hq, h k hk]; unfold shfN; rw [if_neg (by omega), if_neg (by omega)]
  intro j hj
  subst hp
  by_cases h1 : j = k - 1
  · subst h1; rw [upd_at, e1]; unfold shfN; rw [if_neg (by omega), if_pos (by omega), show k - 1 + 1 = k by omega]
  · rw [upd_ne (place_ne hf (by omega) (by omega) h1), h j hj]
    unfold shfN
    by_cases h2 : j < i
    · rw [if_pos h2, if_pos h2]
    · rw [if_neg h2, if_neg h2]
      by_cases h3 : j + 1 < k
      · rw [if_pos h3, if_pos (by omega)]
      · rw [if_neg h3, if_neg (by omega)]
theorem Holds.shifted {X L : Nat → Int} {cap f n i : Nat} (h : Holds X cap f (n + 1) (shfN L i (n + 1))) : Holds X cap f n (rmvN L i) :=
  (h.fewer (by omega)).same fun j hj => by
    unfold shfN rmvN
    split
    · rfl
    · rw [if_pos (by omega)]
theorem rgrem_none {w : World} {C H g cap n : Nat} {L : Nat → Int} (h : RingO C H g cap n L w) (i : Int) (hi : i < 0 ∨ (n : Int) ≤ i) :
    Calls Try.prog 22 #[.pointer (some ⟨H, 0, none⟩), .int .i64 i] w (RgAns C H g cap n L (.tuple #[.int .i64 0, .int .i64 6]) w) := by
  have HE := Lib.hid (fun w' hb => RgAns.stay (w' := w') (x := .tuple #[.int .i64 0, .int .i64 6]) h hb)
  obtain ⟨f, X, h, _⟩ := h
  have HA := Lib.hid (rat_no h i hi)
  clear h hi
  go_enter Try.func22, Try.ntmps22
  go_wp2_with fail
  (with_reducible refine HA.out.mono ?_)
  rintro e w1 ⟨rfl, rfl⟩
  go_wp2
  go_ret2
  exact HE.out _ (Below.refl _ _)
set_option maxHeartbeats 4000000 in
theorem rgrem_ok {w : World} {C H g cap n : Nat} {L : Nat → Int} (h : RingO C H g cap (n + 1) L w) (i : Int) (j : Nat) (hi : i = j) (hj : j < n + 1) :
    Calls Try.prog 22 #[.pointer (some ⟨H, 0, none⟩), .int .i64 i] w (RgAns C H g cap n (rmvN L j) (.tuple #[.int .i64 (L j), .int .i64 0]) w) := by
  subst hi
  obtain ⟨f, X, h, hX, l1, l2⟩ := h
  have hl := h.len
  have HA := rat_yes h j j _ rfl hj rfl
  rw [hX j hj] at HA
  have HA := Lib.hid HA
  have HW := Lib.hid h
  have HX := Lib.hid (hX.shift0 (i := j))
  have HF := Lib.hid (fun W X (h : RingW W H g cap f (n + 1) X) (hx : Holds X cap f (n + 1) (shfN L j (n + 1))) (hc : Chg (rgfoot H g) w W) => (show RgAns C H g cap n (rmvN L j) (.tuple #[.int .i64 (L j), .int .i64 0]) w (.returned (.tuple #[.int .i64 (L j), .int .i64 0])) (W.setCell ⟨H, 2, none⟩ (.int .i64 n)) from
    ⟨rfl, ⟨f, _, h.setCount (n' := n) (by omega), hx.shifted, l1, l2⟩, hc.setCell (.inl rfl) _ _⟩))
  clear h hX
  go_enter Try.func22, Try.ntmps22
  go_wp2_with fail
  (with_reducible refine HA.out.mono ?_)
  rintro e w1 ⟨rfl, q0, rfl⟩
  go_wp2_with fail
  go_loopw [8] (fun s wr => ∃ (k : Nat) (X : Nat → Int), j < k ∧ k ≤ n + 1 ∧ s = .int .i64 k ∧ Hid (RingW wr H g cap f (n + 1) X) ∧ Hid (Holds X cap f (n + 1) (shfN L j k)) ∧ Hid (Chg (rgfoot H g) w wr)) (fun s _ => n + 1 - (intOf s).toNat)
  case atStart => exact ⟨j + 1, X, by omega, by omega, by go_num, HW.out.drewN q0, HX, ((Chg.refl _ w).drewN q0)⟩
  case round =>
    obtain ⟨k, X, hjk, hkn, rfl, HR, HH, HK⟩ := hrel
    clear HW HX
    obtain ⟨c0, _, c2, z1, z2⟩ := HR.out.cells
    by_cases hlt : k < n + 1
    · have hlt' : (k : Int) < (n : Int) + 1 := by omega
      obtain ⟨p, hp⟩ : ∃ p, (f + (k - 1)) % cap = p := ⟨_, rfl⟩
      obtain ⟨q, hq⟩ : ∃ q, (f + k) % cap = q := ⟨_, rfl⟩
      have hpl : p < cap := by rw [← hp]; exact Nat.mod_lt _ (by omega)
      have hql : q < cap := by rw [← hq]; exact Nat.mod_lt _ (by omega)
      have hpl' : (p : Int) < cap := by omega
      have hql' : (q : Int) < cap := by omega
      have cp := HR.out.row.cell hpl
      have cq := HR.out.row.cell hql
      have zp := HR.out.row.frozen p
      have s1 : IntKind.i64.wrap ((k : Int) - 1) = (k : Int) - 1 := IntWalk.i64_in _ (by omega)
      have HC1 := Lib.hid (fun W hb => cell_any (HR.out.below (w' := W) hb) ((k : Int) - 1) (k - 1) p (by omega) (by omega) hp)
      have HC2 := Lib.hid (fun W hb => cell_any (HR.out.below (w' := W) hb) (k : Int) k q rfl (by omega) hq)
      have HS := Lib.hid (HH.out.shift hl.2.2.1 hl.2.2.2 hjk hlt hp hq)
      have HN := Lib.hid (fun q1 => (HR.out.drewN q1).setAt hpl (X q))
      have HL := Lib.hid (fun q1 => (HK.out.drewN q1).setCell (g := g) (.inr rfl) p (.int .i64 (X q)))
      clear hp hq HR HH HK HA
      go_wp2_with fail
      go_region_with (first
        | (go_at_call 26; (with_reducible refine (HC1.out _ (by repeat (first | exact Below.refl _ _ | refine Below.drew ?_ | refine Below_drewN ?_ _))).mono ?_); rintro e w1 ⟨rfl, q1, rfl⟩)
        | (go_at_call 26; (with_reducible refine (HC2.out _ (by repeat (first | exact Below.refl _ _ | refine Below.drew ?_ | refine Below_drewN ?_ _))).mono ?_); rintro e w1 ⟨rfl, q2, rfl⟩))
      all_goals
        clear HC1 HC2
        go_wp2
        go_roundw
        case rel => exact ⟨k + 1, _, by omega, by omega, by go_num, HN.out _, HS, HL.out _⟩
        case measure => simp [intOf]; omega
    · obtain rfl : k = n + 1 := by omega
      have HZ := Lib.hid (HF.out _ _ HR.out HH.out HK.out)
      clear HR HH HK HF
      go_wp2
      go_ret2
      exact HZ.out
end Go.Proofs.Ytpdoommjmmlhfaa

