/-
  Layer 10: contracts of the reference's Find, AddStation.
-/
import Derived.Test.YtgojbomdkdlclaaFlRef
import Derived.Test.YtgojbomdkdlclaaFlAdd
import Derived.StillTail
import Derived.StillTailTactics
namespace Go.Proofs.Ytgojbomdkdlclaa
open Go.ChangeShapes Go.WideShapes Go.ChangeAt Go.RowKit
set_option linter.unusedVariables false

theorem wp_region_tail {P : Program} {id : Nat} {Q : Exit → Act → World → Prop} {a : Act} {w : World} {l : List Oper} (n : Nat) (hm : P.follows .mixedOrders = true) (hB : Region.lexTailB .any l.toArray n = true)
    (h : wpStill P l.toArray w.drew (fun a' => wpList P l.toArray Q (l.drop n) a' w.drew) (l.take n) a) : (Code.region id l.toArray true).wp P Q a w := wp_region_still_tail n hm hB h
theorem hit_eq {n : ByteArray} (hn : (nam n).isSome = true) (s : Sta) : hitB n s = (cmpO (nam s.nm) (nam n) == 0) := by unfold hitB; rw [hn, Bool.true_and]
set_option maxHeartbeats 2000000 in
theorem rfind_any {C R : Nat} {S : Nat → Prop} {t : Tb} {w : World} (h : RO C R S t w) (n : ByteArray) (hn : n.size ≤ 2000000) :
    Calls Try.prog 33 #[.pointer (some ⟨R, 0, none⟩), .string n] w (Quiet (.tuple #[.int .i64 (fdV t.S n), .bool (fndN t.S n).isSome]) w) := by
  have HV := validName_any n
  have HCM := Lib.hid (fun s (hs : s.size ≤ 2000000) w => refCmp_any s n hs hn w)
  unfold CmpAns at HCM
  have HSZ := Lib.hid (fun k (hk : k < t.S.length) => sta_size h.1 hk)
  obtain ⟨h0, ⟨vS, vF, vG, h1, _⟩, _⟩ := h
  have HK := Lib.hid (fun w' (hb : Below w.heap.size w w') => (h1.below hb).cells.2.2.1)
  have hf := h0.few
  have HC := Lib.hid (fun k (hk : k < t.S.length) => h1.sta hk)
  obtain ⟨A, c, rfl⟩ := ow_shape h1.rowS
  unfold Quiet fdV
  cases q1 : (nam n).isSome
  · rw [fnd_no q1]
    rw [q1] at HV
    have HV := Lib.hid (fun w => HV w hn)
    have c2 := HK.out w (Below.refl _ _)
    clear h1 h0 HC HK HSZ q1 HCM
    generalize t.S.length = m at *
    by_cases hm : m = 0
    · subst hm
      go_enter Try.func33, Try.ntmps33
      go_wp2
      go_loopw [6] (fun s6 wr => s6 = .int .i64 0 ∧ wr = w) (fun s6 _ => 0)
      case atStart => exact ⟨rfl, rfl⟩
      case round =>
        obtain ⟨rfl, rfl⟩ := hrel
        go_wp2
        go_ret2
        exact ⟨rfl, Below.refl _ _⟩
    · have hm' : (0 : Int) < m := by omega
      go_enter Try.func33, Try.ntmps33
      go_wp2
      go_loopw [6] (fun s6 wr => s6 = .int .i64 0 ∧ wr = w) (fun s6 _ => 0)
      case atStart => exact ⟨rfl, rfl⟩
      case round =>
        obtain ⟨rfl, rfl⟩ := hrel
        go_wp2_with fail
        (with_reducible refine (HV.out _).mono ?_); rintro e w1 ⟨rfl, hb⟩
        have hb := Lib.hid hb
        go_wp2
        go_ret2
        exact ⟨rfl, hb.out⟩
  · rw [q1] at HV
    have HV := Lib.hid (fun w => HV w hn)
    have HH := Lib.hid (fun k (hk : k < t.S.length) => hit_eq q1 t.S[k])
    have HA := Lib.hid (fun k (hk : k < t.S.length) (h1 : hitB n t.S[k] = true) (h2 : ∀ j (hj : j < k), hitB n (t.S[j]'(by omega)) = false) => fnd_at hk h1 h2)
    have HE := Lib.hid (fun (h2 : ∀ j (hj : j < t.S.length), hitB n t.S[j] = false) => fnd_end h2)
    clear h1 h0 q1
    go_enter Try.func33, Try.ntmps33
    go_wp2
    go_loopw [6] (fun s6 wr => ∃ k : Nat, k ≤ t.S.length ∧ s6 = .int .i64 k ∧ Hid (Below w.heap.size w wr) ∧ Hid (∀ j (hj : j < k) (hj2 : j < t.S.length), hitB n t.S[j] = false)) (fun s6 _ => t.S.length - (intOf s6).toNat)
    case atStart => exact ⟨0, Nat.zero_le _, rfl, Lib.hid (Below.refl _ _), Lib.hid (fun j hj => by omega)⟩
    case round =>
      obtain ⟨k, hk, rfl, HW, HN⟩ := hrel
      have c2 := HK.out wr HW.out
      by_cases hlt : k < t.S.length
      · obtain ⟨g, c', hv, hg1, hg2, _, e1, _, _⟩ := HC.out k hlt
        obtain ⟨rfl, rfl⟩ : A = some ⟨g, 0, none⟩ ∧ c = c' := by simpa using hv
        have hsz := HSZ.out k hlt
        have hit := HH.out k hlt
        have HA2 := Lib.hid (HA.out k hlt)
        obtain ⟨nm, hnm⟩ : ∃ nm, t.S[k].nm = nm := ⟨_, rfl⟩
        rw [hnm] at e1 hsz hit
        have HX := Lib.hid (fun w => HCM.out nm (by omega) w)
        obtain ⟨z, hz⟩ : ∃ z, cmpO (nam nm) (nam n) = z := ⟨_, rfl⟩
        rw [hz] at HX hit
        have hit := Lib.hid hit
        clear hnm hz hv hsz
        go_wp2_with fail
        (with_reducible refine (HV.out _).mono ?_); rintro e w1 ⟨rfl, hb⟩
        have HW1 := Lib.hid (HW.out.trans (hb.mono HW.out.size))
        have c2' := HK.out w1 HW1.out
        have e1' : w1.cell? ⟨g, k * 4 + 1, none⟩ = some (.string nm) := (HW1.out.cell (p := ⟨g, k * 4 + 1, none⟩) hg2).trans e1
        clear hb c2 e1
        go_wp2_with fail
        (with_reducible refine (HX.out _).mono ?_); rintro e w2 ⟨rfl, hb⟩
        have HW2 := Lib.hid (HW1.out.trans (hb.mono HW1.out.size))
        clear hb HX
        by_cases hz0 : z = 0
        · have HF := Lib.hid (HA2.out (by rw [hit.out, hz0]; rfl) (fun j hj => HN.out j hj (by omega)))
          subst hz0
          clear HN HH HA HA2 HE
          go_wp2
          go_ret2
          exact ⟨by rw [HF.out]; rfl, HW2.out⟩
        · have hz1 : (z == 0) = false := beq_eq_false_iff_ne.2 hz0
          have HN2 : Hid (∀ j (hj : j < k + 1) (hj2 : j < t.S.length), hitB n t.S[j] = false) := Lib.hid (fun j hj hj2 => by
            rcases (by omega : j < k ∨ j = k) with h | rfl
            · exact HN.out j h hj2
            · rw [hit.out]; exact hz1)
          clear HN HA2 hit
          go_wp2
          go_roundw
          case rel => exact ⟨k + 1, by omega, by go_num, HW2, HN2⟩
          case measure => simp [intOf]; omega
      · obtain rfl : k = t.S.length := by omega
        have HF := Lib.hid (HE.out (fun j hj => HN.out j hj hj))
        clear HN HH HA HE
        go_wp2
        go_ret2
        exact ⟨by rw [HF.out]; rfl, HW.out⟩
end Go.Proofs.Ytgojbomdkdlclaa

