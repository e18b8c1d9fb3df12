/-
  Layer 19: the reference's Best.
-/
import Derived.Test.YtcefpkibglideaaAiRef
import Derived.Test.YtcefpkibglideaaAiGen
namespace Go.Proofs.Ytcefpkibglideaa
open Go.ChangeShapes Go.WideShapes Go.ChangeAt Go.RowKit
set_option linter.unusedVariables false

theorem aiAll_of {l : List Rt} (h : ∀ j (hj : j < l.length), aiV (l[j]).1 (l[j]).2 = true) : aiAll l = true := by
  unfold aiAll
  rw [List.all_eq_true]
  intro x hx
  obtain ⟨j, hj, rfl⟩ := List.getElem_of_mem hx
  exact h j hj
theorem aiAll_no {l : List Rt} {j : Nat} (hj : j < l.length) (h : aiV (l[j]).1 (l[j]).2 = false) : aiAll l = false := by
  cases e : aiAll l
  · rfl
  · rw [aiAll_at e hj] at h; cases h
theorem aiB_bad {l : List Rt} {b : Int} (h : ¬ (aiAll l = true ∧ l.length ≤ 12 ∧ 0 ≤ b ∧ b ≤ 262144)) : aiBV l b = 0 ∧ aiBE l b = 1 := by
  have e : aiBE l b = 1 := by unfold aiBE; rw [if_neg h]
  refine ⟨?_, e⟩
  unfold aiBV; rw [e, if_neg (by decide)]
theorem aiB_nil {l : List Rt} {b : Int} (h : aiAll l = true ∧ l.length ≤ 12 ∧ 0 ≤ b ∧ b ≤ 262144) (h0 : l.length = 0) : aiBV l b = 0 ∧ aiBE l b = 5 := by
  have e : aiBE l b = 5 := by unfold aiBE; rw [if_pos h, if_pos h0]
  refine ⟨?_, e⟩
  unfold aiBV; rw [e, if_neg (by decide)]
theorem aiB_some {l : List Rt} {b : Int} (h : aiAll l = true ∧ l.length ≤ 12 ∧ 0 ≤ b ∧ b ≤ 262144) (h0 : l.length ≠ 0) : aiBV l b = (aiBi l b l.length : Nat) ∧ aiBE l b = 0 := by
  have e : aiBE l b = 0 := by unfold aiBE; rw [if_pos h, if_neg h0]
  refine ⟨?_, e⟩
  unfold aiBV; rw [e, if_pos rfl]
set_option maxRecDepth 100000 in
set_option maxHeartbeats 8000000 in
theorem rbest_any {A : Option Addr} {c : Nat} {l : List Rt} (b : Int) {w : World} (h : SrAt csR 2 w 0 w.heap.size A l) (hn : l.length ≤ 40) :
    Calls Try.prog 26 #[.slice A l.length c, .int .i64 b] w (AiB (.tuple #[.int .i64 (aiBV l b), .int .i64 (aiBE l b)]) w) := by
  have HV := Lib.hid (fun (k o : Int) w => rvalidrate_any k o w)
  have HT := Lib.hid (fun (k o : Int) (hv : aiV k o = true) (h0 : 0 ≤ b) (h1 : b ≤ 262144) (w : World) => (show Calls Try.prog 17 #[.agg #[.int .i64 k, .int .i64 o], .int .i64 b] w (AiB (.tuple #[.int .i64 (aiZ k o b), .int .i64 0]) w) from by
    have hok := aiOk_mk hv h0 h1
    have := rtime_any k o b w
    rw [show aiTV k o b = aiZ k o b from if_pos hok, show aiTE k o b = 0 from if_pos hok] at this
    exact this))
  unfold AiB at *
  by_cases h0 : l.length = 0
  · have hall : aiAll l = true := aiAll_of fun j hj => absurd hj (by omega)
    by_cases hg : l.length ≤ 12 ∧ 0 ≤ b ∧ b ≤ 262144
    · have e := aiB_nil ⟨hall, hg⟩ h0
      rw [e.1, e.2, h0]
      obtain ⟨_, g1, g2⟩ := hg
      clear e HV HT h hall
      go_enter Try.func26, Try.ntmps26
      go_wp2_with fail
      go_loopw [6] (fun s6 wr => s6 = .int .i64 0 ∧ wr = w) (fun _ _ => 0)
      case atStart => exact ⟨rfl, rfl⟩
      case round =>
        obtain ⟨rfl, rfl⟩ := hrel
        go_wp2
        go_ret2
        exact ⟨rfl, Below.refl _ _⟩
    · have e := aiB_bad (l := l) (b := b) (fun h => hg h.2)
      rw [e.1, e.2, h0]
      have hg2 : ¬ (0 ≤ b ∧ b ≤ 262144) := fun h => hg ⟨by omega, h⟩
      clear e HV HT h hall hg
      go_enter Try.func26, Try.ntmps26
      go_wp2_with fail
      go_loopw [6] (fun s6 wr => s6 = .int .i64 0 ∧ wr = w) (fun _ _ => 0)
      case atStart => exact ⟨rfl, rfl⟩
      case round =>
        obtain ⟨rfl, rfl⟩ := hrel
        by_cases hb0 : b < 0
        · go_wp2
          go_ret2
          exact ⟨rfl, Below.refl _ _⟩
        · have hb1 : 262144 < b := by omega
          go_wp2
          go_ret2
          exact ⟨rfl, Below.refl _ _⟩
  · obtain ⟨bb, off, rfl, _, hbb, _⟩ := h 0 (by omega)
    have HC := Lib.hid (fun (W : World) (hw : Below w.heap.size w W) (i : Nat) (hi : i < l.length) => (show W.cell? ⟨bb, off + i * 2, none⟩ = some (.int .i64 (l[i]).1) ∧ W.cell? ⟨bb, off + i * 2 + 1, none⟩ = some (.int .i64 (l[i]).2) from by
      obtain ⟨b2, o2, e, _, h2, h3⟩ := h i hi
      simp only [Option.some.injEq, Addr.mk.injEq, and_true] at e
      obtain ⟨rfl, rfl⟩ := e
      exact ⟨(hw.cell (p := ⟨bb, off + i * 2, none⟩) hbb).trans (h3 0 (by decide)), (hw.cell (p := ⟨bb, off + i * 2 + 1, none⟩) hbb).trans (h3 1 (by decide))⟩))
    clear h hbb
    have HE1 := Lib.hid (fun h => aiB_bad (l := l) (b := b) h)
    have HE2 := Lib.hid (fun h => aiB_some (l := l) (b := b) h h0)
    have HS := Lib.hid (fun i => aiBi_step l b i)
    obtain ⟨n, hN⟩ : ∃ n, l.length = n := ⟨_, rfl⟩
    rw [hN]
    generalize aiBV l b = bv at *
    generalize aiBE l b = be at *
    go_enter Try.func26, Try.ntmps26
    go_wp2_with fail
    go_loopw [6] (fun s6 wr => ∃ i : Nat, i ≤ n ∧ s6 = .int .i64 i ∧ Hid (∀ j (hj : j < l.length), j < i → aiV (l[j]).1 (l[j]).2 = true) ∧ Hid (Below w.heap.size w wr)) (fun s6 _ => n - (intOf s6).toNat)
    case atStart => exact ⟨0, by omega, rfl, Lib.hid (fun j _ h => absurd h (by omega)), Lib.hid (Below.refl _ _)⟩
    case round =>
      obtain ⟨i, hi, rfl, HI, HB⟩ := hrel
      by_cases hin : i < n
      · have hin' : (i : Int) < n := by omega
        obtain ⟨c0, c1⟩ := HC.out wr HB.out i (by omega)
        have HVi := Lib.hid (fun w => HV.out (l[i]'(by omega)).1 (l[i]'(by omega)).2 w)
        rcases hv : aiV (l[i]'(by omega)).1 (l[i]'(by omega)).2 with _ | _
        · obtain ⟨e1, e2⟩ := HE1.out (fun h => by have := aiAll_no (by omega) hv; rw [this] at h; exact absurd h.1 (by decide))
          rw [hv] at HVi
          subst e1 e2
          generalize l[i]'(by omega) = r at *
          obtain ⟨k, o⟩ := r
          clear HE1 HE2 HS HV HT HC HI
          go_wp2_with fail
          (with_reducible refine (HVi.out _).mono ?_); rintro e w1 ⟨rfl, hb⟩
          have HF := Lib.hid (HB.out.trans (hb.mono HB.out.size))
          clear hb
          go_wp2
          go_ret2
          exact ⟨rfl, HF.out⟩
        · have HI2 := Lib.hid (show ∀ j (hj : j < l.length), j < i + 1 → aiV (l[j]).1 (l[j]).2 = true from fun j hj h => by
            by_cases e : j = i
            · subst e; exact hv
            · exact HI.out j hj (by omega))
          rw [hv] at HVi
          generalize l[i]'(by omega) = r at *
          obtain ⟨k, o⟩ := r
          clear HE1 HE2 HS HV HT HC HI
          go_wp2_with fail
          (with_reducible refine (HVi.out _).mono ?_); rintro e w1 ⟨rfl, hb⟩
          have HF := Lib.hid (HB.out.trans (hb.mono HB.out.size))
          clear hb
          go_wp2
          go_roundw
          case rel => exact ⟨i + 1, by omega, by go_num, HI2, HF⟩
          case measure => simp [intOf]; omega
      · obtain rfl : i = n := by omega
        have hall : aiAll l = true := aiAll_of fun j hj => HI.out j hj (by omega)
        clear HI HV
        by_cases hg : i ≤ 12 ∧ 0 ≤ b ∧ b ≤ 262144
        · obtain ⟨e1, e2⟩ := HE2.out ⟨hall, by omega, hg.2⟩
          have HT2 := Lib.hid (fun j (hj : j < l.length) (w : World) => HT.out _ _ (aiAll_at hall hj) hg.2.1 hg.2.2 w)
          obtain ⟨g0, g1, g2⟩ := hg
          have HO := Lib.hid (aiBi_one l b)
          have HL := Lib.hid (fun n (hn : 0 < n) => aiBi_lt2 l b hn)
          rw [hN] at e1
          have HE := Lib.hid e1
          clear HE1 HE2 HT hall e1
          subst e2
          have hi0 : ((i : Int) == 0) = false := by simp; omega
          obtain ⟨wo, rfl⟩ : ∃ wo : World, wo = wr := ⟨_, rfl⟩
          go_wp2_with fail
          go_loopw [7, 8, 9, 10, 11, 12] (fun s7 s8 _ _ _ _ wr => ∃ j q : Nat, 1 ≤ j ∧ j ≤ i ∧ s8 = .int .i64 j ∧ s7 = .int .i64 q ∧ q < j ∧ Hid (aiBi l b j = q) ∧ Hid (Below w.heap.size w wr)) (fun _ s8 _ _ _ _ _ => i - (intOf s8).toNat)
          case atStart => exact ⟨1, 0, by omega, by omega, rfl, rfl, by omega, HO, HB⟩
          case round =>
            obtain ⟨j, q, hj1, hj2, rfl, rfl, hq, HQ, HX⟩ := hrel
            by_cases hjn : j < i
            · have hjn' : (j : Int) < i := by omega
              obtain ⟨c0, c1⟩ := HC.out wr HX.out j (by omega)
              have HCq := Lib.hid (fun W hw => HC.out W hw q (by omega))
              have HTj := Lib.hid (fun w => HT2.out j (by omega) w)
              have HTq := Lib.hid (fun w => HT2.out q (by omega) w)
              have hs := HS.out j
              rw [HQ.out, aiBt_at (show j < l.length by omega), aiBt_at (show q < l.length by omega)] at hs
              clear HT2 HC HS HQ HL HO HE
              generalize l[j]'(by omega) = r at *
              generalize l[q]'(by omega) = r2 at *
              obtain ⟨k, o⟩ := r
              obtain ⟨k2, o2⟩ := r2
              simp only at hs HTj HTq HCq c0 c1
              generalize aiZ k o b = z at *
              generalize aiZ k2 o2 b = z2 at *
              have hs := Lib.hid hs
              go_wp2_with fail
              (with_reducible refine (HTj.out _).mono ?_); rintro e w1 ⟨rfl, hb⟩
              have HX1 := Lib.hid (HX.out.trans (hb.mono HX.out.size))
              obtain ⟨d0, d1⟩ := HCq.out w1 HX1.out
              clear hb HTj c0 c1 HCq HX
              go_wp2_with fail
              (with_reducible refine (HTq.out _).mono ?_); rintro e w2 ⟨rfl, hb⟩
              have HX2 := Lib.hid (HX1.out.trans (hb.mono HX1.out.size))
              clear hb HTq d0 d1 HX1
              by_cases hz : z < z2
              · have HQ := hs.out
                rw [if_pos hz] at HQ
                have HQ := Lib.hid HQ
                clear hs
                go_wp2
                go_roundw
                case rel => exact ⟨j + 1, j, by omega, by omega, by go_num, rfl, by omega, HQ, HX2⟩
                case measure => simp [intOf]; omega
              · have HQ := hs.out
                rw [if_neg hz] at HQ
                have HQ := Lib.hid HQ
                clear hs
                go_wp2
                go_roundw
                case rel => exact ⟨j + 1, q, by omega, by omega, by go_num, rfl, by omega, HQ, HX2⟩
                case measure => simp [intOf]; omega
            · obtain rfl : j = i := by omega
              have hy := Lib.hid (show bv = q by rw [HE.out, HQ.out])
              clear HC HS HT2 HE
              go_wp2
              go_ret2
              exact ⟨by rw [hy.out]; rfl, HX.out⟩
        · obtain ⟨e1, e2⟩ := HE1.out (fun h => hg ⟨by omega, h.2.2⟩)
          subst e1 e2
          clear HE1 HE2 HS HT HC hall
          by_cases hg1 : 12 < i
          · have hg1' : (12 : Int) < i := by omega
            go_wp2
            go_ret2
            exact ⟨rfl, HB.out⟩
          · by_cases hb0 : b < 0
            · have hg1' : (i : Int) ≤ 12 := by omega
              go_wp2
              go_ret2
              exact ⟨rfl, HB.out⟩
            · have hg1' : (i : Int) ≤ 12 := by omega
              have hb1 : 262144 < b := by omega
              go_wp2
              go_ret2
              exact ⟨rfl, HB.out⟩
end Go.Proofs.Ytcefpkibglideaa

