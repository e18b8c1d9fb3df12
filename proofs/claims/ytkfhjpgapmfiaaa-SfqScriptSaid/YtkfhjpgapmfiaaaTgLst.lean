/-
  Layer 12: contracts of the program's Valid, Least.
-/
import Derived.Test.YtkfhjpgapmfiaaaTgNorm
import Derived.Test.YtkfhjpgapmfiaaaTgRef2
namespace Go.Proofs.Ytkfhjpgapmfiaaa
open Go.ChangeShapes Go.WideShapes Go.ChangeAt Go.RowKit
set_option linter.unusedVariables false

/-- The flow before place k, -1 before the first. -/
def pvF (L : List Tg) : Nat → Int
  | 0 => -1
  | k + 1 => (L.getD k ⟨0, 0, 0⟩).f
theorem pv_next {L : List Tg} {k : Nat} (hk : k < L.length) : pvF L (k + 1) = L[k].f := by
  show (L.getD k ⟨0, 0, 0⟩).f = _
  rw [List.getD_eq_getElem?_getD, List.getElem?_eq_getElem hk]; rfl
theorem ok_iff {L : List Tg} {k : Nat} (hk : k < L.length) (H : ∀ i, i < k → OkAt L i) :
    (pvF L k < L[k].f ∧ L[k].f < 32 ∧ (1 ≤ L[k].w ∧ L[k].w ≤ 16) ∧ (0 ≤ L[k].s ∧ L[k].s ≤ 1099511627776)) ↔ OkAt L k := by
  rcases Nat.eq_zero_or_pos k with h0 | h0
  · subst h0
    constructor
    · rintro ⟨h1, h2, h3, h4⟩ h
      have h1 : (-1 : Int) < L[0].f := h1
      exact ⟨⟨by omega, h2⟩, (fun h0 => by omega), h3, h4⟩
    · intro h
      obtain ⟨⟨h1, h2⟩, _, h3, h4⟩ := h hk
      refine ⟨?_, h2, h3, h4⟩
      show (-1 : Int) < L[0].f
      omega
  · obtain ⟨m, rfl⟩ : ∃ m, k = m + 1 := ⟨k - 1, by omega⟩
    rw [pv_next (by omega)]
    constructor
    · rintro ⟨h1, h2, h3, h4⟩ h
      obtain ⟨⟨g1, _⟩, _⟩ := H m (by omega) (by omega)
      exact ⟨⟨by omega, h2⟩, (fun h0 => h1), h3, h4⟩
    · intro h
      obtain ⟨⟨h1, h2⟩, h5, h3, h4⟩ := h hk
      exact ⟨h5 (by omega), h2, h3, h4⟩
theorem ok_no2 {L : List Tg} {k : Nat} (hk : k < L.length) (H : ∀ i, i < k → OkAt L i) (h : ¬ (pvF L k < L[k].f ∧ L[k].f < 32 ∧ (1 ≤ L[k].w ∧ L[k].w ≤ 16) ∧ (0 ≤ L[k].s ∧ L[k].s ≤ 1099511627776))) : vaB L = false :=
  va_false fun h2 => h ((ok_iff hk H).2 h2)
set_option maxRecDepth 100000 in
set_option maxHeartbeats 8000000 in
theorem validT_any (A : Option Addr) (c : Nat) (L : List Tg) (L1 B1 : Nat) (w : World) (hB1 : B1 ≤ w.heap.size) (hn : L.length ≤ 100000) (ha : SrAt csT 3 w L1 B1 A L) :
    Calls Try.prog 48 #[.slice A L.length c] w (Calm (.bool (vaB L)) w) := by
  have HA := Lib.hid (fun k (hk : k < L.length) => ha.tg hk)
  have HG := Lib.hid (fun x w => pweight_any x w)
  have HS := Lib.hid (fun x w => pstart_any x w)
  have HNO := Lib.hid (fun k (hk : k < L.length) (H : ∀ i, i < k → OkAt L i) => ok_no2 hk H)
  have HOK := Lib.hid (fun k (hk : k < L.length) (H : ∀ i, i < k → OkAt L i) => fun h => ok_more H ((ok_iff hk H).1 h))
  have HYES := Lib.hid (fun (h : ∀ i, i < L.length → OkAt L i) => va_true (va_of_lt h))
  have HPV := Lib.hid (fun k (hk : k < L.length) => pv_next hk)
  clear ha
  unfold Calm
  go_enter Try.func48, Try.ntmps48
  go_wp2
  go_loopw [3, 8] (fun s3 s8 wr => ∃ (k : Nat) (y : Int), k ≤ L.length ∧ s8 = .int .i64 k ∧ s3 = .int .i64 y ∧ Hid (pvF L k = y) ∧ Hid (∀ i, i < k → OkAt L i) ∧ Hid (Below w.heap.size w wr)) (fun s3 s8 _ => L.length - (intOf s8).toNat)
  case atStart => exact ⟨0, -1, Nat.zero_le _, rfl, rfl, Lib.hid rfl, Lib.hid (fun i hi => by omega), Lib.hid (Below.refl _ _)⟩
  case round =>
    obtain ⟨k, y, hk, rfl, rfl, HY, HK, HD⟩ := hrel
    by_cases hlt : k < L.length
    · have hlt' : (k : Int) < L.length := by omega
      obtain ⟨bb, off, rfl, _, hbb, e0, e1, e2⟩ := HA.out k hlt
      have HN := HNO.out k hlt HK.out
      have HO := HOK.out k hlt HK.out
      have hpv := HPV.out k hlt
      rw [HY.out] at HN HO
      obtain ⟨f, hf⟩ : ∃ f, L[k].f = f := ⟨_, rfl⟩
      obtain ⟨wt, hwt⟩ : ∃ wt, L[k].w = wt := ⟨_, rfl⟩
      obtain ⟨s, hs⟩ : ∃ s, L[k].s = s := ⟨_, rfl⟩
      rw [hf] at e0 hpv
      rw [hwt] at e1
      rw [hs] at e2
      rw [hf, hwt, hs] at HN HO
      have hbw : bb < w.heap.size := by omega
      have hws := HD.out.size
      have d0 : wr.cell? ⟨bb, off + k * 3, none⟩ = some (.int .i64 f) := (HD.out.cell (p := ⟨bb, off + k * 3, none⟩) hbw).trans e0
      have d1 : wr.cell? ⟨bb, off + k * 3 + 1, none⟩ = some (.int .i64 wt) := (HD.out.cell (p := ⟨bb, off + k * 3 + 1, none⟩) hbw).trans e1
      have d2 : wr.cell? ⟨bb, off + k * 3 + 2, none⟩ = some (.int .i64 s) := (HD.out.cell (p := ⟨bb, off + k * 3 + 2, none⟩) hbw).trans e2
      have HD2 := Lib.hid (HD.out.alloc hws (.cells #[.int .i64 f, .int .i64 wt, .int .i64 s] 52))
      have HP2 := Lib.hid hpv
      have HN := Lib.hid HN
      have HO := Lib.hid HO
      clear hf hwt hs HA HNO HOK HPV HYES HK HY e0 e1 e2 hpv
      have HGk := HG.out wt
      have HSk := HS.out s
      rcases (by omega : f ≤ y ∨ (y < f ∧ 32 ≤ f) ∨ (y < f ∧ f < 32 ∧ ¬ (1 ≤ wt ∧ wt ≤ 16)) ∨ (y < f ∧ f < 32 ∧ (1 ≤ wt ∧ wt ≤ 16) ∧ ¬ (0 ≤ s ∧ s ≤ 1099511627776)) ∨ (y < f ∧ f < 32 ∧ (1 ≤ wt ∧ wt ≤ 16) ∧ (0 ≤ s ∧ s ≤ 1099511627776))) with h | h | h | h | h
      · have HV := Lib.hid (HN.out (by omega))
        clear HN HO HGk HSk
        go_wp2
        go_ret
        exact ⟨ret_bool HV.out.symm, HD2.out⟩
      · have HV := Lib.hid (HN.out (by omega))
        clear HN HO HGk HSk
        obtain ⟨h1, h2⟩ := h
        go_wp2
        go_ret
        exact ⟨ret_bool HV.out.symm, HD2.out⟩
      · have HV := Lib.hid (HN.out (by omega))
        obtain ⟨h1, h2, h3⟩ := h
        rw [wt_not h3] at HGk
        have HGk := Lib.hid HGk
        clear HN HO HSk h3
        go_wp2_with fail
        (with_reducible refine (HGk.out _).mono ?_); rintro e w' ⟨rfl, rfl⟩
        go_wp2
        go_ret
        exact ⟨ret_bool HV.out.symm, HD2.out⟩
      · have HV := Lib.hid (HN.out (by omega))
        obtain ⟨h1, h2, h3, h4⟩ := h
        rw [wt_of h3] at HGk
        rw [st_not h4] at HSk
        have HGk := Lib.hid HGk
        have HSk := Lib.hid HSk
        clear HN HO h3 h4
        go_wp2_with fail
        (with_reducible refine (HGk.out _).mono ?_); rintro e w' ⟨rfl, rfl⟩
        go_wp2_with fail
        (with_reducible refine (HSk.out _).mono ?_); rintro e w' ⟨rfl, rfl⟩
        go_wp2
        go_ret
        exact ⟨ret_bool HV.out.symm, HD2.out⟩
      · have HK2 := Lib.hid (HO.out h)
        obtain ⟨h1, h2, h3, h4⟩ := h
        rw [wt_of h3] at HGk
        rw [st_of h4] at HSk
        have HGk := Lib.hid HGk
        have HSk := Lib.hid HSk
        clear HN HO h3 h4
        go_wp2_with fail
        (with_reducible refine (HGk.out _).mono ?_); rintro e w' ⟨rfl, rfl⟩
        go_wp2_with fail
        (with_reducible refine (HSk.out _).mono ?_); rintro e w' ⟨rfl, rfl⟩
        go_wp2
        go_roundw
        case rel => exact ⟨k + 1, f, by omega, by go_num, rfl, HP2, HK2, HD2⟩
        case measure => simp [intOf]; omega
    · obtain rfl : k = L.length := by omega
      have HV := Lib.hid (HYES.out HK.out)
      clear HK HA HNO HYES HOK HPV HY
      go_wp2
      go_ret
      exact ⟨ret_bool HV.out.symm, HD.out⟩
set_option maxRecDepth 100000 in
set_option maxHeartbeats 4000000 in
theorem leastT_any (A : Option Addr) (c : Nat) (L : List Tg) (L1 B1 : Nat) (w : World) (hB1 : B1 ≤ w.heap.size) (hn : L.length ≤ 100000) (ha : SrAt csT 3 w L1 B1 A L) :
    Calls Try.prog 49 #[.slice A L.length c] w (Calm (.int .i64 (ltI L)) w) := by
  have HV := validT_any A c L L1 B1 w hB1 hn ha
  have HA := Lib.hid (fun k (hk : k < L.length) => ha.tg hk)
  clear ha
  unfold Calm at HV ⊢
  rcases Nat.eq_zero_or_pos L.length with h0 | h0
  · rw [lt_no (fun h => by omega)]
    obtain rfl : L = [] := List.eq_nil_of_length_eq_zero h0
    simp only [List.length_nil]
    clear HA h0 HV
    go_enter Try.func49, Try.ntmps49
    go_wp2
    go_ret
    exact ⟨rfl, Below.refl _ _⟩
  have hlen0 : ((L.length : Int) == 0) = false := beq_eq_false_iff_ne.2 (by omega)
  have hlen1 : ((L.length == 0) : Bool) = false := beq_eq_false_iff_ne.2 (by omega)
  cases hv : vaB L
  · rw [hv] at HV
    have HV := Lib.hid HV
    rw [lt_no (fun h => by rw [hv] at h; cases h.1)]
    clear hv HA
    go_enter Try.func49, Try.ntmps49
    go_wp2_with fail
    (with_reducible refine HV.out.mono ?_); rintro e w' ⟨rfl, hd⟩
    have HD := Lib.hid hd
    clear hd
    go_wp2
    go_ret
    exact ⟨rfl, HD.out⟩
  · rw [hv] at HV
    have HV := Lib.hid HV
    rw [lt_yes hv h0]
    have HS := Lib.hid (fun i (hi : i < L.length) => (stF_at hi).symm)
    have HM := Lib.hid (fun i (hi : 0 < i) => mI_lt (stF L) i hi)
    have HN := Lib.hid (fun n => (show mI (stF L) (n + 1) = if stF L n < stF L (mI (stF L) n) then n else mI (stF L) n from rfl))
    clear hv
    go_enter Try.func49, Try.ntmps49
    go_wp2_with fail
    (with_reducible refine HV.out.mono ?_); rintro e w0 ⟨rfl, hd0⟩
    have HD0 := Lib.hid hd0
    clear hd0
    go_wp2_with fail
    go_loopw [3, 16] (fun s3 s16 wr => ∃ i m : Nat, i ≤ L.length ∧ s16 = .int .i64 i ∧ s3 = .int .i64 m ∧ Hid (m = mI (stF L) i) ∧ Hid (Below w.heap.size w wr)) (fun s3 s16 _ => L.length - (intOf s16).toNat)
    case atStart => exact ⟨0, 0, by omega, rfl, rfl, Lib.hid rfl, HD0⟩
    case round =>
      obtain ⟨i, m, hi, rfl, rfl, hm, HD⟩ := hrel
      by_cases hlt : i < L.length
      · have hlt' : (i : Int) < L.length := by omega
        have hml : m < L.length := by
          rcases Nat.eq_zero_or_pos i with h | h
          · subst h; have := hm.out; have e : mI (stF L) 0 = 0 := rfl; omega
          · have := HM.out i h; rw [← hm.out] at this; omega
        have hml' : (m : Int) < L.length := by omega
        obtain ⟨bb, off, rfl, _, hbb, e0, e1, e2⟩ := HA.out i hlt
        obtain ⟨bb', off', hA', _, _, g0, g1, g2⟩ := HA.out m hml
        obtain ⟨rfl, rfl⟩ : bb = bb' ∧ off = off' := by simpa using hA'
        rw [HS.out i hlt] at e2
        rw [HS.out m hml] at g2
        have hbw : bb < w.heap.size := by omega
        have hws := HD.out.size
        have hnext := HN.out i
        rw [← hm.out] at hnext
        have HNX := Lib.hid hnext
        obtain ⟨f, hf⟩ : ∃ f, L[i].f = f := ⟨_, rfl⟩
        obtain ⟨wt, hwt⟩ : ∃ wt, L[i].w = wt := ⟨_, rfl⟩
        obtain ⟨x, hx⟩ : ∃ x, stF L i = x := ⟨_, rfl⟩
        obtain ⟨y, hy⟩ : ∃ y, stF L m = y := ⟨_, rfl⟩
        rw [hf] at e0
        rw [hwt] at e1
        rw [hx] at e2
        rw [hy] at g2
        rw [hx, hy] at HNX
        have d0 : wr.cell? ⟨bb, off + i * 3, none⟩ = some (.int .i64 f) := (HD.out.cell (p := ⟨bb, off + i * 3, none⟩) hbw).trans e0
        have d1 : wr.cell? ⟨bb, off + i * 3 + 1, none⟩ = some (.int .i64 wt) := (HD.out.cell (p := ⟨bb, off + i * 3 + 1, none⟩) hbw).trans e1
        have d2 : wr.cell? ⟨bb, off + i * 3 + 2, none⟩ = some (.int .i64 x) := (HD.out.cell (p := ⟨bb, off + i * 3 + 2, none⟩) hbw).trans e2
        have d3 : (wr.alloc (.cells #[.int .i64 f, .int .i64 wt, .int .i64 x] 52)).cell? ⟨bb, off + m * 3 + 2, none⟩ = some (.int .i64 y) := ((HD.out.alloc hws (.cells #[.int .i64 f, .int .i64 wt, .int .i64 x] 52)).cell (p := ⟨bb, off + m * 3 + 2, none⟩) hbw).trans g2
        have HD2 := Lib.hid (HD.out.alloc hws (.cells #[.int .i64 f, .int .i64 wt, .int .i64 x] 52))
        clear hA' hnext hx hy hf hwt hm HA HS HM HN e0 e1 e2 g0 g1 g2 HD0
        by_cases hxy : x < y
        · have HM2 : Hid (i = mI (stF L) (i + 1)) := Lib.hid (by rw [HNX.out, if_pos hxy])
          clear HNX
          go_wp2_with fail
          go_quiet (fail)
          go_wp2
          go_roundw
          case rel => exact ⟨i + 1, i, by omega, by go_num, rfl, HM2, Lib.hid (Below_drewN HD2.out _)⟩
          case measure => simp [intOf]; omega
        · have HM2 : Hid (m = mI (stF L) (i + 1)) := Lib.hid (by rw [HNX.out, if_neg hxy])
          clear HNX
          go_wp2_with fail
          go_quiet (fail)
          go_wp2
          go_roundw
          case rel => exact ⟨i + 1, m, by omega, by go_num, rfl, HM2, Lib.hid (Below_drewN HD2.out _)⟩
          case measure => simp [intOf]; omega
      · obtain rfl : i = L.length := by omega
        have HF : Hid ((m : Int) = (mI (stF L) L.length : Nat)) := Lib.hid (by rw [hm.out])
        clear hm
        go_wp2
        go_ret
        exact ⟨ret_int HF.out, HD.out⟩
end Go.Proofs.Ytkfhjpgapmfiaaa

