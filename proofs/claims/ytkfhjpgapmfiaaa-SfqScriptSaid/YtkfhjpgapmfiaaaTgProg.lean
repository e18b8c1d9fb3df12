/-
  Layer 12: contract of the program's Rebase.
-/
import Derived.Test.YtkfhjpgapmfiaaaTgLst
import Derived.Test.YtkfhjpgapmfiaaaTgRef3
namespace Go.Proofs.Ytkfhjpgapmfiaaa
open Go.ChangeShapes Go.WideShapes Go.ChangeAt Go.RowKit
set_option linter.unusedVariables false

def tg0 : Tg := ⟨0, 0, 0⟩
theorem srs_zero3 : ∀ n, srs csT (List.replicate n tg0) = List.replicate (n * 3) (.int .i64 0)
  | 0 => rfl
  | n + 1 => by
    rw [List.replicate_succ, srs_cons, srs_zero3 n, show (n + 1) * 3 = n * 3 + 1 + 1 + 1 by omega, List.replicate_succ, List.replicate_succ, List.replicate_succ]; rfl
theorem made_zero3 (n : Nat) : (madeCells (Value.agg #[.int .i64 0, .int .i64 0, .int .i64 0]).cells (n * 3)).toList = srs csT (List.replicate n tg0) := by
  rw [srs_zero3]
  refine List.ext_getElem (by simp [madeCells]) fun i h1 h2 => ?_
  rw [List.getElem_replicate]
  simp [madeCells, Value.cells]
  rcases (by omega : i % 3 = 0 ∨ i % 3 = 1 ∨ i % 3 = 2) with h | h | h <;> rw [h] <;> rfl
/-- A row that has just been made, of zero tags. -/
theorem whole_made3 {w : World} {base g n : Nat} {t : TypeId} (hown : w.ownsRow base t 3 (.slice (some ⟨g, 0, none⟩) n n) n (madeCells (Value.agg #[.int .i64 0, .int .i64 0, .int .i64 0]).cells (n * 3)).toList) :
    Whole w g t (srs csT (List.replicate n tg0)).toArray := by
  rw [made_zero3 n] at hown
  rcases hown.2 with ⟨h2, _⟩ | ⟨g', cap', cur, hv, _, hh, hn, _, hc, htake⟩
  · simp at h2
  · simp only [Value.slice.injEq, Option.some.injEq, Addr.mk.injEq, and_true, true_and] at hv
    obtain ⟨rfl, rfl⟩ := hv
    have hl : cur.toList = srs csT (List.replicate n tg0) := by rw [← htake, List.take_of_length_le (by simp; omega)]
    rw [← hl]; exact hh
/-- A struct of three numbers stored. -/
def putT (w : World) (g o : Nat) (p : Tg) : World := ((w.setCell ⟨g, o, none⟩ (.int .i64 p.f)).setCell ⟨g, o + 1, none⟩ (.int .i64 p.w)).setCell ⟨g, o + 2, none⟩ (.int .i64 p.s)
theorem srs_put3 (M : List Tg) {k : Nat} (hk : k < M.length) (p : Tg) :
    (((srs csT M).set (k * 3) (.int .i64 p.f)).set (k * 3 + 1) (.int .i64 p.w)).set (k * 3 + 2) (.int .i64 p.s) = srs csT (M.set k p) := by
  have e0 := srs_set csT_len M k 0 hk ⟨p.f, M[k].w, M[k].s⟩ (.int .i64 p.f) (by omega) rfl
  have e1 := srs_set csT_len (M.set k ⟨p.f, M[k].w, M[k].s⟩) k 1 (by simpa using hk) ⟨p.f, p.w, M[k].s⟩ (.int .i64 p.w) (by omega) (by rw [List.getElem_set_self]; rfl)
  rw [List.set_set] at e1
  have e2 := srs_set csT_len (M.set k ⟨p.f, p.w, M[k].s⟩) k 2 (by simpa using hk) p (.int .i64 p.s) (by omega) (by rw [List.getElem_set_self]; rfl)
  rw [List.set_set] at e2
  rw [Nat.add_zero] at e0
  rw [e2, e1, e0]
theorem whole_putT {w : World} {g k : Nat} {t : TypeId} {M : List Tg} (h : Whole w g t (srs csT M).toArray) (hk : k < M.length) (p : Tg) : Whole (putT w g (k * 3) p) g t (srs csT (M.set k p)).toArray := by
  rw [← srs_put3 M hk p]
  have := ((h.put (k * 3) (.int .i64 p.f)).put (k * 3 + 1) (.int .i64 p.w)).put (k * 3 + 2) (.int .i64 p.s)
  simp only [List.setIfInBounds_toArray] at this
  exact this
theorem whole_tg {w : World} {g : Nat} {t : TypeId} {M : List Tg} (h : Whole w g t (srs csT M).toArray) {k : Nat} (hk : k < M.length) :
    w.cell? ⟨g, k * 3, none⟩ = some (.int .i64 M[k].f) ∧ w.cell? ⟨g, k * 3 + 1, none⟩ = some (.int .i64 M[k].w) ∧ w.cell? ⟨g, k * 3 + 2, none⟩ = some (.int .i64 M[k].s) := by
  have hc : ∀ j, j < 3 → w.cell? ⟨g, k * 3 + j, none⟩ = (csT M[k])[j]? := fun j hj => by
    rw [h.read, List.getElem?_toArray, srs_at csT_len M k j hk hj]
  exact ⟨hc 0 (by omega), hc 1 (by omega), hc 2 (by omega)⟩
theorem SrAt.whole3 {w : World} {g B : Nat} {t : TypeId} {M : List Tg} (h : Whole w g t (srs csT M).toArray) (hB : B ≤ g) : SrAt csT 3 w B w.heap.size (some ⟨g, 0, none⟩) M := fun i hi => by
  refine ⟨g, 0, rfl, hB, h.size_lt, fun k hk => ?_⟩
  rw [Nat.zero_add, h.read, List.getElem?_toArray, srs_at csT_len M i k hi hk]
/-- The row half filled. -/
def halfT (L : List Tg) (b : Int) (k : Nat) : List Tg := (L.take k).map (subT b) ++ List.replicate (L.length - k) tg0
theorem half_len {L : List Tg} {b : Int} {k : Nat} (hk : k ≤ L.length) : (halfT L b k).length = L.length := by
  unfold halfT; simp; omega
theorem half_next {L : List Tg} {b : Int} {k : Nat} (hk : k < L.length) : (halfT L b k).set k (subT b L[k]) = halfT L b (k + 1) := by
  unfold halfT
  have hl : ((L.take k).map (subT b)).length = k := by simp; omega
  rw [List.set_append_right _ _ (by omega), hl, Nat.sub_self, map_take hk, show L.length - k = (L.length - (k + 1)) + 1 by omega, List.replicate_succ, List.set_cons_zero, List.append_assoc]; rfl
theorem half_all {L : List Tg} {b : Int} : halfT L b L.length = L.map (subT b) := by
  unfold halfT; simp
theorem half_none {L : List Tg} {b : Int} : halfT L b 0 = List.replicate L.length tg0 := by
  unfold halfT; simp
set_option maxRecDepth 100000 in
set_option maxHeartbeats 8000000 in
theorem rebaseT_any (A : Option Addr) (c : Nat) (L : List Tg) (L1 B1 : Nat) (b : Int) (w : World) (hB1 : B1 ≤ w.heap.size) (hn : L.length ≤ 100000) (ha : SrAt csT 3 w L1 B1 A L) :
    Calls Try.prog 52 #[.slice A L.length c, .int .i64 b] w (GotTE (rbL L b) (rbE L b) w) := by
  have HV := validT_any A c L L1 B1 w hB1 hn ha
  have HA := Lib.hid (fun k (hk : k < L.length) => ha.tg hk)
  unfold Calm at HV
  clear ha
  rcases Int.lt_or_le b 0 with hb | hb
  · obtain ⟨g1, g2⟩ := rb_1 (L := L) (b := b) (fun h => by omega)
    rw [g1, g2]
    have HNIL := Lib.hid (fun w' hb => got_nil 1 (w := w) (w' := w') hb)
    clear g1 g2 HA HV
    go_enter Try.func52, Try.ntmps52
    go_wp2
    go_ret2
    exact HNIL.out w (Below.refl _ _)
  cases hv : vaB L
  · obtain ⟨g1, g2⟩ := rb_1 (L := L) (b := b) (fun h => by rw [hv] at h; cases h.1)
    rw [hv] at HV
    rw [g1, g2]
    have HV := Lib.hid HV
    have HNIL := Lib.hid (fun w' hb => got_nil 1 (w := w) (w' := w') hb)
    clear g1 g2 HA hv
    go_enter Try.func52, Try.ntmps52
    go_wp2_with fail
    (with_reducible refine HV.out.mono ?_); rintro e w1 ⟨rfl, hd⟩
    have HF := Lib.hid (HNIL.out w1 hd)
    clear hd HNIL
    go_wp2
    go_ret2
    exact HF.out
  rw [hv] at HV
  have HV := Lib.hid HV
  have HP := Lib.hid (va_yes hv)
  have hfew := HP.out.few
  have HE2 := Lib.hid (fun i (hi : i < L.length) h => rb_2 hv hb hi h)
  have HE0 := Lib.hid (fun h => rb_0 hv hb h)
  clear hv
  obtain ⟨v, hvv⟩ : ∃ v, rbE L b = v := ⟨_, rfl⟩
  obtain ⟨R, hR⟩ : ∃ R, rbL L b = R := ⟨_, rfl⟩
  rw [hvv, hR] at HE2 HE0 ⊢
  clear hvv hR
  obtain ⟨i0, hii, hz0, hz1, hz2⟩ := info_parts info_tg
  unfold GotTE
  go_enter Try.func52, Try.ntmps52
  go_wp2_with fail
  (with_reducible refine HV.out.mono ?_); rintro e w1 ⟨rfl, hd⟩
  have HW1 := Lib.hid hd
  have hws1 := hd.size
  clear hd HV
  go_wp2_with (at_make; refine wpList_make_full _ rfl _ _ 49 rfl w1.heap.size 52 i0 _ 3 Try.underlying49 hii hz0 hz1 .i64 .i64 _ _ L.length rfl rfl rfl rfl (by rw [hz2]; omega) (by unfold maxLen; omega) (Nat.le_refl _) ?_; intro w3 hown hg; have HO := Lib.hid hown; have HG := Lib.hid hg; clear hown hg hii hz0 hz1 hz2)
  have HR0 := Lib.hid (whole_made3 HO.out)
  have HB0 := Lib.hid (HW1.out.grown HG.out (by omega) (by intro k hk; cases hk))
  clear HO HG
  rw [← half_none (b := b)] at HR0
  have HSET := Lib.hid (fun k (hk : k < L.length) => half_next (b := b) hk)
  have HLEN := Lib.hid (fun k (hk : k ≤ L.length) => half_len (b := b) hk)
  have HALL := Lib.hid (half_all (L := L) (b := b))
  go_wp2_with fail
  go_loopw [21] (fun s21 wr => ∃ k : Nat, k ≤ L.length ∧ s21 = .int .i64 k ∧ Hid (Whole wr w1.heap.size 52 (srs csT (halfT L b k)).toArray) ∧ Hid (∀ i (hi : i < L.length), i < k → b ≤ L[i].s) ∧ Hid (Below w.heap.size w wr)) (fun s21 _ => L.length - (intOf s21).toNat)
  case atStart => exact ⟨0, Nat.zero_le _, rfl, HR0, Lib.hid (fun i _ hi => by omega), HB0⟩
  case round =>
    obtain ⟨k, hk, rfl, HR, HK, HW⟩ := hrel
    by_cases hlt : k < L.length
    · have hlt' : (k : Int) < L.length := by omega
      obtain ⟨bb, off, rfl, _, hbB, e0, e1, e2⟩ := HA.out k hlt
      have hbw : bb < w.heap.size := by omega
      have hws := HW.out.size
      have hval := (HP.out.at_ hlt).2.2
      have h2 := HE2.out k hlt
      have hset := HSET.out k hlt
      have hlen := HLEN.out k hk
      have hrl := HR.out.size_lt
      obtain ⟨f, hf⟩ : ∃ f, L[k].f = f := ⟨_, rfl⟩
      obtain ⟨wt, hwt⟩ : ∃ wt, L[k].w = wt := ⟨_, rfl⟩
      obtain ⟨s, hs⟩ : ∃ s, L[k].s = s := ⟨_, rfl⟩
      have hsub : subT b L[k] = ⟨f, wt, s - b⟩ := by unfold subT; rw [hf, hwt, hs]
      rw [hf] at e0
      rw [hwt] at e1
      rw [hs] at e2 hval h2
      rw [hsub] at hset
      have d0 : wr.cell? ⟨bb, off + k * 3, none⟩ = some (.int .i64 f) := (HW.out.cell (p := ⟨bb, off + k * 3, none⟩) hbw).trans e0
      have d1 : wr.cell? ⟨bb, off + k * 3 + 1, none⟩ = some (.int .i64 wt) := (HW.out.cell (p := ⟨bb, off + k * 3 + 1, none⟩) hbw).trans e1
      have d2 : wr.cell? ⟨bb, off + k * 3 + 2, none⟩ = some (.int .i64 s) := (HW.out.cell (p := ⟨bb, off + k * 3 + 2, none⟩) hbw).trans e2
      by_cases hsb : s < b
      · obtain ⟨g1, g2⟩ := h2 hsb
        have HF := Lib.hid (show ∃ A c, Ending.returned (.tuple #[.slice none 0 0, .int .i64 2]) = .returned (.tuple #[.slice A R.length c, .int .i64 v]) ∧ SrAt csT 3 (wr.alloc (.cells #[.int .i64 f, .int .i64 wt, .int .i64 s] 52)) w.heap.size (wr.alloc (.cells #[.int .i64 f, .int .i64 wt, .int .i64 s] 52)).heap.size A R ∧ Below w.heap.size w (wr.alloc (.cells #[.int .i64 f, .int .i64 wt, .int .i64 s] 52)) from by rw [g1, g2]; exact ⟨none, 0, rfl, SrAt.nil, HW.out.alloc hws _⟩)
        clear g1 g2 h2 hf hwt hs hsub hset hlen HK HR HA e0 e1 e2 HSET HLEN HALL
        go_wp2
        go_ret2
        exact HF.out
      · have HK2 : Hid (∀ i (hi : i < L.length), i < k + 1 → b ≤ L[i].s) := Lib.hid (fun i hi hik => by
          rcases (by omega : i < k ∨ i = k) with h | rfl
          · exact HK.out i hi h
          · rw [hs]; omega)
        have hw1 : IntKind.i64.wrap (s - b) = s - b := IntWalk.i64_in _ (by omega)
        have hkl : k < (halfT L b k).length := by omega
        have hfr := HR.out.free
        obtain ⟨r0, r1, r2⟩ := whole_tg HR.out hkl
        have hwh := whole_putT HR.out hkl ⟨f, wt, s - b⟩
        rw [hset] at hwh
        have HWH := Lib.hid (hwh.alloc (.cells #[.int .i64 f, .int .i64 wt, .int .i64 (s - b)] 52))
        have HB2 := Lib.hid ((((HW.out.setCell (p := ⟨w1.heap.size, k * 3, none⟩) hws1 (.int .i64 f)).setCell (p := ⟨w1.heap.size, k * 3 + 1, none⟩) hws1 (.int .i64 wt)).setCell (p := ⟨w1.heap.size, k * 3 + 2, none⟩) hws1 (.int .i64 (s - b))).alloc (by simpa [World.setCell] using hws) (.cells #[.int .i64 f, .int .i64 wt, .int .i64 (s - b)] 52))
        clear hwh
        generalize (halfT L b k)[k] = z at *
        obtain ⟨z0, z1, z2⟩ := z
        simp only at r0 r1 r2
        clear h2 hf hwt hs hsub hset hlen HK HA HP e0 e1 e2 HSET HLEN
        go_wp2_with fail
        go_roundw
        case rel => exact ⟨k + 1, by omega, by go_num, HWH, HK2, HB2⟩
        case measure => simp [intOf]; omega
    · obtain rfl : k = L.length := by omega
      obtain ⟨g1, g2⟩ := HE0.out (fun i hi => HK.out i hi hi)
      have hr := HR.out
      rw [HALL.out] at hr
      have HF := Lib.hid (show ∃ A c, Ending.returned (.tuple #[.slice (some ⟨w1.heap.size, 0, none⟩) L.length L.length, .int .i64 0]) = .returned (.tuple #[.slice A R.length c, .int .i64 v]) ∧ SrAt csT 3 wr w.heap.size wr.heap.size A R ∧ Below w.heap.size w wr from by rw [g1, g2]; exact ⟨some ⟨w1.heap.size, 0, none⟩, L.length, by simp, (SrAt.whole3 hr (Nat.le_refl _)).wider hws1 (Nat.le_refl _), HW.out⟩)
      clear g1 g2 hr HR HK HW HALL HSET HLEN
      go_wp2
      go_ret2
      exact HF.out
end Go.Proofs.Ytkfhjpgapmfiaaa

