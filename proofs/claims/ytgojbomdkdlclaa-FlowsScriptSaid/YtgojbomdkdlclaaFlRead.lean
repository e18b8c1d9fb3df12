/-
  Layer 10: contracts of the program's calls that only read numbers: isWeight, isBound, hasStation, hasFlow, Total, admits; of the reference's goodWeight and goodCaps.
-/
import Derived.Test.YtgojbomdkdlclaaFlObj
import Derived.Deep.LoopGhost
import Derived.Deep.QuietTactic
import Derived.BigQuiet
import Derived.Deep.RegionHeld3
namespace Go.Proofs.Ytgojbomdkdlclaa
open Go.ChangeShapes Go.WideShapes Go.ChangeAt Go.RowKit
set_option linter.unusedVariables false

theorem two_no {a b : Bool} (h : a = false) : false = (a && b) := by rw [h]; rfl
theorem two_last {a b : Bool} (h : a = true) : b = (a && b) := by rw [h]; rfl
theorem isWeight_any (x : Int) (w : World) : Calls Try.prog 43 #[.int .i64 x] w fun e w' => e = .returned (.bool (gwB x)) ∧ w = w' := by
  unfold gwB
  by_cases h : 1 ≤ x
  · go_enter Try.func43, Try.ntmps43
    go_wp2
    go_ret
    exact ⟨ret_bool (two_last (decide_eq_true h)), rfl⟩
  · go_enter Try.func43, Try.ntmps43
    go_wp2
    go_ret
    exact ⟨ret_bool (two_no (decide_eq_false (by omega))), rfl⟩
theorem goodWeight_any (x : Int) (w : World) : Calls Try.prog 49 #[.int .i64 x] w fun e w' => e = .returned (.bool (gwB x)) ∧ w = w' := by
  unfold gwB
  by_cases h : 1 ≤ x
  · go_enter Try.func49, Try.ntmps49
    go_wp2
    go_ret
    exact ⟨ret_bool (two_last (decide_eq_true h)), rfl⟩
  · go_enter Try.func49, Try.ntmps49
    go_wp2
    go_ret
    exact ⟨ret_bool (two_no (decide_eq_false (by omega))), rfl⟩
def bdB (x : Int) : Bool := decide (0 ≤ x) && decide (x ≤ 1099511627776)
theorem isBound_any (x : Int) (w : World) : Calls Try.prog 51 #[.int .i64 x] w fun e w' => e = .returned (.bool (bdB x)) ∧ w = w' := by
  unfold bdB
  by_cases h : 0 ≤ x
  · go_enter Try.func51, Try.ntmps51
    go_wp2
    go_ret
    exact ⟨ret_bool (two_last (decide_eq_true h)), rfl⟩
  · go_enter Try.func51, Try.ntmps51
    go_wp2
    go_ret
    exact ⟨ret_bool (two_no (decide_eq_false (by omega))), rfl⟩
/-- A station's number. -/
def hsB (t : Tb) (s : Int) : Bool := decide (0 ≤ s) && decide (s < t.S.length)
theorem hasStation_any {C H : Nat} {S : Nat → Prop} {t : Tb} {w : World} (h : PO C H S t w) (s : Int) :
    Calls Try.prog 45 #[.pointer (some ⟨H, 0, none⟩), .int .i64 s] w fun e w' => e = .returned (.bool (hsB t s)) ∧ w = w' := by
  obtain ⟨h0, ⟨vS, vF, mb, h1, _⟩, _⟩ := h
  obtain ⟨c0, c1, c2, c3, c4, _⟩ := h1.cells
  obtain ⟨A, c, rfl⟩ := ow_shape h1.rowS
  have hf := h0.few
  clear h1 h0 c0 c1 c3 c4
  unfold hsB
  by_cases h : 0 ≤ s
  · go_enter Try.func45, Try.ntmps45
    go_wp2
    go_ret
    exact ⟨ret_bool (two_last (decide_eq_true h)), rfl⟩
  · go_enter Try.func45, Try.ntmps45
    go_wp2
    go_ret
    exact ⟨ret_bool (two_no (decide_eq_false (by omega))), rfl⟩
/-- A flow that the program holds, in memory. -/
theorem PW.flow {w : World} {C H mb : Nat} {t : Tb} {vS vF : Value} (h : PW w C H mb t vS vF) (h0 : TbOk t) {k : Nat} (hk : k < t.F.length) :
    ∃ g c, vF = .slice (some ⟨g, 0, none⟩) t.F.length c ∧ C ≤ g ∧ g < w.heap.size ∧ (∀ j, j < 7 → w.cell? ⟨g, k * 7 + j, none⟩ = (csF (goneF t.F[k] (t.G[k]'(by have := h0.len; omega))))[j]?) ∧ ∀ o, w.frozen? ⟨g, o, none⟩ = false := by
  obtain ⟨g, c, rfl, h1, h2⟩ := ow_at h.rowF (by omega)
  have hr := h.rowF
  refine ⟨g, c, rfl, h1, h2, fun j hj => ?_, fun o => hr.frozenAt o⟩
  have hkp : k < (pfl t.F t.G).length := by rw [pfl_len h0.len]; exact hk
  rw [hr.cellAt (k * 7 + j) (by omega), srs_at csF_len _ k j hkp hj, pfl_at h0.len hk]
theorem thr_neg {F : List Flo} {G : List Bool} {f : Int} (h : ¬ (0 ≤ f ∧ f < F.length)) : thrB F G f = false := by
  unfold thrB
  rcases Bool.eq_false_or_eq_true (decide (0 ≤ f) && decide (f < F.length)) with h1 | h1
  · simp only [Bool.and_eq_true, decide_eq_true_eq] at h1; exact absurd h1 h
  · rw [h1]; rfl
theorem hasFlow_any {C H : Nat} {S : Nat → Prop} {t : Tb} {w : World} (h : PO C H S t w) (f : Int) :
    Calls Try.prog 47 #[.pointer (some ⟨H, 0, none⟩), .int .i64 f] w fun e w' => e = .returned (.bool (thrB t.F t.G f)) ∧ w = w' := by
  obtain ⟨h0, ⟨vS, vF, mb, h1, _⟩, _⟩ := h
  obtain ⟨c0, c1, c2, c3, c4, _⟩ := h1.cells
  have hf := h0.few
  by_cases hr : 0 ≤ f ∧ f < t.F.length
  · obtain ⟨k, rfl⟩ := Int.eq_ofNat_of_zero_le hr.1
    have hk : k < t.F.length := by omega
    obtain ⟨g, c, rfl, hg1, hg2, hc, _⟩ := h1.flow h0 hk
    have e2 : w.cell? ⟨g, k * 7 + 2, none⟩ = some (.int .i64 (goneF t.F[k] (t.G[k]'(by have := h0.len; omega))).w) := hc 2 (by omega)
    rw [thr_nat h0.len hk]
    have hw := gone_w h0 hk
    generalize (goneF t.F[k] (t.G[k]'(by have := h0.len; omega))) = q at *
    generalize (t.G[k]'(by have := h0.len; omega)) = b at *
    generalize q.w = x at *
    clear h1 hc h0 c0 c1 c2 c4
    cases b
    · have hz : (x != 0) = true := by simpa using hw
      clear hw
      go_enter Try.func47, Try.ntmps47
      go_wp2
      go_ret
      exact ⟨rfl, rfl⟩
    · obtain rfl : x = 0 := by simpa using hw
      clear hw
      go_enter Try.func47, Try.ntmps47
      go_wp2
      go_ret
      exact ⟨rfl, rfl⟩
  · rw [thr_neg hr]
    obtain ⟨A, c, rfl⟩ := ow_shape h1.rowF
    clear h1 h0 c0 c1 c2 c4
    by_cases h : 0 ≤ f
    · have h' : ¬ f < t.F.length := by omega
      go_enter Try.func47, Try.ntmps47
      go_wp2
      go_ret
      exact ⟨rfl, rfl⟩
    · go_enter Try.func47, Try.ntmps47
      go_wp2
      go_ret
      exact ⟨rfl, rfl⟩
/-- Bounds of a table's numbers, for the walks. -/
theorem TbOk.sums {t : Tb} (h : TbOk t) : 0 ≤ t.tot ∧ t.tot ≤ 512 := by
  have h1 := tot_bounds t.F t.G h.fls
  have h2 := h.few
  have h3 := h.tot
  have h4 := h.cap
  unfold Tb.tot at *
  omega
set_option maxHeartbeats 1000000 in
theorem total_any {C H : Nat} {S : Nat → Prop} {t : Tb} {w : World} (h : PO C H S t w) :
    Calls Try.prog 15 #[.pointer (some ⟨H, 0, none⟩)] w (Quiet (.int .i64 t.tot) w) := by
  obtain ⟨h0, ⟨vS, vF, mb, h1, _⟩, _⟩ := h
  obtain ⟨c0, c1, c2, c3, c4, _⟩ := h1.cells
  have hf := h0.few
  have HB := Lib.hid (pfl_bd h0)
  have HL := Lib.hid (pfl_len h0.len)
  have HT := Lib.hid (sumW_pfl t.F t.G)
  have HC := Lib.hid (fun k (hk : k < t.F.length) => h1.flow h0 hk)
  have HA := Lib.hid (fun k (hk : k < t.F.length) => pfl_at h0.len hk)
  obtain ⟨A, c, rfl⟩ := ow_shape h1.rowF
  clear h1 c0 c1 c2 c4
  unfold Quiet
  go_enter Try.func15, Try.ntmps15
  go_wp2
  go_loopw [3, 11] (fun s3 s11 wr => ∃ k : Nat, ∃ z : Int, k ≤ t.F.length ∧ s11 = .int .i64 k ∧ s3 = .int .i64 z ∧ Hid (z = sumW ((pfl t.F t.G).take k)) ∧ Hid (Below w.heap.size w wr)) (fun s3 s11 _ => t.F.length - (intOf s11).toNat)
  case atStart => exact ⟨0, 0, Nat.zero_le _, rfl, rfl, Lib.hid rfl, Lib.hid (Below.refl _ _)⟩
  case round =>
    obtain ⟨k, z, hk, rfl, rfl, HZ, HW⟩ := hrel
    by_cases hlt : k < t.F.length
    · obtain ⟨g, c', hv, hg1, hg2, hc, _⟩ := HC.out k hlt
      obtain ⟨rfl, rfl⟩ : A = some ⟨g, 0, none⟩ ∧ c = c' := by simpa using hv
      have hkp : k < (pfl t.F t.G).length := by rw [HL.out]; exact hlt
      have hz2 := sumW_take hkp
      have hb2 := sumW_bd ((pfl t.F t.G).take k) fun f hf => HB.out f (List.mem_of_mem_take hf)
      have hb3 := HB.out _ (List.getElem_mem hkp)
      rw [← HZ.out, HA.out k hlt] at hz2
      rw [← HZ.out, List.length_take] at hb2
      rw [HA.out k hlt] at hb3
      have hcc : ∀ j, j < 7 → wr.cell? ⟨g, k * 7 + j, none⟩ = _ := fun j hj => (HW.out.cell (p := ⟨g, k * 7 + j, none⟩) hg2).trans (hc j hj)
      clear hc hv
      generalize (goneF t.F[k] (t.G[k]'_)) = q at *
      obtain ⟨q0, q1, q2, q3, q4, q5, q6⟩ := q
      have e0 : wr.cell? ⟨g, k * 7, none⟩ = some (.int .i64 q0) := hcc 0 (by omega)
      have e1 : wr.cell? ⟨g, k * 7 + 1, none⟩ = some (.int .i64 q1) := hcc 1 (by omega)
      have e2 : wr.cell? ⟨g, k * 7 + 2, none⟩ = some (.int .i64 q2) := hcc 2 (by omega)
      have e3 : wr.cell? ⟨g, k * 7 + 3, none⟩ = some (.int .i64 q3) := hcc 3 (by omega)
      have e4 : wr.cell? ⟨g, k * 7 + 4, none⟩ = some (.int .i64 q4) := hcc 4 (by omega)
      have e5 : wr.cell? ⟨g, k * 7 + 5, none⟩ = some (.int .i64 q5) := hcc 5 (by omega)
      have e6 : wr.cell? ⟨g, k * 7 + 6, none⟩ = some (.int .i64 q6) := hcc 6 (by omega)
      have hz2 := Lib.hid hz2
      simp only at hb3
      have HW2 := Lib.hid (HW.out.alloc (by have := HW.out.size; omega) (.cells #[.int .i64 q0, .int .i64 q1, .int .i64 q2, .int .i64 q3, .int .i64 q4, .int .i64 q5, .int .i64 q6] 72))
      clear hcc HC HZ HB HA
      go_wp2
      go_roundw
      case rel => exact ⟨k + 1, z + q2, by omega, by go_num, by go_num, Lib.hid hz2.out.symm, HW2⟩
      case measure => simp [intOf]; omega
    · obtain rfl : k = t.F.length := by omega
      have HF : Hid (z = t.tot) := Lib.hid (by rw [HZ.out, ← HL.out, List.take_length, HT.out]; rfl)
      clear HZ
      go_wp2
      go_ret
      exact ⟨ret_int HF.out, HW.out⟩
theorem cell_on {w w' : World} {b o : Nat} {v : Value} (h : w.cell? ⟨b, o, none⟩ = some v) (hb : Below w.heap.size w w') : w'.cell? ⟨b, o, none⟩ = some v := (hb.cell (p := ⟨b, o, none⟩) (lt_of_cell h)).trans h
theorem on1 {w0 w w' : World} {b o : Nat} {v : Value} (hb : Below w.heap.size w w') (h : w.cell? ⟨b, o, none⟩ = some v ∧ Below w0.heap.size w0 w) : w'.cell? ⟨b, o, none⟩ = some v ∧ Below w0.heap.size w0 w' :=
  ⟨cell_on h.1 hb, h.2.trans (hb.mono h.2.size)⟩
theorem admits_any {C H : Nat} {S : Nat → Prop} {t : Tb} {w : World} (h : PO C H S t w) (g : Int) (g0 : -100 ≤ g) (g1 : g ≤ 100) :
    Calls Try.prog 46 #[.pointer (some ⟨H, 0, none⟩), .int .i64 g] w (Quiet (.bool (decide (t.tot + g ≤ t.cap))) w) := by
  have HT := Lib.hid (fun w' (hb : Below w.heap.size w w') => total_any (h.below hb))
  have hs := h.1.sums
  obtain ⟨h0, ⟨vS, vF, mb, h1, _⟩, _⟩ := h
  obtain ⟨c0, c1, c2, c3, c4, _⟩ := h1.cells
  have hH := (h1.lt H (.inl rfl)).2
  have HK := Lib.hid (fun w' (hb : Below w.heap.size w w') => (h1.below hb).cells.1)
  generalize t.tot = z at *
  generalize t.cap = cp at *
  clear h1 h0 c1 c2 c3 c4
  have hw : IntKind.i64.wrap (z + g) = z + g := IntWalk.i64_in _ (by omega)
  unfold Quiet at *
  go_enter Try.func46, Try.ntmps46
  go_wp2_with fail
  go_region_held3 (fun w' => w'.cell? ⟨H, 0, none⟩ = some (.int .i64 cp) ∧ Below w.heap.size w w')
    ((first | exact on1 (by assumption) (by assumption) | exact ⟨c0, (Below.refl _ _).drew⟩))
    (first | (go_at_call 15; (with_reducible refine (HT.out _ (And.right (by assumption))).mono ?_); rintro e w' ⟨rfl, hb⟩))
  rename_i hH
  go_wp2
  go_ret
  exact ⟨ret_bool rfl, hH.2⟩
end Go.Proofs.Ytgojbomdkdlclaa

