/-
  Layer 10: contract of the program's Stations; Equal at stations and at flows (package airsharehelp).
-/
import Derived.Test.YtgojbomdkdlclaaFlLook
namespace Go.Proofs.Ytgojbomdkdlclaa
open Go.ChangeShapes Go.WideShapes Go.ChangeAt Go.RowKit
set_option linter.unusedVariables false

/-- A list of stations in a row of the call's own. -/
def GotS (L : List Sta) (w : World) (e : Ending) (w' : World) : Prop :=
  ∃ A c, e = .returned (.slice A L.length c) ∧ w'.ownsRow w.heap.size 68 4 (.slice A L.length c) L.length (srs csS L) ∧ Below w.heap.size w w'
set_option maxRecDepth 100000 in
set_option maxHeartbeats 2000000 in
theorem stations_any {C H : Nat} {S : Nat → Prop} {t : Tb} {w : World} (h : PO C H S t w) :
    Calls Try.prog 36 #[.pointer (some ⟨H, 0, none⟩)] w (GotS t.S w) := by
  have HSZ := Lib.hid (fun k (hk : k < t.S.length) => sta_size h.1 hk)
  obtain ⟨h0, ⟨vS, vF, mb, h1, _⟩, _⟩ := h
  obtain ⟨c0, c1, c2, c3, c4, _⟩ := h1.cells
  have hf := h0.few
  have HC := Lib.hid (fun k (hk : k < t.S.length) => h1.sta hk)
  obtain ⟨A, c, rfl⟩ := ow_shape h1.rowS
  clear h1 h0 c0 c1 c3 c4
  unfold GotS
  generalize t.S = L at *
  go_enter Try.func36, Try.ntmps36
  go_wp2
  go_loopw [3, 11] (fun s3 s11 wr => ∃ (k : Nat) (A' : Option Addr) (c' : Nat), k ≤ L.length ∧ s11 = .int .i64 k ∧ s3 = .slice A' k c' ∧ Hid (wr.ownsRow w.heap.size 68 4 (.slice A' k c') k (srs csS (L.take k))) ∧ Hid (Below w.heap.size w wr)) (fun s3 s11 _ => L.length - (intOf s11).toNat)
  case atStart => exact ⟨0, none, 0, Nat.zero_le _, rfl, rfl, Lib.hid (by simpa [srs] using World.ownsRow_nil w w.heap.size 68 4), Lib.hid (Below.refl _ _)⟩
  case round =>
    obtain ⟨k, A', c', hk, rfl, rfl, HR, HW⟩ := hrel
    by_cases hlt : k < L.length
    · obtain ⟨g, c'', hv, hg1, hg2, e0, e1, e2, e3⟩ := HC.out k hlt
      obtain ⟨rfl, rfl⟩ : A = some ⟨g, 0, none⟩ ∧ c = c'' := by simpa using hv
      have hws := HW.out.size
      have ht := srs_snoc (cs := csS) (L.take k) L[k]
      rw [← List.take_succ_eq_append_getElem hlt] at ht
      have hsz := HSZ.out k hlt
      obtain ⟨q, hq⟩ : ∃ q, L[k] = q := ⟨_, rfl⟩
      rw [hq] at e0 e1 e2 e3 ht hsz
      obtain ⟨q0, q1, q2, q3⟩ := q
      have d0 : wr.cell? ⟨g, k * 4, none⟩ = some (.int .i64 q0) := (HW.out.cell (p := ⟨g, k * 4, none⟩) hg2).trans e0
      have d1 : wr.cell? ⟨g, k * 4 + 1, none⟩ = some (.string q1) := (HW.out.cell (p := ⟨g, k * 4 + 1, none⟩) hg2).trans e1
      have d2 : wr.cell? ⟨g, k * 4 + 2, none⟩ = some (.int .i64 q2) := (HW.out.cell (p := ⟨g, k * 4 + 2, none⟩) hg2).trans e2
      have d3 : wr.cell? ⟨g, k * 4 + 3, none⟩ = some (.int .i64 q3) := (HW.out.cell (p := ⟨g, k * 4 + 3, none⟩) hg2).trans e3
      have HCP := Lib.hid (fun w => copied_any q0 q2 q3 q1 (by have : q1.size ≤ 24 := hsz; omega) w)
      unfold Quiet at HCP
      have HW2 := Lib.hid (HW.out.alloc hws (.cells #[.int .i64 q0, .string q1, .int .i64 q2, .int .i64 q3] 68))
      have HT2 := Lib.hid ht
      have HR2 := Lib.hid (HR.out.alloc (.cells #[.int .i64 q0, .string q1, .int .i64 q2, .int .i64 q3] 68))
      clear e0 e1 e2 e3 HC hq HR ht hsz hv
      go_wp2_with fail
      (with_reducible refine (HCP.out _).mono ?_); rintro e w2 ⟨rfl, hb2⟩
      have HR3 := Lib.hid ((row_from HR2.out hb2).alloc (.cells #[.int .i64 q0, .string q1, .int .i64 q2, .int .i64 q3] 68))
      have HW3 := Lib.hid (HW2.out.trans (hb2.mono HW2.out.size))
      have hws3 := HW3.out.size
      have HCL := Lib.hid (newCells w2 (csS ⟨q0, q1, q2, q3⟩) 68)
      clear hb2 d0 d1 d2 d3
      go_wp2_with (at_builtin; go_loud (refine wpList_append_one rfl (.tmp 15) (.tmp 18) 56 rfl Try.underlying56 info_sta rfl (by decide) HR3.out rfl ⟨w2.heap.size, 0, none⟩ rfl (csS_len ⟨q0, q1, q2, q3⟩) HCL.out (csS_one _) (by omega) (by decide) (by simp; omega) ?_); intro v2 w3 he2 hg2 hb2; obtain ⟨A2, c2, rfl⟩ := ow_shape he2; have HE2 := Lib.hid he2; have HG2 := Lib.hid hg2; clear he2 hg2 hb2)
      rw [← HT2.out] at HE2
      have HW4 := Lib.hid (below_grew (HW3.out.alloc hws3 (.cells #[.int .i64 q0, .string q1, .int .i64 q2, .int .i64 q3] 68)) (Nat.le_refl _) HG2.out (fun k e => (World.ownsRow.lt HR3.out k e).1))
      go_roundw
      case rel => exact ⟨k + 1, A2, c2, by omega, by go_num, rfl, HE2, HW4⟩
      case measure => simp [intOf]; omega
    · obtain rfl : k = L.length := by omega
      rw [List.take_length] at HR
      go_wp2
      go_ret
      exact ⟨_, _, rfl, HR.out, HW.out⟩
set_option maxHeartbeats 1000000 in
theorem equalF_any (A B : Option Addr) (c d : Nat) (l : List Flo) (L1 B1 L2 B2 : Nat) (w : World) (hn : l.length ≤ 100000) (ha : SrAt csF 7 w L1 B1 A l) (hb : SrAt csF 7 w L2 B2 B l) :
    Calls Try.prog 37 #[.slice A l.length c, .slice B l.length d] w (Quiet (.bool true) w) := by
  unfold Quiet
  go_enter Try.func37, Try.ntmps37
  go_wp2
  go_loopw [5] (fun i wr => ∃ k : Nat, k ≤ l.length ∧ i = .int .i64 k ∧ ∃ q, wr = w.drewN q) (fun i _ => l.length - (intOf i).toNat)
  case atStart => exact ⟨0, Nat.zero_le _, rfl, 0, rfl⟩
  case round =>
    obtain ⟨k, hk, rfl, q, rfl⟩ := hrel
    by_cases hlt : k < l.length
    · obtain ⟨b, off, rfl, _, _, hc⟩ := ha k hlt
      obtain ⟨b', off', rfl, _, _, hc'⟩ := hb k hlt
      obtain ⟨f, hf⟩ : ∃ f, l[k] = f := ⟨_, rfl⟩
      rw [hf] at hc hc'
      obtain ⟨q0, q1, q2, q3, q4, q5, q6⟩ := f
      have e0 : w.cell? ⟨b, off + k * 7, none⟩ = some (.int .i64 q0) := hc 0 (by omega)
      have e1 : w.cell? ⟨b, off + k * 7 + 1, none⟩ = some (.int .i64 q1) := hc 1 (by omega)
      have e2 : w.cell? ⟨b, off + k * 7 + 2, none⟩ = some (.int .i64 q2) := hc 2 (by omega)
      have e3 : w.cell? ⟨b, off + k * 7 + 3, none⟩ = some (.int .i64 q3) := hc 3 (by omega)
      have e4 : w.cell? ⟨b, off + k * 7 + 4, none⟩ = some (.int .i64 q4) := hc 4 (by omega)
      have e5 : w.cell? ⟨b, off + k * 7 + 5, none⟩ = some (.int .i64 q5) := hc 5 (by omega)
      have e6 : w.cell? ⟨b, off + k * 7 + 6, none⟩ = some (.int .i64 q6) := hc 6 (by omega)
      have g0 : w.cell? ⟨b', off' + k * 7, none⟩ = some (.int .i64 q0) := hc' 0 (by omega)
      have g1 : w.cell? ⟨b', off' + k * 7 + 1, none⟩ = some (.int .i64 q1) := hc' 1 (by omega)
      have g2 : w.cell? ⟨b', off' + k * 7 + 2, none⟩ = some (.int .i64 q2) := hc' 2 (by omega)
      have g3 : w.cell? ⟨b', off' + k * 7 + 3, none⟩ = some (.int .i64 q3) := hc' 3 (by omega)
      have g4 : w.cell? ⟨b', off' + k * 7 + 4, none⟩ = some (.int .i64 q4) := hc' 4 (by omega)
      have g5 : w.cell? ⟨b', off' + k * 7 + 5, none⟩ = some (.int .i64 q5) := hc' 5 (by omega)
      have g6 : w.cell? ⟨b', off' + k * 7 + 6, none⟩ = some (.int .i64 q6) := hc' 6 (by omega)
      clear ha hb hc hc' hf
      go_wp2
      go_quiet (fail)
      go_wp2
      go_roundw
      case rel => exact ⟨k + 1, by omega, by go_num, _, rfl⟩
      case measure => simp [intOf]; omega
    · obtain rfl : k = l.length := by omega
      clear ha hb
      go_wp2
      go_ret
      exact ⟨rfl, Below_drewN (Below.refl _ _) q⟩
set_option maxHeartbeats 1000000 in
theorem equalS_any (A B : Option Addr) (c d : Nat) (l : List Sta) (L1 B1 L2 B2 : Nat) (w : World) (hn : l.length ≤ 100000) (ha : SrAt csS 4 w L1 B1 A l) (hb : SrAt csS 4 w L2 B2 B l) :
    Calls Try.prog 35 #[.slice A l.length c, .slice B l.length d] w (Quiet (.bool true) w) := by
  unfold Quiet
  go_enter Try.func35, Try.ntmps35
  go_wp2
  go_loopw [5] (fun i wr => ∃ k : Nat, k ≤ l.length ∧ i = .int .i64 k ∧ ∃ q, wr = w.drewN q) (fun i _ => l.length - (intOf i).toNat)
  case atStart => exact ⟨0, Nat.zero_le _, rfl, 0, rfl⟩
  case round =>
    obtain ⟨k, hk, rfl, q, rfl⟩ := hrel
    by_cases hlt : k < l.length
    · obtain ⟨b, off, rfl, _, _, hc⟩ := ha k hlt
      obtain ⟨b', off', rfl, _, _, hc'⟩ := hb k hlt
      obtain ⟨f, hf⟩ : ∃ f, l[k] = f := ⟨_, rfl⟩
      rw [hf] at hc hc'
      obtain ⟨q0, q1, q2, q3⟩ := f
      have e0 : w.cell? ⟨b, off + k * 4, none⟩ = some (.int .i64 q0) := hc 0 (by omega)
      have e1 : w.cell? ⟨b, off + k * 4 + 1, none⟩ = some (.string q1) := hc 1 (by omega)
      have e2 : w.cell? ⟨b, off + k * 4 + 2, none⟩ = some (.int .i64 q2) := hc 2 (by omega)
      have e3 : w.cell? ⟨b, off + k * 4 + 3, none⟩ = some (.int .i64 q3) := hc 3 (by omega)
      have g0 : w.cell? ⟨b', off' + k * 4, none⟩ = some (.int .i64 q0) := hc' 0 (by omega)
      have g1 : w.cell? ⟨b', off' + k * 4 + 1, none⟩ = some (.string q1) := hc' 1 (by omega)
      have g2 : w.cell? ⟨b', off' + k * 4 + 2, none⟩ = some (.int .i64 q2) := hc' 2 (by omega)
      have g3 : w.cell? ⟨b', off' + k * 4 + 3, none⟩ = some (.int .i64 q3) := hc' 3 (by omega)
      clear ha hb hc hc' hf
      go_wp2
      go_quiet (fail)
      go_wp2
      go_roundw
      case rel => exact ⟨k + 1, by omega, by go_num, _, rfl⟩
      case measure => simp [intOf]; omega
    · obtain rfl : k = l.length := by omega
      clear ha hb
      go_wp2
      go_ret
      exact ⟨rfl, Below_drewN (Below.refl _ _) q⟩
end Go.Proofs.Ytgojbomdkdlclaa

