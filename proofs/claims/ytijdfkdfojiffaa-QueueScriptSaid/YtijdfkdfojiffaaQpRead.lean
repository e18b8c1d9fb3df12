/-
  Layer 11: contracts of the program's Len, Bytes, Valid, isLate, SetCaps, Head; of the search for a free cell (slices.Index).
-/
import Derived.Test.YtijdfkdfojiffaaQpMem
import Derived.Test.YtijdfkdfojiffaaQuRef2
import Derived.Deep.LoopGhost
import Derived.Laws.StructEq
import Derived.Deep.QuietTactic
import Derived.BigQuiet
namespace Go.Proofs.Ytijdfkdfojiffaa
open Go.ChangeShapes Go.WideShapes Go.ChangeAt Go.RowKit
set_option linter.unusedVariables false

/-- An answer x, and nothing old has changed. -/
def Calm (x : Value) (w : World) (e : Ending) (w' : World) : Prop := e = .returned x ∧ Below w.heap.size w w'
theorem sumB_bd0 : ∀ (L : List Pk), (∀ p ∈ L, 0 ≤ p.l ∧ p.l ≤ 4096) → 0 ≤ sumB L ∧ sumB L ≤ 4096 * L.length
  | [], _ => by simp [sumB]
  | p :: L, h => by
    have h1 := sumB_bd0 L fun q hq => h q (by simp [hq])
    have h2 := h p (by simp)
    rw [sumB_cons, List.length_cons]; omega
theorem qlen_any {w : World} {C : Nat} {b : Qb} {mp mb : Int} {M : List Pk} {P : List Nat} (h : QW w C b mp mb M P) :
    Calls Try.prog 12 #[.pointer (some ⟨b.H, 0, none⟩)] w fun e w' => e = .returned (.int .i64 P.length) ∧ w = w' := by
  obtain ⟨_, _, _, c3, _⟩ := h.cells
  have HL := Lib.hid (rlen_any h.ring)
  clear h
  go_enter Try.func12, Try.ntmps12
  go_wp2_with fail
  (with_reducible refine HL.out.mono ?_); rintro e w' ⟨rfl, rfl⟩
  go_wp2
  go_ret
  exact ⟨rfl, rfl⟩
set_option maxHeartbeats 1000000 in
theorem qbytes_any {w : World} {C : Nat} {b : Qb} {mp mb : Int} {M : List Pk} {P : List Nat} (h : QW w C b mp mb M P) (hl : ∀ p ∈ M, 0 ≤ p.l ∧ p.l ≤ 4096) :
    Calls Try.prog 13 #[.pointer (some ⟨b.H, 0, none⟩)] w (Calm (.int .i64 (sumB M)) w) := by
  obtain ⟨_, _, c2, _, _⟩ := h.cells
  have hG := (h.lt b.G (.inr (.inl rfl))).2
  have HC := Lib.hid (fun k (hk : k < 64) => h.pk hk)
  have hM := h.len
  have HT := Lib.hid (fun k (hk : k < 64) => (show sumB (M.take (k + 1)) = sumB (M.take k) + (M.getD k pk0).l by rw [sumB_take (by omega), getD_at (by omega)]))
  have HB := Lib.hid (fun k => sumB_bd0 (M.take k) (fun p hp => hl p (List.mem_of_mem_take hp)))
  have HP := Lib.hid (fun k (hk : k < 64) => (show 0 ≤ (M.getD k pk0).l ∧ (M.getD k pk0).l ≤ 4096 by rw [getD_at (by omega)]; exact hl _ (List.getElem_mem _)))
  have HE := Lib.hid (show sumB (M.take 64) = sumB M by rw [← hM, List.take_length])
  clear h hl hM
  unfold Calm
  go_enter Try.func13, Try.ntmps13
  go_wp2
  go_loopw [3, 11] (fun s3 s11 wr => ∃ (k : Nat) (z : Int), k ≤ 64 ∧ s11 = .int .i64 k ∧ s3 = .int .i64 z ∧ Hid (z = sumB (M.take k)) ∧ Hid (Below w.heap.size w wr)) (fun s3 s11 _ => 64 - (intOf s11).toNat)
  case atStart => exact ⟨0, 0, Nat.zero_le _, rfl, rfl, Lib.hid rfl, Lib.hid (Below.refl _ _)⟩
  case round =>
    obtain ⟨k, z, hk, rfl, rfl, HZ, HW⟩ := hrel
    by_cases hlt : k < 64
    · have hlt' : (k : Int) < 64 := by omega
      obtain ⟨e0, e1, e2, e3, e4⟩ := HC.out k hlt
      have hp := HP.out k hlt
      have hb := HB.out k
      have ht := HT.out k hlt
      rw [← HZ.out] at hb ht
      rw [List.length_take] at hb
      generalize M.getD k pk0 = q at *
      obtain ⟨q0, q1, q2, q3, q4⟩ := q
      have d0 : wr.cell? ⟨b.G, k * 5, none⟩ = some (.int .i64 q0) := (HW.out.cell (p := ⟨b.G, k * 5, none⟩) hG).trans e0
      have d1 : wr.cell? ⟨b.G, k * 5 + 1, none⟩ = some (.int .i64 q1) := (HW.out.cell (p := ⟨b.G, k * 5 + 1, none⟩) hG).trans e1
      have d2 : wr.cell? ⟨b.G, k * 5 + 2, none⟩ = some (.int .i64 q2) := (HW.out.cell (p := ⟨b.G, k * 5 + 2, none⟩) hG).trans e2
      have d3 : wr.cell? ⟨b.G, k * 5 + 3, none⟩ = some (.int .i64 q3) := (HW.out.cell (p := ⟨b.G, k * 5 + 3, none⟩) hG).trans e3
      have d4 : wr.cell? ⟨b.G, k * 5 + 4, none⟩ = some (.int .i64 q4) := (HW.out.cell (p := ⟨b.G, k * 5 + 4, none⟩) hG).trans e4
      simp only at hp
      have hw : IntKind.i64.wrap (z + q2) = z + q2 := IntWalk.i64_in _ (by omega)
      have HZ2 : Hid (z + q2 = sumB (M.take (k + 1))) := Lib.hid ht.symm
      have HW2 := Lib.hid (HW.out.alloc (by have := HW.out.size; omega) (.cells #[.int .i64 q0, .int .i64 q1, .int .i64 q2, .int .i64 q3, .int .i64 q4] 40))
      clear HC HP ht e0 e1 e2 e3 e4 HZ
      go_wp2
      go_roundw
      case rel => exact ⟨k + 1, z + q2, by omega, by go_num, by first | rfl | rw [hw] | go_num, HZ2, HW2⟩
      case measure => simp [intOf]; omega
    · obtain rfl : k = 64 := by omega
      have HF : Hid (z = sumB M) := Lib.hid (HZ.out.trans HE.out)
      clear HZ
      go_wp2
      go_ret
      exact ⟨ret_int HF.out, HW.out⟩
set_option maxRecDepth 100000 in
set_option maxHeartbeats 4000000 in
theorem qvalid_any (p : Pk) (w : World) : Calls Try.prog 21 #[aggP p] w fun e w' => e = .returned (.bool (pkOk p)) ∧ Below w.heap.size w w' := by
  obtain ⟨i, f, l, a, d⟩ := p
  unfold aggP
  simp only []
  have HF := Lib.hid ((Below.refl w.heap.size w).alloc (Nat.le_refl _) (.cells #[.int .i64 i, .int .i64 f, .int .i64 l, .int .i64 a, .int .i64 d] 40))
  by_cases h1 : 1 ≤ i
  rotate_left 1
  · rw [pk_bad (by omega)]
    go_enter Try.func21, Try.ntmps21
    go_wp2
    go_ret
    exact ⟨rfl, HF.out⟩
  by_cases h2 : 0 ≤ f
  rotate_left 1
  · rw [pk_bad (by omega)]
    go_enter Try.func21, Try.ntmps21
    go_wp2
    go_ret
    exact ⟨rfl, HF.out⟩
  by_cases h3 : f < 32
  rotate_left 1
  · rw [pk_bad (by omega)]
    go_enter Try.func21, Try.ntmps21
    go_wp2
    go_ret
    exact ⟨rfl, HF.out⟩
  by_cases h4 : 1 ≤ l
  rotate_left 1
  · rw [pk_bad (by omega)]
    go_enter Try.func21, Try.ntmps21
    go_wp2
    go_ret
    exact ⟨rfl, HF.out⟩
  by_cases h5 : l ≤ 4096
  rotate_left 1
  · rw [pk_bad (by omega)]
    go_enter Try.func21, Try.ntmps21
    go_wp2
    go_ret
    exact ⟨rfl, HF.out⟩
  by_cases h6 : 0 ≤ a
  rotate_left 1
  · rw [pk_bad (by omega)]
    go_enter Try.func21, Try.ntmps21
    go_wp2
    go_ret
    exact ⟨rfl, HF.out⟩
  by_cases h7 : a ≤ 16384
  rotate_left 1
  · rw [pk_bad (by omega)]
    go_enter Try.func21, Try.ntmps21
    go_wp2
    go_ret
    exact ⟨rfl, HF.out⟩
  by_cases h8 : d = -1
  · rw [pk_good (by omega)]
    subst h8
    go_enter Try.func21, Try.ntmps21
    go_wp2
    go_ret
    exact ⟨rfl, HF.out⟩
  have hb8 : (d == -1) = false := by simpa using h8
  by_cases h9 : a ≤ d
  rotate_left 1
  · rw [pk_bad (by omega)]
    go_enter Try.func21, Try.ntmps21
    go_wp2
    go_ret
    exact ⟨rfl, HF.out⟩
  by_cases h10 : d ≤ 81919
  · rw [pk_good (by omega)]
    go_enter Try.func21, Try.ntmps21
    go_wp2
    go_ret
    exact ⟨rfl, HF.out⟩
  · rw [pk_bad (by omega)]
    go_enter Try.func21, Try.ntmps21
    go_wp2
    go_ret
    exact ⟨rfl, HF.out⟩
set_option maxRecDepth 100000 in
theorem qlate_any (p : Pk) (s : Int) (w : World) : Calls Try.prog 40 #[aggP p, .int .i64 s] w (Calm (.bool (lateB s p)) w) := by
  obtain ⟨i, f, l, a, d⟩ := p
  unfold aggP Calm
  simp only []
  have HF := Lib.hid ((Below.refl w.heap.size w).alloc (Nat.le_refl _) (.cells #[.int .i64 i, .int .i64 f, .int .i64 l, .int .i64 a, .int .i64 d] 40))
  by_cases h : d = -1
  · have e : lateB s ⟨i, f, l, a, d⟩ = false := by unfold lateB; simp [h]
    rw [e]
    subst h
    clear e
    go_enter Try.func40, Try.ntmps40
    go_wp2
    go_ret
    exact ⟨rfl, HF.out⟩
  · have e : lateB s ⟨i, f, l, a, d⟩ = decide (d < s) := by unfold lateB; simp [h]
    have hb : (d != -1) = true := by simpa using h
    rw [e]
    clear e
    go_enter Try.func40, Try.ntmps40
    go_wp2
    go_ret
    exact ⟨rfl, HF.out⟩
theorem qcaps_no {p c : Int} (h : cpB p c = false) (H : Nat) (w : World) :
    Calls Try.prog 17 #[.pointer (some ⟨H, 0, none⟩), .int .i64 p, .int .i64 c] w fun e w' => e = .returned (.int .i64 1) ∧ w = w' := by
  have hc : p < 1 ∨ (¬ p < 1 ∧ 64 < p) ∨ (¬ p < 1 ∧ ¬ 64 < p ∧ c < 1) ∨ (¬ p < 1 ∧ ¬ 64 < p ∧ ¬ c < 1 ∧ 262144 < c) := by
    unfold cpB at h
    rcases (by omega : p < 1 ∨ (¬ p < 1 ∧ 64 < p) ∨ (¬ p < 1 ∧ ¬ 64 < p ∧ c < 1) ∨ (¬ p < 1 ∧ ¬ 64 < p ∧ ¬ c < 1 ∧ 262144 < c) ∨ (1 ≤ p ∧ p ≤ 64 ∧ 1 ≤ c ∧ c ≤ 262144)) with h1 | h1 | h1 | h1 | ⟨h1, h2, h3, h4⟩
    · exact .inl h1
    · exact .inr (.inl h1)
    · exact .inr (.inr (.inl h1))
    · exact .inr (.inr (.inr h1))
    · simp [h1, h2, h3, h4] at h
  clear h
  rcases hc with h1 | ⟨h1, h2⟩ | ⟨h1, h2, h3⟩ | ⟨h1, h2, h3, h4⟩
  all_goals
    go_enter Try.func17, Try.ntmps17
    go_wp2
    go_ret
    exact ⟨rfl, rfl⟩
theorem qcaps_ok {p c : Int} (h : cpB p c = true) {H : Nat} {w : World} {a0 b0 : Int} {x2 x3 : Value} (hw : Whole w H 57 #[.int .i64 a0, .int .i64 b0, x2, x3]) :
    Calls Try.prog 17 #[.pointer (some ⟨H, 0, none⟩), .int .i64 p, .int .i64 c] w fun e w' => e = .returned (.int .i64 0) ∧ (w.setCell ⟨H, 0, none⟩ (.int .i64 p)).setCell ⟨H, 1, none⟩ (.int .i64 c) = w' := by
  obtain ⟨h1, h2, h3, h4⟩ := cp_yes h
  have c0 : w.cell? ⟨H, 0, none⟩ = some (.int .i64 a0) := hw.read 0
  have c1 : w.cell? ⟨H, 1, none⟩ = some (.int .i64 b0) := hw.read 1
  have f0 := hw.free 0
  have f1 := hw.free 1
  clear h hw
  go_enter Try.func17, Try.ntmps17
  go_wp2
  go_ret
  exact ⟨rfl, rfl⟩
theorem qsetCaps_any {C : Nat} {b : Qb} {q : Qu} {w : World} (h : QO C b q w) (p c : Int) :
    Calls Try.prog 17 #[.pointer (some ⟨b.H, 0, none⟩), .int .i64 p, .int .i64 c] w (QAns C b (qcT q p c) (.int .i64 (qcE q p c)) w) := by
  cases hc : cpB p c
  · have e1 : qcE q p c = 1 := by unfold qcE qnE; rw [hc]; rfl
    have e2 : qcT q p c = q := by unfold qcT qnE; rw [hc]; rfl
    rw [e1, e2]
    refine (qcaps_no hc b.H w).mono ?_
    rintro e w' ⟨rfl, rfl⟩
    exact QAns.stay h (Below.refl _ _)
  · have e1 : qcE q p c = 0 := by unfold qcE qnE; rw [hc]; rfl
    have e2 : qcT q p c = { q with mp := p, mb := c } := by unfold qcT qnE; rw [hc]; rfl
    have h5 := h.1.caps p c
    obtain ⟨h0, M, P, h1, h2⟩ := h
    rw [e2] at h5
    rw [e1, e2]
    refine (qcaps_ok hc h1.blk).mono ?_
    rintro e w' ⟨rfl, rfl⟩
    exact ⟨rfl, ⟨h5, M, P, h1.caps p c, h2⟩, ((Chg.refl _ w).setCell (.inl rfl) _ _).setCell (.inl rfl) _ _⟩
/-- Head. -/
theorem qhead_no {C : Nat} {b : Qb} {q : Qu} {w : World} (h : QO C b q w) (hn : q.L = []) :
    Calls Try.prog 31 #[.pointer (some ⟨b.H, 0, none⟩)] w (Calm (.tuple #[aggP pk0, .bool false]) w) := by
  have HB := Lib.hid ((Below.refl w.heap.size w).alloc (Nat.le_refl _) (.cells #[.int .i64 0, .int .i64 0, .int .i64 0, .int .i64 0, .int .i64 0] 40))
  obtain ⟨h0, M, P, h1, h2⟩ := h.below HB.out
  rw [hn] at h2
  obtain rfl := h2.none_
  obtain ⟨_, _, _, c3, _⟩ := h1.cells
  obtain ⟨f, X, h3, _⟩ := h1.ring
  have HA := Lib.hid (rat_no h3 0 (.inr (Int.le_refl _)))
  clear h h0 h1 h2 h3 hn
  unfold Calm
  go_enter Try.func31, Try.ntmps31
  go_wp2_with fail
  (with_reducible refine HA.out.mono ?_); rintro e w' ⟨rfl, rfl⟩
  go_wp2
  exact bodyPost_ret (v := .tuple #[.agg #[.int .i64 0, .int .i64 0, .int .i64 0, .int .i64 0, .int .i64 0], .bool false]) (by simp [results, Try.results31, go_sem]) rfl ⟨rfl, HB.out⟩
set_option maxRecDepth 100000 in
theorem qhead_yes {C : Nat} {b : Qb} {q : Qu} {w : World} (h : QO C b q w) {p : Pk} {T : List Pk} (hn : q.L = p :: T) :
    Calls Try.prog 31 #[.pointer (some ⟨b.H, 0, none⟩)] w (Calm (.tuple #[aggP p, .bool true]) w) := by
  have HB := Lib.hid ((Below.refl w.heap.size w).alloc (Nat.le_refl _) (.cells #[.int .i64 0, .int .i64 0, .int .i64 0, .int .i64 0, .int .i64 0] 40))
  have HH := Lib.hid (Whole.fresh w 40 #[.int .i64 0, .int .i64 0, .int .i64 0, .int .i64 0, .int .i64 0])
  obtain ⟨h0, M, P, h1, h2⟩ := h.below HB.out
  rw [hn] at h2
  obtain ⟨k, P, rfl, hk, ek⟩ := h2.cons
  obtain ⟨_, _, c2, c3, _⟩ := h1.cells
  obtain ⟨e0, e1, e2, e3, e4⟩ := h1.pk hk
  rw [ek] at e0 e1 e2 e3 e4
  obtain ⟨f, X, h3, hX, _⟩ := h1.ring
  have HA := rat_yes h3 0 0 _ rfl (by simp) rfl
  rw [hX 0 (by simp), plN_head] at HA
  have HA := Lib.hid HA
  have hne : b.G ≠ w.heap.size := by have := (h.lt b.G (.inr (.inl rfl))).2; omega
  have hne2 : b.H ≠ w.heap.size := by have := (h.lt b.H (.inl rfl)).2; omega
  have hk' : (k : Int) < 64 := by omega
  obtain ⟨i, f', l, a, d⟩ := p
  unfold aggP Calm
  simp only at e0 e1 e2 e3 e4 ⊢
  clear h h0 h1 h2 h3 hn hX ek
  go_enter Try.func31, Try.ntmps31
  go_wp2_with fail
  (with_reducible refine HA.out.mono ?_); rintro e w' ⟨rfl, nq, rfl⟩
  go_wp2
  exact bodyPost_ret (v := .tuple #[.agg #[.int .i64 i, .int .i64 f', .int .i64 l, .int .i64 a, .int .i64 d], .bool true]) (by simp [results, Try.results31, go_sem]) rfl ⟨rfl, (((((Below_drewN HB.out nq).setCell (p := ⟨w.heap.size, 0, none⟩) (Nat.le_refl _) _).setCell (p := ⟨w.heap.size, 1, none⟩) (Nat.le_refl _) _).setCell (p := ⟨w.heap.size, 2, none⟩) (Nat.le_refl _) _).setCell (p := ⟨w.heap.size, 3, none⟩) (Nat.le_refl _) _).setCell (p := ⟨w.heap.size, 4, none⟩) (Nat.le_refl _) _⟩
/-- What the search answers. -/
def FoundP (M : List Pk) (w : World) (e : Ending) (w' : World) : Prop := ∃ k : Nat, k < 64 ∧ M.getD k pk0 = pk0 ∧ e = .returned (.int .i64 k) ∧ Below w.heap.size w w'
/-- slices.Index of the zero packet, where a free cell is known. -/
theorem qindex_any {w : World} {C : Nat} {b : Qb} {mp mb : Int} {M : List Pk} {P : List Nat} (h : QW w C b mp mb M P) {j : Nat} (hj : j < 64) (hz : M.getD j pk0 = pk0) (hv : ∀ k, M.getD k pk0 = pk0 ∨ 1 ≤ (M.getD k pk0).i) :
    Calls Try.prog 37 #[.slice (some ⟨b.G, 0, none⟩) 64 64, .agg #[.int .i64 0, .int .i64 0, .int .i64 0, .int .i64 0, .int .i64 0]] w (FoundP M w) := by
  have hG := (h.lt b.G (.inr (.inl rfl))).2
  have hb1 := (Below.refl w.heap.size w).alloc (Nat.le_refl _) (.cells #[.int .i64 0, .int .i64 0, .int .i64 0, .int .i64 0, .int .i64 0] 40)
  have HB := Lib.hid hb1
  have HC := Lib.hid (fun k (hk : k < 64) => (h.below hb1).pk hk)
  have HZ := Lib.hid hz
  have HV := Lib.hid hv
  clear h hb1 hz hv
  unfold FoundP
  go_enter Try.func37, Try.ntmps37
  go_wp2
  go_loopw [8] (fun s8 wr => ∃ (k : Nat), k ≤ j ∧ s8 = .int .i64 k ∧ ∃ q, wr = (w.alloc (.cells #[.int .i64 0, .int .i64 0, .int .i64 0, .int .i64 0, .int .i64 0] 40)).drewN q) (fun s8 _ => 64 - (intOf s8).toNat)
  case atStart => exact ⟨0, Nat.zero_le _, rfl, 0, rfl⟩
  case round =>
    obtain ⟨k, hk, rfl, q, rfl⟩ := hrel
    have hk' : (k : Int) < 64 := by omega
    obtain ⟨e0, e1, e2, e3, e4⟩ := HC.out k (by omega)
    obtain ⟨p, hp⟩ : ∃ p, M.getD k pk0 = p := ⟨_, rfl⟩
    have hv := HV.out k
    rw [hp] at e0 e1 e2 e3 e4 hv
    have HP := Lib.hid hp
    rcases hv with rfl | hv
    · simp only [pk0] at e0 e1 e2 e3 e4
      have HF := Lib.hid (Below_drewN HB.out q)
      clear HC hp
      go_wp2
      go_quiet (fail)
      go_wp2
      go_ret
      exact ⟨k, by omega, HP.out, rfl, Below_drewN HF.out _⟩
    · have hkj : k ≠ j := fun e => by
        rw [e, HZ.out] at hp; rw [← hp] at hv; exact absurd hv (by decide)
      obtain ⟨q0, q1, q2, q3, q4⟩ := p
      simp only at e0 e1 e2 e3 e4 hv
      have hb0 : ((0 : Int) == q0) = false := beq_eq_false_iff_ne.2 (by omega)
      clear HC hp
      go_wp2
      go_quiet (fail)
      go_wp2
      go_roundw
      case rel => exact ⟨k + 1, by omega, by go_num, _, rfl⟩
      case measure => simp [intOf]; omega
end Go.Proofs.Ytijdfkdfojiffaa

