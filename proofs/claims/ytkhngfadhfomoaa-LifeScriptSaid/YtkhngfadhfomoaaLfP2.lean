/-
  Layer 18: the program's find, State, Reason, isFlow, Count, Refuse, move. Written by gen_lfp2.py.
-/
import Derived.Test.YtkhngfadhfomoaaLfP1
namespace Go.Proofs.Ytkhngfadhfomoaa
open Go.ChangeShapes Go.WideShapes Go.ChangeAt Go.RowKit
set_option linter.unusedVariables false

/-- The packet of a number. -/
def lpG (l : List LfE) (id : Int) : LfE := if h : 1 ≤ id ∧ id ≤ l.length then l[(id - 1).toNat]'(by omega) else ⟨0, 0, 0, 0⟩
theorem lpG_in {l : List LfE} {id : Int} {k : Nat} (h : id = (k : Int) + 1) (hk : k < l.length) : lpG l id = l[k] := by
  subst h
  unfold lpG
  rw [dif_pos (by omega)]
  congr 1
  omega
theorem lpG_out {l : List LfE} {id : Int} (h : ¬ (1 ≤ id ∧ id ≤ l.length)) : lpG l id = ⟨0, 0, 0, 0⟩ := by unfold lpG; rw [dif_neg h]
theorem lpG_st (s : LfS) (id : Int) : lfSt s id = (lpG s.l id).s := by
  unfold lfSt lpG
  by_cases h : lfIn s id
  · rw [dif_pos h, dif_pos (show 1 ≤ id ∧ id ≤ s.l.length from h)]; rfl
  · rw [dif_neg h, dif_neg (show ¬ (1 ≤ id ∧ id ≤ s.l.length) from h)]
theorem lpG_wy (s : LfS) (id : Int) : lfWy s id = (lpG s.l id).y := by
  unfold lfWy lpG
  by_cases h : lfIn s id
  · rw [dif_pos h, dif_pos (show 1 ≤ id ∧ id ≤ s.l.length from h)]; rfl
  · rw [dif_neg h, dif_neg (show ¬ (1 ≤ id ∧ id ≤ s.l.length) from h)]
def lpV (e : LfE) : Value := .agg #[.int .i64 e.f, .int .i64 e.n, .int .i64 e.s, .int .i64 e.y]
/-- Four cells of a block of the call's own. -/
theorem four_put {t : TypeId} (w : World) (a b c d : Value) : Whole (w.alloc (.cells #[a, b, c, d] t)) w.heap.size t #[a, b, c, d] ∧ Below w.heap.size w (w.alloc (.cells #[a, b, c, d] t)) :=
  ⟨Whole.fresh w t _, (Below.refl _ _).alloc (Nat.le_refl _) _⟩
set_option maxRecDepth 100000 in
set_option maxHeartbeats 8000000 in
theorem pffind_any {R : Nat} {m : LpS} {T : Nat → Prop} {w : World} (hn : m.l.length ≤ 99999) (h : LpP R m T w) (id : Int) : Calls Try.prog 34 #[.pointer (some ⟨R, 0, none⟩), .int .i64 id] w (Calm (lpV (lpG m.l id)) w) := by
  have hR := h.1 R h.2.1
  obtain ⟨A, c, d0, _, HR⟩ := h.pk
  unfold Calm lpV
  by_cases hi : 1 ≤ id ∧ id ≤ m.l.length
  · obtain ⟨k, hk0⟩ : ∃ k : Nat, id = (k : Int) + 1 := ⟨(id - 1).toNat, by omega⟩
    have hk : k < m.l.length := by omega
    rw [lpG_in hk0 hk]
    subst hk0
    obtain ⟨g, rfl, hnc, c0, c1, c2, c3⟩ := HR k hk
    have hb0 : Below w.heap.size w (w.alloc (.cells #[.int .i64 0, .int .i64 0, .int .i64 0, .int .i64 0] 62)) := (Below.refl _ _).alloc (Nat.le_refl _) _
    have hg : g < w.heap.size := lt_of_cell c0
    have D0 := (hb0.cell (p := ⟨R, 0, none⟩) hR).trans d0
    have C0 := (hb0.cell (p := ⟨g, k * 4, none⟩) hg).trans c0
    have C1 := (hb0.cell (p := ⟨g, k * 4 + 1, none⟩) hg).trans c1
    have C2 := (hb0.cell (p := ⟨g, k * 4 + 2, none⟩) hg).trans c2
    have C3 := (hb0.cell (p := ⟨g, k * 4 + 3, none⟩) hg).trans c3
    clear HR h hb0 c0 c1 c2 c3 hnc
    generalize m.l[k] = x at *
    obtain ⟨x1, x2, x3, x4⟩ := x
    simp only at *
    generalize m.l.length = n at *
    have w1 : IntKind.i64.wrap ((k : Int) + 1 - 1) = (k : Int) := by rw [IntWalk.i64_in _ (by omega)]; omega
    have hlt : ¬ (k : Int) + 1 < 1 := by omega
    have hgt : ¬ (n : Int) < (k : Int) + 1 := by omega
    have hlt2 : (k : Int) < (n : Int) := by omega
    have hk0 : (0 : Int) ≤ (k : Int) := by omega
    have HX := Lib.hid (four_put (t := 62) w (.int .i64 x1) (.int .i64 x2) (.int .i64 x3) (.int .i64 x4))
    clear hi hk d0 hR hg
    go_enter Try.func34, Try.ntmps34
    go_wp2
    obtain ⟨hc, hb⟩ := HX.out
    have k0 := (hc.read 0).trans rfl
    have k1 := (hc.read 1).trans rfl
    have k2 := (hc.read 2).trans rfl
    have k3 := (hc.read 3).trans rfl
    exact bodyPost_ret (v := .agg #[.int .i64 x1, .int .i64 x2, .int .i64 x3, .int .i64 x4]) (by simp [results, Try.results34, go_sem, k0, k1, k2, k3]) rfl ⟨rfl, hb⟩
  · rw [lpG_out hi]
    have hb0 : Below w.heap.size w (w.alloc (.cells #[.int .i64 0, .int .i64 0, .int .i64 0, .int .i64 0] 62)) := (Below.refl _ _).alloc (Nat.le_refl _) _
    have D0 := (hb0.cell (p := ⟨R, 0, none⟩) hR).trans d0
    have hc : id < 1 ∨ (1 ≤ id ∧ (m.l.length : Int) < id) := by omega
    have HX := Lib.hid (four_put (t := 62) w (.int .i64 0) (.int .i64 0) (.int .i64 0) (.int .i64 0))
    clear h HR d0 hi hb0 hR
    generalize m.l.length = n at *
    simp only
    rcases hc with h1 | ⟨h1, h2⟩
    all_goals
      go_enter Try.func34, Try.ntmps34
      go_wp2
      obtain ⟨hc, hb⟩ := HX.out
      have k0 := (hc.read 0).trans rfl
      have k1 := (hc.read 1).trans rfl
      have k2 := (hc.read 2).trans rfl
      have k3 := (hc.read 3).trans rfl
      exact bodyPost_ret (v := .agg #[.int .i64 0, .int .i64 0, .int .i64 0, .int .i64 0]) (by simp [results, Try.results34, go_sem, k0, k1, k2, k3]) rfl ⟨rfl, hb⟩
set_option maxHeartbeats 4000000 in
theorem pfstate_any {R : Nat} {m : LpS} {T : Nat → Prop} {w : World} (hn : m.l.length ≤ 99999) (h : LpP R m T w) (id : Int) : Calls Try.prog 10 #[.pointer (some ⟨R, 0, none⟩), .int .i64 id] w (Calm (.int .i64 (lpG m.l id).s) w) := by
  have HF := Lib.hid (pffind_any hn h id)
  clear h hn
  unfold Calm lpV at *
  generalize lpG m.l id = x at *
  obtain ⟨x1, x2, x3, x4⟩ := x
  simp only at *
  have hfd : ∀ W : World, (Instr.field 62 (.agg #[.int .i64 x1, .int .i64 x2, .int .i64 x3, .int .i64 x4]) 2).run Try.prog W = .ok (.int .i64 x3) W := fun _ => by kernel_rfl
  go_enter Try.func10, Try.ntmps10
  go_wp2_with fail
  (with_reducible refine HF.out.mono ?_); rintro e w1 ⟨rfl, hb⟩
  have HB := Lib.hid hb
  clear hb HF
  go_wp2
  go_ret
  exact ⟨rfl, HB.out⟩
set_option maxHeartbeats 4000000 in
theorem pfreas_any {R : Nat} {m : LpS} {T : Nat → Prop} {w : World} (hn : m.l.length ≤ 99999) (h : LpP R m T w) (id : Int) : Calls Try.prog 12 #[.pointer (some ⟨R, 0, none⟩), .int .i64 id] w (Calm (.int .i64 (lpG m.l id).y) w) := by
  have HF := Lib.hid (pffind_any hn h id)
  clear h hn
  unfold Calm lpV at *
  generalize lpG m.l id = x at *
  obtain ⟨x1, x2, x3, x4⟩ := x
  simp only at *
  have hfd : ∀ W : World, (Instr.field 62 (.agg #[.int .i64 x1, .int .i64 x2, .int .i64 x3, .int .i64 x4]) 3).run Try.prog W = .ok (.int .i64 x4) W := fun _ => by kernel_rfl
  go_enter Try.func12, Try.ntmps12
  go_wp2_with fail
  (with_reducible refine HF.out.mono ?_); rintro e w1 ⟨rfl, hb⟩
  have HB := Lib.hid hb
  clear hb HF
  go_wp2
  go_ret
  exact ⟨rfl, HB.out⟩
set_option maxHeartbeats 4000000 in
theorem pfflow_any (f : Int) (w : World) : Calls Try.prog 35 #[.int .i64 f] w fun e w' => e = .returned (.bool (lfF f)) ∧ w = w' := by
  have hc : (decide (0 ≤ f) = false ∧ lfF f = false) ∨ (decide (0 ≤ f) = true ∧ decide (f < 32) = true ∧ lfF f = true) ∨ (decide (0 ≤ f) = true ∧ decide (f < 32) = false ∧ lfF f = false) := by
    unfold lfF
    cases h1 : decide (0 ≤ f) <;> cases h2 : decide (f < 32) <;> simp
  rcases hc with ⟨h1, e⟩ | ⟨h1, h2, e⟩ | ⟨h1, h2, e⟩
  all_goals
    rw [e]
    clear e
    go_enter Try.func35, Try.ntmps35
    go_wp2
    go_ret
    exact ⟨rfl, rfl⟩
set_option maxHeartbeats 4000000 in
theorem pfcount_any {R : Nat} {m : LpS} {T : Nat → Prop} {w : World} (h : LpP R m T w) (f x : Int) : Calls Try.prog 18 #[.pointer (some ⟨R, 0, none⟩), .int .i64 f, .int .i64 x] w fun e w' => e = .returned (.int .i64 (if 0 ≤ f ∧ f < 32 ∧ 0 ≤ x ∧ x < 5 then m.c f.toNat x.toNat else 0)) ∧ w = w' := by
  have HFL := Lib.hid (pfflow_any f w)
  by_cases hin : 0 ≤ f ∧ f < 32 ∧ 0 ≤ x ∧ x < 5
  · rw [if_pos hin]
    obtain ⟨h1, h2, h3, h4⟩ := hin
    rw [lfF_of ⟨h1, h2⟩] at HFL
    obtain ⟨a, rfl⟩ : ∃ a : Nat, f = a := ⟨f.toNat, by omega⟩
    obtain ⟨b, rfl⟩ : ∃ b : Nat, x = b := ⟨x.toNat, by omega⟩
    have d0 := (h.cnt (f := a) (j := b) (by omega) (by omega)).1
    simp only [Int.toNat_natCast]
    clear h
    generalize m.c a b = y at *
    go_enter Try.func18, Try.ntmps18
    go_wp2_with fail
    (with_reducible refine HFL.out.mono ?_); rintro e w1 ⟨rfl, rfl⟩
    go_wp2
    go_ret
    exact ⟨rfl, rfl⟩
  · rw [if_neg hin]
    have hc : lfF f = false ∨ (lfF f = true ∧ x < 0) ∨ (lfF f = true ∧ 0 ≤ x ∧ 5 ≤ x) := by
      cases hf : lfF f
      · exact .inl rfl
      · have h9 := lfF_yes hf
        by_cases h8 : x < 0
        · exact .inr (.inl ⟨rfl, h8⟩)
        · exact .inr (.inr ⟨rfl, by omega, by omega⟩)
    clear h hin
    rcases hc with h1 | ⟨h1, h2⟩ | ⟨h1, h2, h3⟩
    all_goals
      rw [h1] at HFL
      clear h1
      go_enter Try.func18, Try.ntmps18
      go_wp2_with fail
      (with_reducible refine HFL.out.mono ?_); rintro e w1 ⟨rfl, rfl⟩
      go_wp2
      go_ret
      exact ⟨rfl, rfl⟩
end Go.Proofs.Ytkhngfadhfomoaa

