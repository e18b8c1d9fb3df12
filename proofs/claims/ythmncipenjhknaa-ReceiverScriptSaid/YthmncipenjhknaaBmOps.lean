/-
  Layer 6: contracts of Valid, bitOf, Has, Set and the reference's. Every valid word; no other condition.
-/
import Derived.Test.YthmncipenjhknaaBmSeq
import Derived.Test.YthmncipenjhknaaBmBits
import Derived.Deep.RegionHeld3
import Derived.Deep.Cut
namespace Go.Proofs.Ythmncipenjhknaa
open Go.ChangeShapes Go.WideShapes Go.ChangeAt Go.RowKit
set_option linter.unusedVariables false

theorem valid_any (b x : Int) (w : World) : Calls Try.prog 49 #[.agg #[.int .i64 b, .int .u64 x]] w fun e w' => e = .returned (.bool (isNum b)) ∧ Below w.heap.size w w' := by
  have HA := Lib.hid (fun w => isNumber_any b w)
  generalize isNum b = r at *
  go_enter Try.func49, Try.ntmps49
  go_wp2_with fail
  (with_reducible refine (HA.out _).mono ?_); rintro e w' ⟨rfl, rfl⟩
  go_wp2
  go_ret
  exact ⟨rfl, (Below.refl _ _).alloc (Nat.le_refl _) _⟩
theorem bitOf_any (b x s : Int) (w : World) : Calls Try.prog 50 #[.agg #[.int .i64 b, .int .u64 x], .int .i64 s] w fun e w' => e = .returned (.int .u64 (bitV b s)) ∧ Below w.heap.size w w' := by
  have HI := fun w => inside_any b 64 s w
  rcases hc : insB b 64 s with _ | _
  · rw [bitV_no hc]
    rw [hc] at HI
    have HI := Lib.hid HI
    clear hc
    go_enter Try.func50, Try.ntmps50
    go_wp2_with fail
    (with_reducible refine (HI.out _).mono ?_); rintro e w' ⟨rfl, rfl⟩
    go_wp2
    go_ret
    exact ⟨rfl, (Below.refl _ _).alloc (Nat.le_refl _) _⟩
  · rw [bitV_yes hc]
    rw [hc] at HI
    have HI := Lib.hid HI
    obtain ⟨⟨b0, b1⟩, s0, s1⟩ : (0 ≤ b ∧ b < 65536) ∧ 0 ≤ s ∧ s < 65536 := by
      rcases ins64_cases b s with ⟨h, _, _⟩ | ⟨_, _, h3⟩ | ⟨_, h3⟩
      · exact both_bd h
      · rw [hc] at h3; cases h3
      · rw [hc] at h3; cases h3
    have hd : dOf b s < 64 := by
      rcases ins64_cases b s with ⟨_, h, _⟩ | ⟨_, _, h3⟩ | ⟨_, h3⟩
      · exact h
      · rw [hc] at h3; cases h3
      · rw [hc] at h3; cases h3
    have HW := fun w => wrapped_any (s - b) w
    rw [dOf_is] at HW
    have HW := Lib.hid HW
    have hp := pow_wrap hd
    generalize dOf b s = k at *
    clear hc
    go_enter Try.func50, Try.ntmps50
    go_wp2_with fail
    (with_reducible refine (HI.out _).mono ?_); rintro e w' ⟨rfl, rfl⟩
    go_wp2_with fail
    (with_reducible refine (HW.out _).mono ?_); rintro e w' ⟨rfl, rfl⟩
    go_wp2
    go_ret
    exact ⟨rfl, (Below.refl _ _).alloc (Nat.le_refl _) _⟩
theorem held2 {w0 w w' : World} {b1 o1 b2 o2 : Nat} {v1 v2 : Value} (hb : Below w.heap.size w w')
    (h : w.cell? ⟨b1, o1, none⟩ = some v1 ∧ w.cell? ⟨b2, o2, none⟩ = some v2 ∧ Below w0.heap.size w0 w) :
    w'.cell? ⟨b1, o1, none⟩ = some v1 ∧ w'.cell? ⟨b2, o2, none⟩ = some v2 ∧ Below w0.heap.size w0 w' :=
  ⟨cell_later h.1 hb, cell_later h.2.1 hb, h.2.2.trans (hb.mono h.2.2.size)⟩
theorem refHas_any (b x s : Int) (hx : Wd x) (w : World) : Calls Try.prog 23 #[.agg #[.int .i64 b, .int .u64 x], .int .i64 s] w fun e w' => e = .returned (.bool (hasB b x s)) ∧ Below w.heap.size w w' := by
  have HD := fun w => refDist_any b s w
  rcases ins64_cases b s with ⟨h1, h2, h3⟩ | ⟨h1, h2, h3⟩ | ⟨h1, h3⟩
  · obtain ⟨e1, e2⟩ := ds_yes h1
    rw [e1, e2, dOf_is] at HD
    have HD := Lib.hid HD
    have hI := fun r hr => has_is h3 (x := x) (r := r) hr
    have hX := shr_wd hx (dOf b s)
    clear e1 e2 h1 h3 hx
    generalize dOf b s = k at *
    obtain ⟨X, hX'⟩ : ∃ X, x / 2 ^ k = X := ⟨_, rfl⟩
    rw [hX'] at hI hX
    obtain ⟨X0, X1⟩ := hX
    rcases (by omega : X % 2 = 0 ∨ X % 2 = 1) with h | h
    · rw [hI false (by simp; omega)]
      clear hI
      go_enter Try.func23, Try.ntmps23
      go_wp2_with fail
      (with_reducible refine (HD.out _).mono ?_); rintro e w' ⟨rfl, rfl⟩
      go_wp2
      go_ret
      exact ⟨rfl, (Below.refl _ _).alloc (Nat.le_refl _) _⟩
    · rw [hI true (by simp; omega)]
      clear hI
      go_enter Try.func23, Try.ntmps23
      go_wp2_with fail
      (with_reducible refine (HD.out _).mono ?_); rintro e w' ⟨rfl, rfl⟩
      go_wp2
      go_ret
      exact ⟨rfl, (Below.refl _ _).alloc (Nat.le_refl _) _⟩
  · obtain ⟨e1, e2⟩ := ds_yes h1
    rw [e1, e2, dOf_is] at HD
    rw [has_no h3]
    have HD := Lib.hid HD
    clear e1 e2 h1 h3 hx
    generalize dOf b s = k at *
    go_enter Try.func23, Try.ntmps23
    go_wp2_with fail
    (with_reducible refine (HD.out _).mono ?_); rintro e w' ⟨rfl, rfl⟩
    go_wp2
    go_ret
    exact ⟨rfl, (Below.refl _ _).alloc (Nat.le_refl _) _⟩
  · obtain ⟨e1, e2⟩ := ds_no h1
    rw [e1, e2] at HD
    rw [has_no h3]
    have HD := Lib.hid HD
    clear e1 e2 h1 h3 hx
    go_enter Try.func23, Try.ntmps23
    go_wp2_with fail
    (with_reducible refine (HD.out _).mono ?_); rintro e w' ⟨rfl, rfl⟩
    go_wp2
    go_ret
    exact ⟨rfl, (Below.refl _ _).alloc (Nat.le_refl _) _⟩

/-- Two blocks of the call's own: the argument's and the result's. -/
def Two (w w1 : World) (t : TypeId) (a r : Array Value) : Prop := Whole w1 w.heap.size t a ∧ Whole w1 (w.heap.size + 1) t r ∧ Below w.heap.size w w1
section
variable {w w1 w2 : World} {t : TypeId} {a r : Array Value}
theorem Two.first (w : World) (t : TypeId) (a r : Array Value) : Two w ((w.alloc (.cells a t)).alloc (.cells r t)) t a r := by
  have h1 : Whole (w.alloc (.cells a t)) w.heap.size t a := (MapKept.heap_alloc w _).1
  have h2 : Whole ((w.alloc (.cells a t)).alloc (.cells r t)) (w.alloc (.cells a t)).heap.size t r := (MapKept.heap_alloc _ _).1
  refine ⟨h1.alloc _, ?_, ((Below.refl _ _).alloc (Nat.le_refl _) _).alloc (by simp) _⟩
  have e : (w.alloc (.cells a t)).heap.size = w.heap.size + 1 := by simp
  rw [e] at h2; exact h2
theorem Two.start (hb : Below ((w.alloc (.cells a t)).alloc (.cells r t)).heap.size ((w.alloc (.cells a t)).alloc (.cells r t)) w1) : Two w w1 t a r := by
  obtain ⟨h1, h2, h3⟩ := Two.first w t a r
  exact ⟨h1.carry (hb.block _ h1.size_lt), h2.carry (hb.block _ h2.size_lt), h3.trans (hb.mono h3.size)⟩
theorem Two.later (h : Two w w1 t a r) (hb : Below w1.heap.size w1 w2) : Two w w2 t a r :=
  ⟨h.1.carry (hb.block _ h.1.size_lt), h.2.1.carry (hb.block _ h.2.1.size_lt), h.2.2.trans (hb.mono h.2.2.size)⟩
theorem Two.size (h : Two w w1 t a r) : w.heap.size + 1 < w1.heap.size := h.2.1.size_lt
theorem Two.arg (h : Two w w1 t a r) (o : Nat) (u : Value) : Two w (w1.setCell ⟨w.heap.size, o, none⟩ u) t (a.setIfInBounds o u) r :=
  ⟨h.1.put o u, h.2.1.other (by omega) o u, h.2.2.setCell (p := ⟨w.heap.size, o, none⟩) (Nat.le_refl _) u⟩
theorem Two.res (h : Two w w1 t a r) (o : Nat) (u : Value) : Two w (w1.setCell ⟨w.heap.size + 1, o, none⟩ u) t a (r.setIfInBounds o u) :=
  ⟨h.1.other (by omega) o u, h.2.1.put o u, h.2.2.setCell (p := ⟨w.heap.size + 1, o, none⟩) (by simp) u⟩
end
theorem Two.cells {w w1 : World} {t : TypeId} {a0 a1 r0 r1 : Value} (h : Two w w1 t #[a0, a1] #[r0, r1]) :
    w1.cell? ⟨w.heap.size, 0, none⟩ = some a0 ∧ w1.cell? ⟨w.heap.size, 1, none⟩ = some a1 ∧ w1.cell? ⟨w.heap.size + 1, 0, none⟩ = some r0 ∧ w1.cell? ⟨w.heap.size + 1, 1, none⟩ = some r1 ∧
    w1.frozen? ⟨w.heap.size, 0, none⟩ = false ∧ w1.frozen? ⟨w.heap.size, 1, none⟩ = false ∧ w1.frozen? ⟨w.heap.size + 1, 0, none⟩ = false ∧ w1.frozen? ⟨w.heap.size + 1, 1, none⟩ = false :=
  ⟨by rw [h.1.read]; rfl, by rw [h.1.read]; rfl, by rw [h.2.1.read]; rfl, by rw [h.2.1.read]; rfl, h.1.free _, h.1.free _, h.2.1.free _, h.2.1.free _⟩
/-- What Set answers. -/
def StAns (b x s : Int) (w : World) (e : Ending) (w' : World) : Prop := e = .returned (.tuple #[.agg #[.int .i64 (stB b s), .int .u64 (stX b x s)], .int .i64 (stE b s)]) ∧ Below w.heap.size w w'
set_option maxHeartbeats 1000000 in
theorem set_any (b x s : Int) (hx : Wd x) (w : World) : Calls Try.prog 40 #[.agg #[.int .i64 b, .int .u64 x], .int .i64 s] w (StAns b x s w) := by
  have HV := fun w => valid_any b x w
  have HS := fun w => isNumber_any s w
  have HB := fun w => bitOf_any b x s w
  unfold StAns
  rcases both_cases b s with h | h | ⟨h, h1⟩
  · obtain ⟨p, q⟩ := both_parts h
    rw [p] at HV
    rw [q] at HS
    have HV := Lib.hid HV
    have HS := Lib.hid HS
    rcases hc : insB b 64 s with _ | _
    · obtain ⟨e1, e2, e3⟩ := st_far (x := x) h hc
      rw [e1, e2, e3]
      rw [bitV_no hc] at HB
      have HB := Lib.hid HB
      clear e1 e2 e3 hc h p q
      go_enter Try.func40, Try.ntmps40
      go_wp2_with fail
      (with_reducible refine (HV.out _).mono ?_); rintro e w1 ⟨rfl, hb1⟩
      have H1 := Two.start hb1
      obtain ⟨c0, c1, d0, d1, z0, z1, y0, y1⟩ := H1.cells
      have H1 := Lib.hid H1
      clear hb1
      go_wp2_with fail
      (with_reducible refine (HS.out _).mono ?_); rintro e w' ⟨rfl, rfl⟩
      go_wp2_with fail
      (with_reducible refine (HB.out _).mono ?_); rintro e w2 ⟨rfl, hb2⟩
      have H2 := H1.out.later hb2
      clear c0 c1 d0 d1 z0 z1 y0 y1 H1 hb2
      obtain ⟨c0, c1, d0, d1, z0, z1, y0, y1⟩ := H2.cells
      have HF := Lib.hid ((H2.res 0 (.int .i64 0)).res 1 (.int .u64 0)).2.2
      clear H2
      go_wp2
      exact bodyPost_ret (v := .tuple #[.agg #[.int .i64 0, .int .u64 0], .int .i64 2]) (by simp [results, Try.results40, go_sem, d0, d1]) rfl ⟨rfl, HF.out⟩
    · obtain ⟨e1, e2, e3⟩ := st_yes (x := x) h hc
      rw [e1, e2, e3]
      rw [bitV_yes hc] at HB
      have hP := pow_pos' (dOf b s)
      generalize (2 : Int) ^ dOf b s = P at *
      have hP0 : (P == 0) = false := beq_eq_false_iff_ne.2 (by omega)
      have HB := Lib.hid HB
      obtain ⟨Y, hY⟩ : ∃ Y, bits .or .u64 x P = Y := ⟨_, rfl⟩
      rw [hY]
      clear e1 e2 e3 hc h p q hP
      go_enter Try.func40, Try.ntmps40
      go_wp2_with fail
      (with_reducible refine (HV.out _).mono ?_); rintro e w1 ⟨rfl, hb1⟩
      have H1 := Two.start hb1
      obtain ⟨c0, c1, d0, d1, z0, z1, y0, y1⟩ := H1.cells
      have H1 := Lib.hid H1
      clear hb1
      go_wp2_with fail
      (with_reducible refine (HS.out _).mono ?_); rintro e w' ⟨rfl, rfl⟩
      go_wp2_with fail
      (with_reducible refine (HB.out _).mono ?_); rintro e w2 ⟨rfl, hb2⟩
      have H2 := H1.out.later hb2
      clear c0 c1 d0 d1 z0 z1 y0 y1 H1 hb2
      obtain ⟨c0, c1, d0, d1, z0, z1, y0, y1⟩ := H2.cells
      have HF := Lib.hid (((H2.arg 1 (.int .u64 Y)).res 0 (.int .i64 b)).res 1 (.int .u64 Y)).2.2
      clear H2
      go_wp2
      exact bodyPost_ret (v := .tuple #[.agg #[.int .i64 b, .int .u64 Y], .int .i64 0]) (by simp [results, Try.results40, go_sem, d0, d1]) rfl ⟨rfl, HF.out⟩
  · obtain ⟨e1, e2, e3⟩ := st_bad (x := x) (both_no (b := s) (.inl h))
    rw [e1, e2, e3]
    rw [h] at HV
    have HV := Lib.hid HV
    clear e1 e2 e3 h HB HS
    go_enter Try.func40, Try.ntmps40
    go_wp2_with fail
    (with_reducible refine (HV.out _).mono ?_); rintro e w1 ⟨rfl, hb1⟩
    have H1 := Two.start hb1
    obtain ⟨c0, c1, d0, d1, z0, z1, y0, y1⟩ := H1.cells
    have HF := Lib.hid ((H1.res 0 (.int .i64 0)).res 1 (.int .u64 0)).2.2
    clear hb1 H1
    go_wp2
    exact bodyPost_ret (v := .tuple #[.agg #[.int .i64 0, .int .u64 0], .int .i64 1]) (by simp [results, Try.results40, go_sem, d0, d1]) rfl ⟨rfl, HF.out⟩
  · obtain ⟨e1, e2, e3⟩ := st_bad (x := x) (both_no (a := b) (.inr h1))
    rw [e1, e2, e3]
    rw [h] at HV
    rw [h1] at HS
    have HV := Lib.hid HV
    have HS := Lib.hid HS
    clear e1 e2 e3 h h1 HB
    go_enter Try.func40, Try.ntmps40
    go_wp2_with fail
    (with_reducible refine (HV.out _).mono ?_); rintro e w1 ⟨rfl, hb1⟩
    have H1 := Two.start hb1
    obtain ⟨c0, c1, d0, d1, z0, z1, y0, y1⟩ := H1.cells
    have HF := Lib.hid ((H1.res 0 (.int .i64 0)).res 1 (.int .u64 0)).2.2
    clear hb1 H1
    go_wp2_with fail
    (with_reducible refine (HS.out _).mono ?_); rintro e w' ⟨rfl, rfl⟩
    go_wp2
    exact bodyPost_ret (v := .tuple #[.agg #[.int .i64 0, .int .u64 0], .int .i64 1]) (by simp [results, Try.results40, go_sem, d0, d1]) rfl ⟨rfl, HF.out⟩
set_option maxHeartbeats 1000000 in
theorem refSet_any (b x s : Int) (hx : Wd x) (w : World) : Calls Try.prog 47 #[.agg #[.int .i64 b, .int .u64 x], .int .i64 s] w (StAns b x s w) := by
  have HD := fun w => refDist_any b s w
  unfold StAns
  rcases ins64_cases b s with ⟨h1, h2, h3⟩ | ⟨h1, h2, h3⟩ | ⟨h1, h3⟩
  · obtain ⟨e1, e2⟩ := ds_yes h1
    rw [e1, e2, dOf_is] at HD
    obtain ⟨e1, e2, e3⟩ := st_yes (x := x) h1 h3
    rw [e1, e2, e3]
    have HD := Lib.hid HD
    have hp := pow_wrap h2
    clear e1 e2 e3 h1 h3
    generalize dOf b s = k at *
    obtain ⟨Y, hY⟩ : ∃ Y, bits .or .u64 x (2 ^ k) = Y := ⟨_, rfl⟩
    rw [hY]
    go_enter Try.func47, Try.ntmps47
    go_wp2_with fail
    (with_reducible refine (HD.out _).mono ?_); rintro e w' ⟨rfl, rfl⟩
    go_wp2
    exact bodyPost_ret (v := .tuple #[.agg #[.int .i64 b, .int .u64 Y], .int .i64 0]) (by simp [results, Try.results47, go_sem]) rfl ⟨rfl, ((Below.refl _ _).alloc (Nat.le_refl _) _).alloc (by simp) _⟩
  · obtain ⟨e1, e2⟩ := ds_yes h1
    rw [e1, e2, dOf_is] at HD
    obtain ⟨e1, e2, e3⟩ := st_far (x := x) h1 h3
    rw [e1, e2, e3]
    have HD := Lib.hid HD
    clear e1 e2 e3 h1 h3
    generalize dOf b s = k at *
    go_enter Try.func47, Try.ntmps47
    go_wp2_with fail
    (with_reducible refine (HD.out _).mono ?_); rintro e w' ⟨rfl, rfl⟩
    go_wp2
    exact bodyPost_ret (v := .tuple #[.agg #[.int .i64 0, .int .u64 0], .int .i64 2]) (by simp [results, Try.results47, go_sem]) rfl ⟨rfl, ((Below.refl _ _).alloc (Nat.le_refl _) _).alloc (by simp) _⟩
  · obtain ⟨e1, e2⟩ := ds_no h1
    rw [e1, e2] at HD
    obtain ⟨e1, e2, e3⟩ := st_bad (x := x) h1
    rw [e1, e2, e3]
    have HD := Lib.hid HD
    clear e1 e2 e3 h1 h3
    go_enter Try.func47, Try.ntmps47
    go_wp2_with fail
    (with_reducible refine (HD.out _).mono ?_); rintro e w' ⟨rfl, rfl⟩
    go_wp2
    exact bodyPost_ret (v := .tuple #[.agg #[.int .i64 0, .int .u64 0], .int .i64 1]) (by simp [results, Try.results47, go_sem]) rfl ⟨rfl, ((Below.refl _ _).alloc (Nat.le_refl _) _).alloc (by simp) _⟩
end Go.Proofs.Ythmncipenjhknaa

