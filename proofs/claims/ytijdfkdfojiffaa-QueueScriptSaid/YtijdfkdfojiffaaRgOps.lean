/-
  Layer 5: contracts of the ring's Push, PushFront, Pop, PopBack. Every input.
-/
import Derived.Test.YtijdfkdfojiffaaRgMem
namespace Go.Proofs.Ytijdfkdfojiffaa
open Go.ChangeShapes Go.WideShapes Go.ChangeAt Go.RowKit
set_option linter.unusedVariables false

theorem rgpush_full {w : World} {C H g cap : Nat} {L : Nat → Int} (h : RingO C H g cap cap L w) (x : Int) :
    Calls Try.prog 38 #[.pointer (some ⟨H, 0, none⟩), .int .i64 x] w (RgAns C H g cap cap L (.int .i64 4) w) := by
  have HE := Lib.hid (fun w' hb => RgAns.stay (w' := w') (x := .int .i64 4) h hb)
  obtain ⟨f, X, h, _⟩ := h
  obtain ⟨c0, _, c2, _⟩ := h.cells
  have ht : ((cap : Int) == (cap : Int)) = true := by simp
  clear h
  go_enter Try.func38, Try.ntmps38
  go_wp2_with fail
  go_quiet (fail)
  go_wp2
  go_ret
  exact HE.out _ (Below_drewN (Below.refl _ _) _)
set_option maxHeartbeats 2000000 in
theorem rgpush_ok {w : World} {C H g cap n : Nat} {L : Nat → Int} (h : RingO C H g cap n L w) (hn : n < cap) (x : Int) :
    Calls Try.prog 38 #[.pointer (some ⟨H, 0, none⟩), .int .i64 x] w (RgAns C H g cap (n + 1) (upd L n x) (.int .i64 0) w) := by
  obtain ⟨f, X, h, hX, l1, l2⟩ := h
  have hl := h.len
  obtain ⟨p, hp⟩ : ∃ p, (f + n) % cap = p := ⟨_, rfl⟩
  have hpl : p < cap := by rw [← hp]; exact Nat.mod_lt _ (by omega)
  have hpl' : (p : Int) < cap := by omega
  obtain ⟨c0, _, c2, _, z2⟩ := h.cells
  have zp := h.row.frozen p
  have cp := h.row.cell hpl
  have HC := Lib.hid (fun q => cell_any (h.drewN q) n n p rfl (by omega) hp)
  have HF := Lib.hid (fun q => (show RgAns C H g cap (n + 1) (upd L n x) (.int .i64 0) w (.returned (.int .i64 0)) (((w.drewN q).setCell ⟨g, p, none⟩ (.int .i64 x)).setCell ⟨H, 2, none⟩ (.int .i64 ((n : Int) + 1))) from
    ⟨rfl, ⟨f, _, ((h.drewN q).setAt hpl x).setCount (n' := n + 1) (by omega), hX.push hl.2.2.1 hn hp x, l1, l2⟩, (((Chg.refl _ w).drewN q).setCell (.inr rfl) _ _).setCell (.inl rfl) _ _⟩))
  have ht : ((n : Int) == (cap : Int)) = false := beq_eq_false_iff_ne.2 (by omega)
  have hgH : g ≠ H := h.ne.symm
  clear h hX hp
  go_enter Try.func38, Try.ntmps38
  go_wp2_with fail
  go_quiet (fail)
  go_wp2_with fail
  go_region_with (go_at_call 43; (with_reducible refine (HC.out _).mono ?_); rintro e w1 ⟨rfl, q1, rfl⟩)
  all_goals
    go_wp2
    go_ret
    exact HF.out _
theorem rgpop_none {w : World} {C H g cap : Nat} {L : Nat → Int} (h : RingO C H g cap 0 L w) :
    Calls Try.prog 39 #[.pointer (some ⟨H, 0, none⟩)] w (RgAns C H g cap 0 L (.tuple #[.int .i64 0, .int .i64 5]) w) := by
  have HE := Lib.hid (fun w' hb => RgAns.stay (w' := w') (x := .tuple #[.int .i64 0, .int .i64 5]) h hb)
  obtain ⟨f, X, h, _⟩ := h
  have HA := Lib.hid (rat_no h 0 (.inr (Int.le_refl _)))
  clear h
  go_enter Try.func39, Try.ntmps39
  go_wp2_with fail
  (with_reducible refine HA.out.mono ?_)
  rintro e w1 ⟨rfl, rfl⟩
  go_wp2
  go_ret2
  exact HE.out _ (Below.refl _ _)
set_option maxHeartbeats 2000000 in
theorem rgpop_ok {w : World} {C H g cap n : Nat} {L : Nat → Int} (h : RingO C H g cap (n + 1) L w) :
    Calls Try.prog 39 #[.pointer (some ⟨H, 0, none⟩)] w (RgAns C H g cap n (rmvN L 0) (.tuple #[.int .i64 (L 0), .int .i64 0]) w) := by
  obtain ⟨f, X, h, hX, l1, l2⟩ := h
  have hl := h.len
  obtain ⟨p, hp⟩ : ∃ p, (f + 1) % cap = p := ⟨_, rfl⟩
  have hpl : p < cap := by rw [← hp]; exact Nat.mod_lt _ (by omega)
  obtain ⟨c0, c1, c2, z1, z2⟩ := h.cells
  have HA := rat_yes h 0 0 _ rfl (by omega) rfl
  rw [hX 0 (by omega)] at HA
  have HA := Lib.hid HA
  have HC := Lib.hid (fun q => cell_any (h.drewN q) 1 1 p rfl (by omega) hp)
  have HF := Lib.hid (fun q => (show RgAns C H g cap n (rmvN L 0) (.tuple #[.int .i64 (L 0), .int .i64 0]) w (.returned (.tuple #[.int .i64 (L 0), .int .i64 0])) (((w.drewN q).setCell ⟨H, 1, none⟩ (.int .i64 p)).setCell ⟨H, 2, none⟩ (.int .i64 n)) from
    ⟨rfl, ⟨p, _, ((h.drewN q).setFirst hpl).setCount (n' := n) (by omega), hX.pop hp, l1, l2⟩, (((Chg.refl _ w).drewN q).setCell (.inl rfl) _ _).setCell (.inl rfl) _ _⟩))
  clear h hX hp
  go_enter Try.func39, Try.ntmps39
  go_wp2_with fail
  (with_reducible refine HA.out.mono ?_)
  rintro e w1 ⟨rfl, q0, rfl⟩
  go_wp2_with fail
  (with_reducible refine (HC.out _).mono ?_)
  rintro e w2 ⟨rfl, q1, rfl⟩
  go_wp2
  go_ret2
  exact HF.out _
end Go.Proofs.Ytijdfkdfojiffaa

