/-
  A row of the call's own that grows by a whole list, beside the objects (At.app_ls: where the row lies then). Any layer. No program is named.
-/
import Derived.Test.YthmncipenjhknaaAt
import Derived.Maps.AppendAt
namespace Go.Proofs.Ythmncipenjhknaa
open Go.ChangeShapes Go.WideShapes Go.ChangeAt Go.RowKit
set_option linter.unusedVariables false

section
universe u
variable {α : Type u} {cs : α → List Value} {m : Nat} {t TY : TypeId} {w w' w1 : World} {T : Nat → Prop} {v u : Value} {l M : List α} {P Q : RP}
theorem Elt.app_lsA (E : Elt cs m t TY) {C n : Nat} (h : w.ownsRow C t m v n (srs cs l)) (hu : LsG cs m t w T u M) (hnn : n ≤ 100000) (hm : M.length ≤ 100000) (hC : C ≤ w.heap.size) :
    ∃ A c w', (Builtin.append_ #[TY, TY] TY #[v, u]).run Try.prog w = .ok (.slice A (n + M.length) c) w' ∧ w'.ownsRow C t m (.slice A (n + M.length) c) (n + M.length) (srs cs (l ++ M)) ∧ w.grownBy w' v.ownBlock ∧
      ((Value.slice A (n + M.length) c).ownBlock = v.ownBlock ∨ (Value.slice A (n + M.length) c).ownBlock = some w.heap.size) := by
  obtain ⟨z, bytes, hz, hby, hinf⟩ := E.inf
  have hn := E.len
  have hone := E.one
  have hm0 := E.pos
  obtain ⟨i0, hii, hz0, hz1, hz2⟩ := info_parts hinf
  obtain ⟨A, c, rfl, g2, g3, g4⟩ := hu
  have hbig : (n + M.length) * bytes ≤ 140737488355328 := by
    have : (n + M.length) * bytes ≤ 200000 * 1000 := Nat.mul_le_mul (by omega) hby
    omega
  have fin : ∃ v' w', (Builtin.append_ #[TY, TY] TY #[v, .slice A M.length c]).run Try.prog w = .ok v' w' ∧ w'.ownsRow C t m v' (n + M.length) (srs cs (l ++ M)) ∧ w.grownBy w' v.ownBlock ∧ (v'.ownBlock = v.ownBlock ∨ v'.ownBlock = some w.heap.size) := by
    rcases g4 with ⟨rfl, hM0⟩ | ⟨b, off, cur, rfl, e2, e3, e4⟩
    · obtain rfl : M = [] := List.eq_nil_of_length_eq_zero (by omega)
      exact ⟨v, w, run_append_owned_none w C TY TY _ i0 m E.und hii v n _ h, by simpa using h, World.grownBy.refl _ _, .inl rfl⟩
    · obtain ⟨v', w', hrun, hv, hg, _, hat⟩ := run_append_own_at (P := Try.prog) w C TY TY _ i0 _ m bytes E.und hii hz0 hz1 hz2 hz hm0 v n _ h ⟨b, off, none⟩ M.length c (srs cs M) (srs_len hn M)
        (fun j x hj => by
          have hjl : j < M.length * m := by
            rcases Nat.lt_or_ge j (M.length * m) with h' | h'
            · exact h'
            · rw [List.getElem?_eq_none (by rw [srs_len hn]; exact h')] at hj; cases hj
          have hq : j / m * m + j % m = j := by rw [Nat.mul_comm]; exact Nat.div_add_mod j m
          have hd : j / m < M.length := Nat.div_lt_of_lt_mul (by rw [Nat.mul_comm]; exact hjl)
          have hr := Nat.mod_lt j hm0
          have h3 := e4 (j / m) hd (j % m) hr
          rw [← hq, srs_at hn M (j / m) (j % m) hd hr, ← h3] at hj
          rw [Addr.add_lit, ← hj]; congr 2; omega)
        (fun x hx => by
          unfold srs at hx
          rw [List.mem_flatMap] at hx
          obtain ⟨t, _, ht⟩ := hx
          exact hone t x ht)
        (by unfold maxLen; omega) hbig hC
      exact ⟨v', w', hrun, by rw [srs_app]; exact hv, hg, hat⟩
  obtain ⟨v', w', hrun, hv, hg, hat⟩ := fin
  obtain ⟨A', c', rfl⟩ := ow_shape hv
  exact ⟨A', c', w', hrun, hv, hg, hat⟩
/-- The row at the left, the list beside it, the objects at the right: append(row, list...). -/
theorem At.app_ls (E : Elt cs m t TY) (h : At T w (Star (RowP cs m t 0 v l) (Star (LsP cs m t u M) P)) w1) (hP : Frm 0 P) (hn : l.length ≤ 100000) (hm : M.length ≤ 100000) :
    ∃ A c w2, (Builtin.append_ #[TY, TY] TY #[v, u]).run Try.prog w1 = .ok (.slice A (l.length + M.length) c) w2 ∧ At T w (Star (RowP cs m t 0 (.slice A (l.length + M.length) c) (l ++ M)) P) w2 := by
  obtain ⟨T1, ⟨A1, B1, hT, hd, ⟨g1, g2⟩, ⟨A2, B2, hT2, hd2, hu, hp⟩⟩, h2, h3⟩ := h
  obtain ⟨A, c, w2, hrun, hv, hg, hat⟩ := E.app_lsA g2 hu.2 hn hm (Nat.zero_le _)
  have hch : Chg A1 w1 w2 := ⟨hg.os, hg.tape, hg.output, hg.size, fun k hk1 hk2 => hg.block k hk1 (fun e => hk2 ((g1 k).2 e.symm))⟩
  have hv' : w2.ownsRow 0 t m (.slice A (l.length + M.length) c) (l ++ M).length (srs cs (l ++ M)) := by rw [List.length_append]; exact hv
  have hB : ∀ k, B2 k → B1 k := fun k hk => (hT2 k).2 (.inr hk)
  refine ⟨A, c, w2, hrun, fun k => (Value.slice A (l.length + M.length) c).ownBlock = some k ∨ B2 k, ⟨fun k => (Value.slice A (l.length + M.length) c).ownBlock = some k, B2, fun k => Iff.rfl, fun k e hb1 => ?_, ⟨fun k => Iff.rfl, hv'⟩, hP.chg hp hch (fun _ _ => Nat.zero_le _) (fun k hk1 hk2 => hd k hk2 (hB k hk1))⟩, fun k hk1 => ?_, h3.join hch (fun k hk1 => h2 k ((hT k).2 (.inl hk1)))⟩
  · rcases hat with e2 | e2
    · rw [e2] at e
      exact hd k ((g1 k).2 e) (hB k hb1)
    · rw [e2] at e
      have h9 := hP.lt hp k hb1
      have : w1.heap.size = k := by simpa using e
      omega
  · rcases hk1 with e | hb1
    · rcases hat with e2 | e2
      · rw [e2] at e
        exact h2 k ((hT k).2 (.inl ((g1 k).2 e)))
      · rw [e2] at e
        have : w1.heap.size = k := by simpa using e
        have := h3.size
        exact .inr (by omega)
    · exact h2 k ((hT k).2 (.inr (hB k hb1)))
/-- A row of the call's own, looked at from farther off. -/
theorem RowP.low {b0 : Nat} (h : RowP cs m t b0 v l T w) : RowP cs m t 0 v l T w := ⟨h.1, oww h.2 (Nat.zero_le _)⟩
end
end Go.Proofs.Ythmncipenjhknaa

