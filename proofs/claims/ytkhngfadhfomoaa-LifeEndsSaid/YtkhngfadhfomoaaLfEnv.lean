/-
  Layer 18: awake; what ends stays.
-/
import Derived.Test.YtkhngfadhfomoaaLfProg
import Derived.Test.YtkhngfadhfomoaaEnvW
import Derived.Test.YtkhngfadhfomoaaInvR
namespace Go.Proofs.Ytkhngfadhfomoaa
open Go.ChangeShapes Go.WideShapes Go.ChangeAt Go.RowKit
set_option linter.unusedVariables false

theorem la0 : lfAcE 0 100 = 0 ∧ lfAcV LfS.new 0 100 = 1 ∧ LfS.new.acc 0 100 = ⟨[⟨0, 100, 1, 0⟩], [], fun _ => 0⟩ := ⟨rfl, rfl, rfl⟩
theorem lb1 (l : List LfE) (d : List Int) (hl : l.length ≤ 9) (hd : d.length ≤ 9) : LfB ⟨l, d, fun _ => 0⟩ 9999 := ⟨by simp only; omega, by simp only; omega, fun k => by simp⟩
theorem la1 (n : Int) : lfSdE ⟨[⟨0, n, 1, 0⟩], [], fun _ => 0⟩ 1 = 0 ∧ LfS.snd ⟨[⟨0, n, 1, 0⟩], [], fun _ => 0⟩ 1 = ⟨[⟨0, n, 2, 0⟩], [], fun _ => 0⟩ := ⟨rfl, rfl⟩
theorem la2 (n : Int) : lfDvE ⟨[⟨0, n, 2, 0⟩], [], fun _ => 0⟩ 1 = 0 ∧ LfS.dlv ⟨[⟨0, n, 2, 0⟩], [], fun _ => 0⟩ 1 = ⟨[⟨0, n, 3, 0⟩], [1], fun _ => 0⟩ := ⟨rfl, rfl⟩
theorem la3 (n : Int) : lfDpE ⟨[⟨0, n, 3, 0⟩], [1], fun _ => 0⟩ 1 3 = 14 ∧ LfS.drp ⟨[⟨0, n, 3, 0⟩], [1], fun _ => 0⟩ 1 3 = ⟨[⟨0, n, 3, 0⟩], [1], fun _ => 0⟩ := ⟨rfl, rfl⟩
set_option maxRecDepth 100000 in
set_option maxHeartbeats 4000000 in
theorem awake18_any (w : World) : Calls Try.prog 20 #[] w (Calm (.bool true) w) := by
  have hE : Inv w.heap.size w Emp w := Inv.start (T := fun _ => False) (fun k h => h) (fun k h => h.elim) (Below.refl _ _)
  have HX := Lib.hid (hE.call pfnew_any)
  clear hE
  unfold Calm
  go_enter Try.func20, Try.ntmps20
  go_wp2_with fail
  (with_reducible refine HX.out.mono ?_); rintro e w1 ⟨R, rfl, h1⟩
  have hx := Inv.call1 h1 (pfacc_any (LfB.new _) 0 100)
  rw [la0.1, la0.2.1, la0.2.2] at hx
  have HX := Lib.hid hx
  clear h1 hx
  go_wp2_with fail
  (with_reducible refine HX.out.mono ?_); rintro e w2 ⟨rfl, h1⟩
  have hx := Inv.call1 h1 (pfsnd_any (lb1 _ _ (by simp) (by simp)) 1)
  rw [(la1 100).1, (la1 100).2] at hx
  have HX := Lib.hid hx
  clear h1 hx
  go_wp2_with fail
  (with_reducible refine HX.out.mono ?_); rintro e w3 ⟨rfl, h1⟩
  have hx := Inv.call1 h1 (pfdlv_any (lb1 _ _ (by simp) (by simp)) 1)
  rw [(la2 100).1, (la2 100).2] at hx
  have HX := Lib.hid hx
  clear h1 hx
  go_wp2_with fail
  (with_reducible refine HX.out.mono ?_); rintro e w4 ⟨rfl, h1⟩
  have hx := Inv.call1 h1 (pfdrp_any (lb1 _ _ (by simp) (by simp)) 1 3)
  rw [(la3 100).1, (la3 100).2] at hx
  have HX := Lib.hid hx
  clear h1 hx
  go_wp2_with fail
  (with_reducible refine HX.out.mono ?_); rintro e w5 ⟨rfl, h1⟩
  have HF := Lib.hid h1.out
  clear h1 HX
  go_wp2
  go_ret
  exact ⟨rfl, HF.out⟩
/-- A packet that has ended. -/
theorem lfEnd {s : LfS} {id : Int} (h : lfSt s id = 3 ∨ lfSt s id = 4) : lfSdE s id = 14 ∧ s.snd id = s ∧ lfDvE s id = 14 ∧ s.dlv id = s ∧ ∀ y, 1 ≤ y ∧ y ≤ 4 → lfDpE s id y = 14 ∧ s.drp id y = s := by
  have e1 : lfSdE s id = 14 := by unfold lfSdE; rw [if_neg (by omega), if_neg (by omega)]
  have e2 : lfDvE s id = 14 := by unfold lfDvE; rw [if_neg (by omega), if_pos (by omega)]
  refine ⟨e1, by unfold LfS.snd; rw [e1, if_neg (by decide)], e2, by unfold LfS.dlv; rw [e2, if_neg (by decide)], fun y hy => ?_⟩
  have e3 : lfDpE s id y = 14 := by unfold lfDpE; rw [if_neg (by omega), if_neg (by omega), if_pos (by omega)]
  exact ⟨e3, by unfold LfS.drp; rw [e3, if_neg (by decide)]⟩
end Go.Proofs.Ytkhngfadhfomoaa

