/-
  Layer 15's law: awake; words for the walks.
-/
import Derived.Test.YtaohfcchejedkaaChProg
namespace Go.Proofs.Ytaohfcchejedkaa
open Go.ChangeShapes Go.WideShapes Go.ChangeAt Go.RowKit
set_option linter.unusedVariables false

section
variable {base R : Nat} {s : Ch} {P : RP} {w w0 : World} {g : Bool}
/-- The program's channel at the left, anything at the right. -/
theorem Inv.pann (h : Inv base w0 (Star (ChP R s) P) w) (hP : Frm base P) (g : Bool) : Calls Try.prog 15 #[.pointer (some ⟨R, 0, none⟩), .bool g] w fun e w' => e = .returned (.tuple #[]) ∧ Inv base w0 (Star (ChP R (s.ann g)) P) w' :=
  h.call1 ((pann_any g).star hP)
theorem Inv.pobs (h : Inv base w0 (Star (ChP R s) P) w) (hP : Frm base P) (hn : s.l.length ≤ 99999) (g : Bool) : Calls Try.prog 17 #[.pointer (some ⟨R, 0, none⟩), .bool g] w fun e w' => e = .returned (.tuple #[]) ∧ Inv base w0 (Star (ChP R (s.obs g)) P) w' :=
  h.call1 ((pobs_any hn g).star hP)
theorem Inv.ppred (h : Inv base w0 (Star (ChP R s) P) w) (hP : Frm base P) (hn : s.l.length ≤ 100000) : Calls Try.prog 20 #[.pointer (some ⟨R, 0, none⟩)] w fun e w' => e = .returned (.bool (prB s)) ∧ Inv base w0 (Star (ChP R s) P) w' :=
  h.call1 ((Acts.calm ChP.frm fun T w h => ppred_any hn h).star hP)
theorem Inv.pscore (h : Inv base w0 (Star (ChP R s) P) w) (hP : Frm base P) (hn : s.l.length ≤ 100000) : Calls Try.prog 19 #[.pointer (some ⟨R, 0, none⟩)] w fun e w' => e = .returned (.tuple #[.int .i64 s.l.length, .int .i64 s.ri]) ∧ Inv base w0 (Star (ChP R s) P) w' :=
  h.call1 ((Acts.calm ChP.frm fun T w h => pscore_any hn h).star hP)
theorem Inv.pnew (h : Inv base w0 P w) (hP : Frm base P) {p : Pd} (hp : pdB p = true) : Calls Try.prog 9 #[aggPd p] w fun e w' => ∃ R, e = .returned (.tuple #[.pointer (some ⟨R, 0, none⟩), .int .i64 0]) ∧ Inv base w0 (Star (ChP R (Ch.new p)) P) w' :=
  h.emp.call ((pnew_any hp).star hP)
end
theorem Inv.pcalm {base R : Nat} {s : Ch} {P : RP} {w w0 : World} (h : Inv base w0 (Star (ChP R s) P) w) (hn : s.l.length ≤ 100000) : Calls Try.prog 20 #[.pointer (some ⟨R, 0, none⟩)] w (Calm (.bool (prB s)) w) := by
  obtain ⟨T, ⟨A, B, _, _, hp, _⟩, _⟩ := h
  exact ppred_any hn hp
theorem awake15_any (w : World) : Calls Try.prog 12 #[] w (Calm (.bool true) w) := by
  have h0 : Inv w.heap.size w Emp w := Inv.start (T := fun _ => False) (fun k h => h) (fun k h => h.elim) (Below.refl _ _)
  have HX := h0.pnew Frm.emp (p := ⟨1, 2, 3⟩) rfl
  unfold aggPd at HX
  simp only at HX
  have HX := Lib.hid HX
  unfold Calm
  clear h0
  go_enter Try.func12, Try.ntmps12
  go_wp2_with fail
  (with_reducible refine HX.out.mono ?_); rintro e w1 ⟨R, rfl, h1⟩
  have h2 := h1.ppred Frm.emp (by decide)
  rw [show prB (Ch.new ⟨1, 2, 3⟩) = true from rfl] at h2
  have HX := Lib.hid h2
  clear h1 h2
  go_wp2_with fail
  (with_reducible refine HX.out.mono ?_); rintro e w2 ⟨rfl, h1⟩
  have HX := Lib.hid (h1.pobs Frm.emp (by decide) false)
  clear h1
  go_wp2_with fail
  (with_reducible refine HX.out.mono ?_); rintro e w3 ⟨rfl, h1⟩
  have h2 := h1.ppred Frm.emp (by decide)
  rw [show prB ((Ch.new ⟨1, 2, 3⟩).obs false) = true from rfl] at h2
  have HX := Lib.hid h2
  clear h1 h2
  go_wp2_with fail
  (with_reducible refine HX.out.mono ?_); rintro e w4 ⟨rfl, h1⟩
  have HX := Lib.hid (h1.pobs Frm.emp (by decide) false)
  clear h1
  go_wp2_with fail
  (with_reducible refine HX.out.mono ?_); rintro e w5 ⟨rfl, h1⟩
  have h2 := h1.ppred Frm.emp (by decide)
  rw [show prB (((Ch.new ⟨1, 2, 3⟩).obs false).obs false) = false from rfl] at h2
  have HX := Lib.hid h2
  clear h1 h2
  go_wp2_with fail
  (with_reducible refine HX.out.mono ?_); rintro e w6 ⟨rfl, h1⟩
  have HX := Lib.hid (h1.pobs Frm.emp (by decide) true)
  clear h1
  go_wp2_with fail
  (with_reducible refine HX.out.mono ?_); rintro e w7 ⟨rfl, h1⟩
  have h2 := h1.ppred Frm.emp (by decide)
  rw [show prB ((((Ch.new ⟨1, 2, 3⟩).obs false).obs false).obs true) = false from rfl] at h2
  have HX := Lib.hid h2
  clear h1 h2
  go_wp2_with fail
  (with_reducible refine HX.out.mono ?_); rintro e w8 ⟨rfl, h1⟩
  have HF := Lib.hid h1.out
  clear h1
  go_wp2
  go_ret
  exact ⟨rfl, HF.out⟩
end Go.Proofs.Ytaohfcchejedkaa

