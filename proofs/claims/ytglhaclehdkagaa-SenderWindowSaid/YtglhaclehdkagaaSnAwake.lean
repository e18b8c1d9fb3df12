/-
  Layer 16: the walk of awake; New at any numbers. No form of the program's object is named.
-/
import Derived.Test.YtglhaclehdkagaaSnEnv
namespace Go.Proofs.Ytglhaclehdkagaa
open Go.ChangeShapes Go.WideShapes Go.ChangeAt Go.RowKit
set_option linter.unusedVariables false

/-- New at any numbers: the error. -/
def snNE (w t : Int) : Int := if snB w t = true then 0 else 1
def NewAnyP (x : Int) (w : World) (e : Ending) (w' : World) : Prop := ∃ p, e = .returned (.tuple #[p, .int .i64 x]) ∧ Below w.heap.size w w'
theorem psnewE_any (x y : Int) (w : World) : Calls Try.prog 9 #[.int .i64 x, .int .i64 y] w (NewAnyP (snNE x y) w) := by
  unfold snNE
  cases hc : snB x y
  · refine (psnew_no hc w).mono ?_
    rintro e w' ⟨e1, h1⟩
    exact ⟨_, e1, h1⟩
  · refine (psnew_any hc (base := w.heap.size) (fun _ => False) w (fun k h => h) (fun k h => h.elim) (Nat.le_refl _)).mono ?_
    rintro e w' ⟨b, e1, _, h1⟩
    exact ⟨_, e1, h1.below (Nat.le_refl _) (fun k h => h.elim)⟩
theorem rsnewE_any (x y : Int) (w : World) : Calls Try.prog 10 #[.int .i64 x, .int .i64 y] w (NewAnyP (snNE x y) w) := by
  unfold snNE
  cases hc : snB x y
  · refine (rsnew_no hc w).mono ?_
    rintro e w' ⟨e1, h1⟩
    exact ⟨_, e1, h1⟩
  · refine (rsnew_any hc (base := w.heap.size) (fun _ => False) w (fun k h => h) (fun k h => h.elim) (Nat.le_refl _)).mono ?_
    rintro e w' ⟨b, e1, _, h1⟩
    exact ⟨_, e1, h1.below (Nat.le_refl _) (fun k h => h.elim)⟩
theorem aw0 : snB 2 3 = true := by decide
theorem aw1 : snAsV (SnS.new 2 3) 7 = 0 ∧ snAsE (SnS.new 2 3) 7 = 0 ∧ (SnS.new 2 3).asg 7 = ⟨2, 3, 1, [⟨0, 7, 0⟩]⟩ := ⟨by kernel_rfl, by kernel_rfl, by kernel_rfl⟩
theorem aw2 : snAsV ⟨2, 3, 1, [⟨0, 7, 0⟩]⟩ 8 = 1 ∧ snAsE ⟨2, 3, 1, [⟨0, 7, 0⟩]⟩ 8 = 0 ∧ SnS.asg ⟨2, 3, 1, [⟨0, 7, 0⟩]⟩ 8 = ⟨2, 3, 2, [⟨0, 7, 0⟩, ⟨1, 8, 0⟩]⟩ := ⟨by kernel_rfl, by kernel_rfl, by kernel_rfl⟩
theorem aw3 : snAsV ⟨2, 3, 2, [⟨0, 7, 0⟩, ⟨1, 8, 0⟩]⟩ 9 = 0 ∧ snAsE ⟨2, 3, 2, [⟨0, 7, 0⟩, ⟨1, 8, 0⟩]⟩ 9 = 4 ∧ SnS.asg ⟨2, 3, 2, [⟨0, 7, 0⟩, ⟨1, 8, 0⟩]⟩ 9 = ⟨2, 3, 2, [⟨0, 7, 0⟩, ⟨1, 8, 0⟩]⟩ := ⟨by kernel_rfl, by kernel_rfl, by kernel_rfl⟩
theorem aw4 : snAkL ⟨2, 3, 2, [⟨0, 7, 0⟩, ⟨1, 8, 0⟩]⟩ 1 0 = [7] ∧ SnS.ack ⟨2, 3, 2, [⟨0, 7, 0⟩, ⟨1, 8, 0⟩]⟩ 1 0 = ⟨2, 3, 2, [⟨1, 8, 0⟩]⟩ := ⟨by kernel_rfl, by kernel_rfl⟩
theorem aw5 : snAsV ⟨2, 3, 2, [⟨1, 8, 0⟩]⟩ 9 = 2 ∧ snAsE ⟨2, 3, 2, [⟨1, 8, 0⟩]⟩ 9 = 0 := ⟨by kernel_rfl, by kernel_rfl⟩
theorem pasgV {R : Nat} {s s' : SnS} {base : Nat} {w0 w : World} {id v e : Int} (h : Inv base w0 (SnP R s) w) (hn : s.l.length ≤ 9999) (hv : snAsV s id = v) (he : snAsE s id = e) (hs : s.asg id = s') :
    Calls Try.prog 23 #[.pointer (some ⟨R, 0, none⟩), .int .i64 id] w fun en w' => en = .returned (.tuple #[.int .i64 v, .int .i64 e]) ∧ Inv base w0 (SnP R s') w' := by
  subst hv he hs
  exact Inv.call1 h (psasg_any hn id)
theorem pasgX {R : Nat} {s : SnS} {base : Nat} {w0 w : World} {id v e : Int} {X : RP} (hX : Frm base X) (h : Inv base w0 (Star X (SnP R s)) w) (hn : s.l.length ≤ 9999) (hv : snAsV s id = v) (he : snAsE s id = e) :
    Calls Try.prog 23 #[.pointer (some ⟨R, 0, none⟩), .int .i64 id] w fun en w' => en = .returned (.tuple #[.int .i64 v, .int .i64 e]) ∧ Inv base w0 (Star X (SnP R (s.asg id))) w' := by
  subst hv he
  exact Inv.call1 h (Acts.right hX (psasg_any hn id))
set_option maxRecDepth 100000 in
set_option maxHeartbeats 4000000 in
theorem awake16_any (w : World) : Calls Try.prog 20 #[] w (Calm (.bool true) w) := by
  have hE : Inv w.heap.size w Emp w := Inv.start (T := fun _ => False) (fun k h => h) (fun k h => h.elim) (Below.refl _ _)
  have HX := Lib.hid (hE.call (psnew_any aw0))
  clear hE
  unfold Calm
  go_enter Try.func20, Try.ntmps20
  go_wp2_with fail
  (with_reducible refine HX.out.mono ?_); rintro e w1 ⟨R, rfl, h1⟩
  have HX := Lib.hid (pasgV h1 (by simp [SnS.new]) aw1.1 aw1.2.1 aw1.2.2)
  clear h1
  go_wp2_with fail
  (with_reducible refine HX.out.mono ?_); rintro e w2 ⟨rfl, h1⟩
  have HX := Lib.hid (pasgV h1 (by simp) aw2.1 aw2.2.1 aw2.2.2)
  clear h1
  go_wp2_with fail
  (with_reducible refine HX.out.mono ?_); rintro e w3 ⟨rfl, h1⟩
  have HX := Lib.hid (pasgV h1 (by simp) aw3.1 aw3.2.1 aw3.2.2)
  clear h1
  go_wp2_with fail
  (with_reducible refine HX.out.mono ?_); rintro e w4 ⟨rfl, h1⟩
  have hX := h1.call (psack_any (by simp) 1 0 ⟨by omega, by omega⟩)
  rw [aw4.1, aw4.2] at hX
  have HX := Lib.hid hX
  clear h1 hX
  go_wp2_with fail
  (with_reducible refine HX.out.mono ?_); rintro e w5 ⟨v, rfl, h1⟩
  have HX := Lib.hid (pasgX LsP.frm h1 (by simp) aw5.1 aw5.2)
  clear h1
  go_wp2_with fail
  (with_reducible refine HX.out.mono ?_); rintro e w6 ⟨rfl, h1⟩
  have hl := LsP.any h1
  have hb6 := (Below.refl w6.heap.size w6).alloc (Nat.le_refl _) (.cells (csI 7).toArray 3)
  have HX := Lib.hid (eqI_any (by simp) (hl.later hb6) (LsA.lit intElt w6 7))
  have HB := Lib.hid (h1.out.trans (hb6.mono h1.size))
  unfold Calm at HX
  unfold csI at HX HB
  clear h1 hl hb6
  go_wp2_with fail
  (with_reducible refine HX.out.mono ?_); rintro e w7 ⟨rfl, hb7⟩
  have HF := Lib.hid (HB.out.trans (hb7.mono HB.out.size))
  clear hb7 HB HX
  go_wp2
  go_ret
  exact ⟨rfl, HF.out⟩
end Go.Proofs.Ytglhaclehdkagaa

