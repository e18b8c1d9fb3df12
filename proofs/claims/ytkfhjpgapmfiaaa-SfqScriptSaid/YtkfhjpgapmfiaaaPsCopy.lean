/-
  Layer 13: contract of the program's Copy.
-/
import Derived.Test.YtkfhjpgapmfiaaaPsUpd
import Derived.Test.YtkfhjpgapmfiaaaMcShelf
namespace Go.Proofs.Ytkfhjpgapmfiaaa
open Go.ChangeShapes Go.WideShapes Go.ChangeAt Go.RowKit
set_option linter.unusedVariables false

def ClAns (F : Int → Option Value) (w : World) (e : Ending) (w' : World) : Prop := e = .returned (.map (some w.heap.size)) ∧ MapI w' w.heap.size F ∧ Below w.heap.size w w'
theorem ClAns.of {w w' : World} {b : Nat} {F : Int → Option Value} {es : Array MapEntry} {clock : Nat} {e : Ending} (hE : MapE es clock F) (he : e = .returned (.map (some w.heap.size))) (hw : w' = w.alloc (.map es clock)) : ClAns F w e w' := by
  subst hw
  exact ⟨he, ⟨es, clock, (MapKept.heap_alloc w _).1, hE⟩, (Below.refl _ _).alloc (Nat.le_refl _) _⟩
theorem cloneA_any {w : World} {b : Nat} {F : Int → Option Value} (h : MapI w b F) : Calls Try.prog 34 #[.map (some b)] w (ClAns F w) := by
  obtain ⟨es, clock, hb, hE⟩ := h
  have hcon := AnyW.maps_Clone cloneA b es clock w hb
  change Calls Try.prog 34 _ _ _ at hcon
  exact hcon.mono fun e w' ⟨he, hw⟩ => ClAns.of (b := b) hE he hw
theorem cloneR_any {w : World} {b : Nat} {F : Int → Option Value} (h : MapI w b F) : Calls Try.prog 35 #[.map (some b)] w (ClAns F w) := by
  obtain ⟨es, clock, hb, hE⟩ := h
  have hcon := AnyW.maps_Clone cloneR b es clock w hb
  change Calls Try.prog 35 _ _ _ at hcon
  exact hcon.mono fun e w' ⟨he, hw⟩ => ClAns.of (b := b) hE he hw
/-- What Copy leaves: a reference of its own. -/
def PsCopy (s : Sf) (w : World) (e : Ending) (w' : World) : Prop := e = .returned (.pointer (some ⟨w.heap.size, 0, none⟩)) ∧ PsO (fun k => w.heap.size ≤ k ∧ k < w'.heap.size) w.heap.size s w' ∧ Below w.heap.size w w'
set_option maxHeartbeats 1000000 in
theorem pscopy_any {T : Nat → Prop} {R : Nat} {s : Sf} {w : World} (h : PsO T R s w) : Calls Try.prog 14 #[.pointer (some ⟨R, 0, none⟩)] w (PsCopy s w) := by
  obtain ⟨hs, _, _, a, o, _, _, hw⟩ := h
  obtain ⟨G, hG, hR⟩ := hw.rem
  obtain ⟨c0, c1, c2, c3, c4, _⟩ := hw.cells
  have HW := Lib.hid hw
  have HS := Lib.hid hs
  have HG := Lib.hid hG
  have HR := Lib.hid hR
  have hRl := hw.lts.1
  have HX0 := Lib.hid (Whole.fresh w 61 #[.int .i64 s.at_, .map (some a), .map (some o), .int .i64 s.now, .int .i64 s.away])
  have HB0 := Lib.hid ((Below.refl w.heap.size w).alloc (Nat.le_refl _) (.cells #[.int .i64 s.at_, .map (some a), .map (some o), .int .i64 s.now, .int .i64 s.away] 61))
  have HCA := Lib.hid (cloneA_any (hw.act.keep (HB0.out.block a hw.lts.2.1)))
  unfold ClAns at HCA
  clear hw hs hG hR
  go_enter Try.func14, Try.ntmps14
  go_wp2_with fail
  (with_reducible refine HCA.out.mono ?_); rintro e w1 ⟨rfl, hm1, hb1⟩
  have hX1 := HX0.out.later hb1
  have hB1 := HB0.out.trans (hb1.mono (by simp))
  have f1 := hX1.free
  have y1 := hX1.read 1
  have y2 := hX1.read 2
  simp at y1 y2
  have k2 := ((HW.out.later hB1).cells).2.2.1
  have hX2 := hX1.put 1 (.map (some (w.heap.size + 1)))
  have hB2 := hB1.setCell (p := ⟨w.heap.size, 1, none⟩) (Nat.le_refl _) (.map (some (w.heap.size + 1)))
  have hm2 : MapI (w1.setCell ⟨w.heap.size, 1, none⟩ (.map (some (w.heap.size + 1)))) (w.heap.size + 1) (actF s) := by
    have h9 := hm1.keep (w' := w1.setCell ⟨w.heap.size, 1, none⟩ (.map (some (w.heap.size + 1)))) (Below.heap_setCell w1 ⟨w.heap.size, 1, none⟩ _ _ (by simp))
    simpa using h9
  have HCR := Lib.hid (cloneR_any (HG.out.keep (hB2.block o HG.out.lt)))
  unfold ClAns at HCR
  have HX2 := Lib.hid hX2
  have HB2 := Lib.hid hB2
  have HM2 := Lib.hid hm2
  have hsz1 := hb1.size
  have hsz : w.heap.size + 1 < w1.heap.size := by have := hm1.lt; simpa using this
  clear hm1 hb1 hX1 hB1 hX2 hB2 hm2 HCA
  go_wp2_with fail
  (with_reducible refine HCR.out.mono ?_); rintro e w2 ⟨rfl, hm3, hb3⟩
  have hX3 := HX2.out.later hb3
  have hsz3 : (w1.setCell ⟨w.heap.size, 1, none⟩ (.map (some (w.heap.size + 1)))).heap.size = w1.heap.size := by simp
  have hm2 := HM2.out.keep (hb3.block _ HM2.out.lt)
  have hB3 := HB2.out.trans (hb3.mono (by rw [hsz3]; omega))
  have f3 := hX3.free
  have z2 := hX3.read 2
  simp at z2
  rw [hsz3] at hm3
  have hlt3 := hm3.lt
  have hX4 := hX3.put 2 (.map (some w1.heap.size))
  have hB4 := hB3.setCell (p := ⟨w.heap.size, 2, none⟩) (Nat.le_refl _) (.map (some w1.heap.size))
  have hm4 := hm3.keep (w' := w2.setCell ⟨w.heap.size, 2, none⟩ (.map (some w1.heap.size))) (Below.heap_setCell w2 ⟨w.heap.size, 2, none⟩ _ _ (by simp; omega))
  have hm5 := hm2.keep (w' := w2.setCell ⟨w.heap.size, 2, none⟩ (.map (some w1.heap.size))) (Below.heap_setCell w2 ⟨w.heap.size, 2, none⟩ _ _ (by simp))
  have HF := Lib.hid (show PsCopy s w (.returned (.pointer (some ⟨w.heap.size, 0, none⟩))) (w2.setCell ⟨w.heap.size, 2, none⟩ (.map (some w1.heap.size))) from
    ⟨rfl, ⟨HS.out, fun k hk => hk.2, ⟨Nat.le_refl _, by simp; omega⟩, w.heap.size + 1, w1.heap.size, ⟨by omega, by simp; omega⟩, ⟨by omega, by simp; omega⟩, ⟨hX4, hm5, ⟨G, hm4, HR.out⟩, by omega⟩⟩, hB4⟩)
  clear hm3 hb3 hX3 hm2 hB3 hX4 hB4 hm4 hm5 HCR HX2 HB2 HM2 hsz1 hsz hsz3 hlt3
  go_wp2
  go_ret
  exact HF.out
end Go.Proofs.Ytkfhjpgapmfiaaa

