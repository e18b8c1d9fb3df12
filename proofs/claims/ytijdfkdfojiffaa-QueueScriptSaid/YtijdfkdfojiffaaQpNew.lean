/-
  Layer 11: contracts of the program's New, Push.
-/
import Derived.Test.YtijdfkdfojiffaaQpTake
import Derived.Test.YtijdfkdfojiffaaQuRef4
namespace Go.Proofs.Ytijdfkdfojiffaa
open Go.ChangeShapes Go.WideShapes Go.ChangeAt Go.RowKit
set_option linter.unusedVariables false

/-- A row that has just been made, of zero packets. -/
theorem Whole.of_make {w : World} {base g n : Nat} {t : TypeId} (hown : w.ownsRow base t 5 (.slice (some ⟨g, 0, none⟩) n n) n (madeCells (Value.agg #[.int .i64 0, .int .i64 0, .int .i64 0, .int .i64 0, .int .i64 0]).cells (n * 5)).toList) (he : (madeCells (Value.agg #[.int .i64 0, .int .i64 0, .int .i64 0, .int .i64 0, .int .i64 0]).cells (n * 5)).toList = srs csP (List.replicate n pk0)) :
    Whole w g t (srs csP (List.replicate n pk0)).toArray := by
  rw [he] at hown
  rcases hown.2 with ⟨h2, _⟩ | ⟨g', cap', cur, hv, _, hh, hn, _, hc, htake⟩
  · simp at h2
  · simp only [Value.slice.injEq, Option.some.injEq, Addr.mk.injEq, and_true, true_and] at hv
    obtain ⟨rfl, rfl⟩ := hv
    have hl : cur.toList = srs csP (List.replicate n pk0) := by rw [← htake, List.take_of_length_le (by simp; omega)]
    rw [← hl]; exact hh
theorem made64 : (madeCells (Value.agg #[.int .i64 0, .int .i64 0, .int .i64 0, .int .i64 0, .int .i64 0]).cells (64 * 5)).toList = srs csP (List.replicate 64 pk0) := by kernel_rfl
/-- What New answers to permitted caps. -/
def QNew (p c : Int) (w : World) (e : Ending) (w' : World) : Prop :=
  ∃ b : Qb, e = .returned (.tuple #[.pointer (some ⟨b.H, 0, none⟩), .int .i64 0]) ∧ QO w.heap.size b ⟨p, c, []⟩ w' ∧ Below w.heap.size w w'
theorem QNew.mk {p c : Int} (h : cpB p c = true) {w w2 w3 : World} {G H R N : Nat} (hrow : Whole w2 G 40 (srs csP (List.replicate 64 pk0)).toArray) (hb2 : Below w.heap.size w w2) (hG : w.heap.size ≤ G) (hH : w.heap.size ≤ H)
    (hblk : Whole w2 H 57 #[.int .i64 p, .int .i64 c, .slice (some ⟨G, 0, none⟩) 64 64, .pointer none])
    (hr : RingO w2.heap.size R N 64 0 (fun _ => 0) w3) (hb3 : Below w2.heap.size w2 w3) :
    QNew p c w (.returned (.tuple #[.pointer (some ⟨H, 0, none⟩), .int .i64 0])) (w3.setCell ⟨H, 3, none⟩ (.pointer (some ⟨R, 0, none⟩))) := by
  have hl := hr.lo
  have hR := hl R (.inl rfl)
  have hN := hl N (.inr rfl)
  have hHl := hblk.size_lt
  have hGl := hrow.size_lt
  have hne : G ≠ H := by
    intro e
    have a1 : w2.heap[G]? = _ := hrow
    have a2 : w2.heap[H]? = _ := hblk
    rw [e, a2] at a1
    simp at a1
  refine ⟨⟨H, G, R, N⟩, rfl, ⟨QuOk.new h, List.replicate 64 pk0, [], ⟨(hblk.later hb3).put 3 _, (hrow.later hb3).other hne 3 _, List.length_replicate, ?_, ⟨hH, hG⟩⟩, Pl.new⟩, ?_⟩
  · obtain ⟨f, X, h3, h4, h5, h6⟩ := hr
    refine ⟨f, X, h3.keep (fun k hk => Below.heap_setCell _ ⟨H, 3, none⟩ _ k ?_), fun i hi => absurd hi (Nat.not_lt_zero _), Nat.le_trans hb2.size hR.1, Nat.le_trans hb2.size hN.1⟩
    show k ≠ H
    rcases hk with e | e <;> omega
  · exact (hb2.trans (hb3.mono hb2.size)).setCell (p := ⟨H, 3, none⟩) hH _
set_option maxRecDepth 100000 in
set_option maxHeartbeats 2000000 in
theorem qnew_any {p c : Int} (h : cpB p c = true) (w : World) : Calls Try.prog 9 #[.int .i64 p, .int .i64 c] w (QNew p c w) := by
  obtain ⟨i0, hii, hz0, hz1, hz2⟩ := info_parts info_pk
  have HK := Lib.hid (fun (w2 w3 : World) (G H R N : Nat) hrow hb2 hG hH hblk hr hb3 => QNew.mk (w := w) (w2 := w2) (w3 := w3) (G := G) (H := H) (R := R) (N := N) h hrow hb2 hG hH hblk hr hb3)
  have HC := Lib.hid (fun (w2 : World) (H : Nat) (x2 x3 : Value) hw => qcaps_ok (a0 := 0) (b0 := 0) (x2 := x2) (x3 := x3) h (H := H) (w := w2) hw)
  have HR := Lib.hid (fun w2 => (show Calls Try.prog 27 #[.int .i64 64] w2 (RgNew 64 w2) from rgnew_ok 64 w2 (by decide) (by decide)))
  clear h
  go_enter Try.func9, Try.ntmps9
  go_wp2_with (at_make; refine wpList_make_full _ rfl _ _ 35 rfl w.heap.size 40 i0 _ 5 Try.underlying35 hii hz0 hz1 .i64 .i64 _ _ 64 rfl rfl rfl rfl (by rw [hz2]; omega) (by unfold maxLen; omega) (Nat.le_refl _) ?_; intro w3 hown hg; have HO := Lib.hid hown; have HG := Lib.hid hg; clear hown hg hii hz0 hz1 hz2)
  have HW3 := Lib.hid (Whole.of_make HO.out made64)
  have HB3 := Lib.hid ((Below.refl w.heap.size w).grown HG.out (Nat.le_refl _) (by intro k hk; cases hk))
  have hF := Whole.fresh w3 57 #[.int .i64 0, .int .i64 0, .slice (some ⟨w.heap.size, 0, none⟩) 64 64, .pointer none]
  have HF := Lib.hid hF
  have HCC := Lib.hid (HC.out _ _ _ _ hF)
  have HB4 := Lib.hid ((((HB3.out.alloc HB3.out.size (.cells #[.int .i64 0, .int .i64 0, .slice (some ⟨w.heap.size, 0, none⟩) 64 64, .pointer none] 57)).setCell (p := ⟨w3.heap.size, 0, none⟩) HB3.out.size (.int .i64 p)).setCell (p := ⟨w3.heap.size, 1, none⟩) HB3.out.size (.int .i64 c)))
  have HF4 := Lib.hid ((hF.put 0 (.int .i64 p)).put 1 (.int .i64 c))
  have HW4 := Lib.hid (((HW3.out.alloc (.cells #[.int .i64 0, .int .i64 0, .slice (some ⟨w.heap.size, 0, none⟩) 64 64, .pointer none] 57)).other (g' := w3.heap.size) (by have := HW3.out.size_lt; omega) 0 (.int .i64 p)).other (g' := w3.heap.size) (by have := HW3.out.size_lt; omega) 1 (.int .i64 c))
  have hsz := HB3.out.size
  clear hF HO HG
  go_wp2_with fail
  (with_reducible refine HCC.out.mono ?_); rintro e w4 ⟨rfl, hw4⟩
  rw [hw4] at HB4 HF4 HW4
  clear hw4 HCC HF
  go_wp2_with fail
  (with_reducible refine (HR.out _).mono ?_); intro e w5 hr
  obtain ⟨R, N, rfl, hring, hb5⟩ := hr
  have hf5 := HF4.out.later hb5
  have x3 : w5.cell? ⟨w3.heap.size, 3, none⟩ = some (.pointer none) := hf5.read 3
  have xf := hf5.free 3
  have HE := Lib.hid (HK.out w4 w5 _ _ _ _ HW4.out HB4.out (Nat.le_refl _) HB3.out.size HF4.out hring hb5)
  clear hring hb5 hf5 HK HC HR
  go_wp2
  go_ret2
  exact HE.out
theorem qnew_no {p c : Int} (h : cpB p c = false) (w : World) : Calls Try.prog 9 #[.int .i64 p, .int .i64 c] w (Calm (.tuple #[.pointer none, .int .i64 1]) w) := by
  obtain ⟨i0, hii, hz0, hz1, hz2⟩ := info_parts info_pk
  have HC := Lib.hid (fun (H : Nat) (w2 : World) => qcaps_no h H w2)
  clear h
  unfold Calm
  go_enter Try.func9, Try.ntmps9
  go_wp2_with (at_make; refine wpList_make_full _ rfl _ _ 35 rfl w.heap.size 40 i0 _ 5 Try.underlying35 hii hz0 hz1 .i64 .i64 _ _ 64 rfl rfl rfl rfl (by rw [hz2]; omega) (by unfold maxLen; omega) (Nat.le_refl _) ?_; intro w3 hown hg; have HG := Lib.hid hg; clear hown hg hii hz0 hz1 hz2)
  have HB3 := Lib.hid ((Below.refl w.heap.size w).grown HG.out (Nat.le_refl _) (by intro k hk; cases hk))
  have HB4 := Lib.hid (HB3.out.alloc HB3.out.size (.cells #[.int .i64 0, .int .i64 0, .slice (some ⟨w.heap.size, 0, none⟩) 64 64, .pointer none] 57))
  clear HG HB3
  go_wp2_with fail
  (with_reducible refine (HC.out _ _).mono ?_); rintro e w4 ⟨rfl, rfl⟩
  go_wp2
  go_ret2
  exact ⟨rfl, HB4.out⟩
end Go.Proofs.Ytijdfkdfojiffaa

