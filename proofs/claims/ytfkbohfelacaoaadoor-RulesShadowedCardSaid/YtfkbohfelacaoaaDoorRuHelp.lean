/-
  Layer 9: the statements' helpers awake and parses.
-/
import Derived.Test.YtfkbohfelacaoaaDoorRuRefP
import Derived.Test.YtfkbohfelacaoaaDoorRuForm
import Derived.Deep.RegionHeld3
namespace Go.Proofs.YtfkbohfelacaoaaDoor
open Go.ChangeShapes Go.WideShapes Go.ChangeAt Go.RowKit
set_option linter.unusedVariables false

def aw1 : ByteArray := ⟨#[65, 110, 110, 32, 51, 32, 56, 48, 45, 57, 48, 32, 62, 50]⟩
def aw2 : ByteArray := ⟨#[97, 32, 48, 51, 32, 42, 32, 62, 49]⟩
theorem aw1_is : (pRu aw1.data.toList).st = ⟨#[65, 110, 110]⟩ ∧ (pRu aw1.data.toList).c = 3 ∧ (pRu aw1.data.toList).f = 80 ∧ (pRu aw1.data.toList).l = 90 ∧ (pRu aw1.data.toList).w = 2 ∧ ruE aw1.data.toList = 0 := by decide +kernel
theorem aw2_is : ruE aw2.data.toList = 8 := by decide +kernel
set_option maxHeartbeats 2000000 in
theorem awake9_any (w : World) (hw : WS w) : Calls Tryd.prog 14 #[] w (BoolAns true w) := by
  have H1 := Lib.hid (parse_any aw1 (by decide) w hw)
  have H2 := Lib.hid (fun w hw => parse_any aw2 (by decide) w hw)
  unfold PaAns at H1 H2
  obtain ⟨q1, q2, q3, q4, q5, q6⟩ := aw1_is
  rw [q1, q2, q3, q4, q5, q6] at H1
  rw [aw2_is] at H2
  unfold aw1 at H1
  unfold aw2 at H2
  generalize pRu _ = r at H2
  obtain ⟨st, c, f, l, n⟩ := r
  simp only at H2
  have hW := Lib.hid hw
  clear q1 q2 q3 q4 q5 q6 hw
  unfold BoolAns
  go_enter Tryd.func14, Tryd.ntmps14
  go_wp2_with fail
  (with_reducible refine H1.out.mono ?_); rintro e w1 ⟨rfl, hb⟩
  have HB1 := Lib.hid (hb.alloc hb.size (.cells #[.string ⟨#[65, 110, 110]⟩, .int .i64 3, .int .i64 80, .int .i64 90, .int .i64 2] 29))
  have HZ1 := Lib.hid (Whole.fresh w1 29 #[.string ⟨#[65, 110, 110]⟩, .int .i64 3, .int .i64 80, .int .i64 90, .int .i64 2])
  clear hb H1
  go_wp2_with fail
  (with_reducible refine (H2.out _ (hW.out.below HB1.out)).mono ?_); rintro e w2 ⟨rfl, hb⟩
  have hz1 := HZ1.out.later hb
  have HB2 := HB1.out.trans (hb.mono HB1.out.size)
  have HB3 := Lib.hid (HB2.alloc HB2.size (.cells #[.string st, .int .i64 c, .int .i64 f, .int .i64 l, .int .i64 n] 29))
  obtain ⟨d0, d1, d2, d3, d4⟩ : w2.cell? ⟨w1.heap.size, 0, none⟩ = some (.string ⟨#[65, 110, 110]⟩) ∧ w2.cell? ⟨w1.heap.size, 1, none⟩ = some (.int .i64 3) ∧ w2.cell? ⟨w1.heap.size, 2, none⟩ = some (.int .i64 80) ∧ w2.cell? ⟨w1.heap.size, 3, none⟩ = some (.int .i64 90) ∧ w2.cell? ⟨w1.heap.size, 4, none⟩ = some (.int .i64 2) := ⟨hz1.read 0, hz1.read 1, hz1.read 2, hz1.read 3, hz1.read 4⟩
  have hlt := hz1.size_lt
  clear hb hz1 HB2 H2 HB1 HZ1 hW
  go_wp2
  go_ret
  exact ⟨rfl, HB3.out⟩
set_option maxHeartbeats 2000000 in
theorem parses9_any (s : ByteArray) (hs : s.size ≤ 1000000) (w : World) (hw : WS w) : Calls Tryd.prog 13 #[.string s] w (BoolAns true w) := by
  have H1 := Lib.hid (parse_any s (by omega) w hw)
  have H2 := Lib.hid (fun w => parseRule_any s hs w)
  unfold PaAns at H1 H2
  generalize pRu s.data.toList = r at *
  obtain ⟨st, c, f, l, n⟩ := r
  generalize ruE s.data.toList = y at *
  simp only at H1 H2
  have t2 : (st.toList == st.toList) = true := by simp
  have t3 : (y == y) = true := by simp
  clear hs hw
  unfold BoolAns
  go_enter Tryd.func13, Tryd.ntmps13
  go_wp2_with fail
  (with_reducible refine H1.out.mono ?_); rintro e w1 ⟨rfl, hb⟩
  have HB1 := Lib.hid (hb.alloc hb.size (.cells #[.string st, .int .i64 c, .int .i64 f, .int .i64 l, .int .i64 n] 29))
  have HZ1 := Lib.hid (Whole.fresh w1 29 #[.string st, .int .i64 c, .int .i64 f, .int .i64 l, .int .i64 n])
  clear hb H1
  go_wp2_with fail
  (with_reducible refine (H2.out _).mono ?_); rintro e w2 ⟨rfl, hb⟩
  have hz1 := HZ1.out.later hb
  have HB2 := HB1.out.trans (hb.mono HB1.out.size)
  have HB3 := Lib.hid (HB2.alloc HB2.size (.cells #[.string st, .int .i64 c, .int .i64 f, .int .i64 l, .int .i64 n] 29))
  obtain ⟨d0, d1, d2, d3, d4⟩ : w2.cell? ⟨w1.heap.size, 0, none⟩ = some (.string st) ∧ w2.cell? ⟨w1.heap.size, 1, none⟩ = some (.int .i64 c) ∧ w2.cell? ⟨w1.heap.size, 2, none⟩ = some (.int .i64 f) ∧ w2.cell? ⟨w1.heap.size, 3, none⟩ = some (.int .i64 l) ∧ w2.cell? ⟨w1.heap.size, 4, none⟩ = some (.int .i64 n) := ⟨hz1.read 0, hz1.read 1, hz1.read 2, hz1.read 3, hz1.read 4⟩
  have hlt := hz1.size_lt
  clear hb hz1 HB2 H2 HB1 HZ1
  go_wp2
  go_ret
  exact ⟨rfl, HB3.out⟩
end Go.Proofs.YtfkbohfelacaoaaDoor

