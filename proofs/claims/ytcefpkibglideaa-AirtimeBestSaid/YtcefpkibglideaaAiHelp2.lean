/-
  Layer 19's law: best.
-/
import Derived.Test.YtcefpkibglideaaAiHelp
import Derived.Test.YtcefpkibglideaaAiRef2
namespace Go.Proofs.Ytcefpkibglideaa
open Go.ChangeShapes Go.WideShapes Go.ChangeAt Go.RowKit
set_option linter.unusedVariables false

set_option maxHeartbeats 4000000 in
theorem best_any {A : Option Addr} {c : Nat} {l : List Rt} (b : Int) {w : World} (h : SrAt csR 2 w 0 w.heap.size A l) (hn : l.length ≤ 40) :
    Calls Try.prog 16 #[.slice A l.length c, .int .i64 b] w (AiB (.bool true) w) := by
  have H1 := Lib.hid (pbest_any (c := c) b h hn)
  have H2 := Lib.hid (fun (W : World) (hw : Below w.heap.size w W) => rbest_any (c := c) b (h.later hw) hn)
  generalize aiBV l b = x at *
  generalize aiBE l b = E at *
  clear h
  unfold AiB at *
  generalize l.length = n at *
  go_enter Try.func16, Try.ntmps16
  go_wp2_with fail
  (with_reducible refine H1.out.mono ?_); rintro e w1 ⟨rfl, hb⟩
  have HB := Lib.hid hb
  clear hb H1
  go_wp2_with fail
  (with_reducible refine (H2.out w1 HB.out).mono ?_); rintro e w2 ⟨rfl, hb⟩
  have HF := Lib.hid (HB.out.trans (hb.mono HB.out.size))
  clear hb H2
  go_wp2
  go_ret
  exact ⟨rfl, HF.out⟩
end Go.Proofs.Ytcefpkibglideaa

