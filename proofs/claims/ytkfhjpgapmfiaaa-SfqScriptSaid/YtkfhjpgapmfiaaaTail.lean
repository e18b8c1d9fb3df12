/-
  Regions whose reads come first and whose writing tail is bound to them. No program is named.
-/
import Derived.Test.YtkfhjpgapmfiaaaWhl
import Derived.StillTailTactics
import Derived.Deep.Draws
namespace Go.Proofs.Ytkfhjpgapmfiaaa
set_option linter.unusedVariables false

theorem region_tail {P : Program} {id : Nat} {Q : Exit → Act → World → Prop} {a : Act} {w : World} {l : List Oper} (n : Nat) (hm : P.follows .mixedOrders = true) (hB : Region.lexTailB .any l.toArray n = true)
    (h : wpStill P l.toArray w.drew (fun a' => wpList P l.toArray Q (l.drop n) a' w.drew) (l.take n) a) : (Code.region id l.toArray true).wp P Q a w := wp_region_still_tail n hm hB h
end Go.Proofs.Ytkfhjpgapmfiaaa

