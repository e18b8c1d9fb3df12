/-
  No cell of these rows narrows 'for every input' (looked for: loops, veiled, ifaces, maps, wideKeys, modest, calm, conditions, laid).
  DERIVED. THE GIVEN ROWS OF THIS SEAT. 5 by the template 'for every input the law returns true; each argument reads behind the call as it read before'; 0 by the template 'total and deterministic' (their statements: YtcdeecigiijabaaTotals.lean).
  GIVEN WITH THE SEED: the statements are not yours to turn. If you find one false, say at which input.
  Laid BY PROGRAM, IN A SANDBOX (cutbox-rows.mjs): the forced cells as the released guide's own fill.sh prints them over the translation 9ada932e276b1fde… (all of the seat's roots in one cut). By AI agents, Wed Nov 11 2026. No macro, syntax, notation, axiom, sorry.
-/
import Derived.Test.YtcdeecigiijabaaChecked
import GoSem.Claim
import GoSem.ClaimJoined
import GoSem.ClaimMapViews
import Derived.JoinedTies
import Derived.KernelRfl
namespace Go.Proofs.Ytcdeecigiijabaa
/- THE CELL 'sum', in the pinned program and in every row, IS THE sha256 OF THE DUMP (.gsa) THAT YtcdeecigiijabaaProg.lean LOADS. Nothing in Lean hashes anything: it is a label: what it is worth is what the hold of that sum in a sandbox is worth. -/
noncomputable def Try.pinned : Pinned := { name := "ytcdeecigiijabaa", sum := "9ada932e276b1fdeed34cbe25bcc5f1ddd7dd8f7c69eca820a78620bf85af3f1", checked := Try.checked }
namespace Rows
def none {H : Type} : Left H := { results := [], args := [] }

/-- 'airsharelaw14.FairnessPairs': WHATEVER THE INPUT: true; the input reads as it did. -/
def fairnessPairsSpec : ChangeSpec := { name := "fairnessPairs", fn := fun _ => fun
  | [d1, d2, d3] => { results := [.lit (.bool true)], args := [d1, d2, d3] }
  | _ => none }
def fairnessPairsRow : OpenClaim := { program := "ytcdeecigiijabaa", sum := "9ada932e276b1fdeed34cbe25bcc5f1ddd7dd8f7c69eca820a78620bf85af3f1", func := "airshare/airsharelaw14.FairnessPairs", spec := "fairnessPairs", apart := false }
def FairnessPairsSaid : Prop := fairnessPairsRow.holds Try.pinned (OpenSpec.ofChange fairnessPairsSpec)

/-- ITS FALSE NEIGHBOUR: 'it returns false'. Refute it at one input. -/
def fairnessPairsWrong : ChangeSpec := { name := "fairnessPairs", fn := fun _ => fun
  | [d1, d2, d3] => { results := [.lit (.bool false)], args := [d1, d2, d3] }
  | _ => none }
def FairnessPairsWrongFalsely : Prop := fairnessPairsRow.holds Try.pinned (OpenSpec.ofChange fairnessPairsWrong)

/-- 'airsharelaw14.FairnessWorst': WHATEVER THE INPUT: true; the input reads as it did. -/
def fairnessWorstSpec : ChangeSpec := { name := "fairnessWorst", fn := fun _ => fun
  | [d1, d2] => { results := [.lit (.bool true)], args := [d1, d2] }
  | _ => none }
def fairnessWorstRow : OpenClaim := { program := "ytcdeecigiijabaa", sum := "9ada932e276b1fdeed34cbe25bcc5f1ddd7dd8f7c69eca820a78620bf85af3f1", func := "airshare/airsharelaw14.FairnessWorst", spec := "fairnessWorst", apart := false }
def FairnessWorstSaid : Prop := fairnessWorstRow.holds Try.pinned (OpenSpec.ofChange fairnessWorstSpec)

/-- ITS FALSE NEIGHBOUR: 'it returns false'. Refute it at one input. -/
def fairnessWorstWrong : ChangeSpec := { name := "fairnessWorst", fn := fun _ => fun
  | [d1, d2] => { results := [.lit (.bool false)], args := [d1, d2] }
  | _ => none }
def FairnessWorstWrongFalsely : Prop := fairnessWorstRow.holds Try.pinned (OpenSpec.ofChange fairnessWorstWrong)

/-- 'airsharelaw14.FairnessJain': WHATEVER THE INPUT: true; the input reads as it did. -/
def fairnessJainSpec : ChangeSpec := { name := "fairnessJain", fn := fun _ => fun
  | [d1, d2] => { results := [.lit (.bool true)], args := [d1, d2] }
  | _ => none }
def fairnessJainRow : OpenClaim := { program := "ytcdeecigiijabaa", sum := "9ada932e276b1fdeed34cbe25bcc5f1ddd7dd8f7c69eca820a78620bf85af3f1", func := "airshare/airsharelaw14.FairnessJain", spec := "fairnessJain", apart := false }
def FairnessJainSaid : Prop := fairnessJainRow.holds Try.pinned (OpenSpec.ofChange fairnessJainSpec)

/-- ITS FALSE NEIGHBOUR: 'it returns false'. Refute it at one input. -/
def fairnessJainWrong : ChangeSpec := { name := "fairnessJain", fn := fun _ => fun
  | [d1, d2] => { results := [.lit (.bool false)], args := [d1, d2] }
  | _ => none }
def FairnessJainWrongFalsely : Prop := fairnessJainRow.holds Try.pinned (OpenSpec.ofChange fairnessJainWrong)

/-- 'airsharelaw14.FairnessIndex': WHATEVER THE INPUT: true; the input reads as it did. -/
def fairnessIndexSpec : ChangeSpec := { name := "fairnessIndex", fn := fun _ => fun
  | [d] => { results := [.lit (.bool true)], args := [d] }
  | _ => none }
def fairnessIndexRow : OpenClaim := { program := "ytcdeecigiijabaa", sum := "9ada932e276b1fdeed34cbe25bcc5f1ddd7dd8f7c69eca820a78620bf85af3f1", func := "airshare/airsharelaw14.FairnessIndex", spec := "fairnessIndex", apart := false }
def FairnessIndexSaid : Prop := fairnessIndexRow.holds Try.pinned (OpenSpec.ofChange fairnessIndexSpec)

/-- ITS FALSE NEIGHBOUR: 'it returns false'. Refute it at one input. -/
def fairnessIndexWrong : ChangeSpec := { name := "fairnessIndex", fn := fun _ => fun
  | [d] => { results := [.lit (.bool false)], args := [d] }
  | _ => none }
def FairnessIndexWrongFalsely : Prop := fairnessIndexRow.holds Try.pinned (OpenSpec.ofChange fairnessIndexWrong)

/-- 'airsharelaw14.FairnessTriangle': WHATEVER THE INPUT: true; the input reads as it did. -/
def fairnessTriangleSpec : ChangeSpec := { name := "fairnessTriangle", fn := fun _ => fun
  | [d] => { results := [.lit (.bool true)], args := [d] }
  | _ => none }
def fairnessTriangleRow : OpenClaim := { program := "ytcdeecigiijabaa", sum := "9ada932e276b1fdeed34cbe25bcc5f1ddd7dd8f7c69eca820a78620bf85af3f1", func := "airshare/airsharelaw14.FairnessTriangle", spec := "fairnessTriangle", apart := false }
def FairnessTriangleSaid : Prop := fairnessTriangleRow.holds Try.pinned (OpenSpec.ofChange fairnessTriangleSpec)

/-- ITS FALSE NEIGHBOUR: 'it returns false'. Refute it at one input. -/
def fairnessTriangleWrong : ChangeSpec := { name := "fairnessTriangle", fn := fun _ => fun
  | [d] => { results := [.lit (.bool false)], args := [d] }
  | _ => none }
def FairnessTriangleWrongFalsely : Prop := fairnessTriangleRow.holds Try.pinned (OpenSpec.ofChange fairnessTriangleWrong)

/- THE SECOND FORM. 'bulk': how many values and letters a reading holds, each counted each time it is reached (what is shared counts as often as it is met; a slice's spare places count too). A statement '..UptoSaid' is the law's where the arguments, and the package variables that the reading takes, are together of bulk at most 1048576: NARROWER than '..Said'. Prove '..Said' where nothing that the law and all that it calls make is longer than what came in: it says more and counts as full. Else prove '..UptoSaid'. A law counts once. -/
mutual
def uptoBulk {H : Type} : DataW H → Nat
  | .lit (.string bytes) => bytes.length + 1
  | .lit _ => 1
  | .nil => 1
  | .ptr d => uptoBulk d + 1
  | .slice elems spare => uptoBulkAll elems + uptoBulkAll spare + 1
  | .agg parts => uptoBulkAll parts + 1
  | .iface _ d => uptoBulk d + 1
  | .map entries => uptoBulkEntries entries + 1
  | .held _ => 1
def uptoBulkAll {H : Type} : List (DataW H) → Nat
  | [] => 0
  | d :: r => uptoBulk d + uptoBulkAll r
def uptoBulkEntries {H : Type} : List (Lit × DataW H) → Nat
  | [] => 0
  | x :: r => uptoBulkEntry x + uptoBulkEntries r
def uptoBulkEntry {H : Type} : Lit × DataW H → Nat
  | (.string bytes, d) => bytes.length + uptoBulk d + 1
  | (_, d) => uptoBulk d + 1
 end
def uptoSmall : (H : Type) → List (DataW H) → Bool := fun _ ds => decide (uptoBulkAll ds ≤ 1048576)
def OpenSpec.upto (s : _root_.Go.ChangeSpec) : _root_.Go.OpenSpec := { _root_.Go.OpenSpec.ofChange s with cond := some uptoSmall }

/-- 'airsharelaw14.FairnessPairs', WHERE WHAT IT READS IS OF BULK AT MOST 1048576: true; the input reads as it did. -/
def fairnessPairsUptoRow : OpenClaim := { program := "ytcdeecigiijabaa", sum := "9ada932e276b1fdeed34cbe25bcc5f1ddd7dd8f7c69eca820a78620bf85af3f1", func := "airshare/airsharelaw14.FairnessPairs", spec := "fairnessPairs", apart := false, narrowed := true }
def FairnessPairsUptoSaid : Prop := fairnessPairsUptoRow.holds Try.pinned (OpenSpec.upto fairnessPairsSpec)

/-- 'airsharelaw14.FairnessWorst', WHERE WHAT IT READS IS OF BULK AT MOST 1048576: true; the input reads as it did. -/
def fairnessWorstUptoRow : OpenClaim := { program := "ytcdeecigiijabaa", sum := "9ada932e276b1fdeed34cbe25bcc5f1ddd7dd8f7c69eca820a78620bf85af3f1", func := "airshare/airsharelaw14.FairnessWorst", spec := "fairnessWorst", apart := false, narrowed := true }
def FairnessWorstUptoSaid : Prop := fairnessWorstUptoRow.holds Try.pinned (OpenSpec.upto fairnessWorstSpec)

/-- 'airsharelaw14.FairnessJain', WHERE WHAT IT READS IS OF BULK AT MOST 1048576: true; the input reads as it did. -/
def fairnessJainUptoRow : OpenClaim := { program := "ytcdeecigiijabaa", sum := "9ada932e276b1fdeed34cbe25bcc5f1ddd7dd8f7c69eca820a78620bf85af3f1", func := "airshare/airsharelaw14.FairnessJain", spec := "fairnessJain", apart := false, narrowed := true }
def FairnessJainUptoSaid : Prop := fairnessJainUptoRow.holds Try.pinned (OpenSpec.upto fairnessJainSpec)

/-- 'airsharelaw14.FairnessIndex', WHERE WHAT IT READS IS OF BULK AT MOST 1048576: true; the input reads as it did. -/
def fairnessIndexUptoRow : OpenClaim := { program := "ytcdeecigiijabaa", sum := "9ada932e276b1fdeed34cbe25bcc5f1ddd7dd8f7c69eca820a78620bf85af3f1", func := "airshare/airsharelaw14.FairnessIndex", spec := "fairnessIndex", apart := false, narrowed := true }
def FairnessIndexUptoSaid : Prop := fairnessIndexUptoRow.holds Try.pinned (OpenSpec.upto fairnessIndexSpec)

/-- 'airsharelaw14.FairnessTriangle', WHERE WHAT IT READS IS OF BULK AT MOST 1048576: true; the input reads as it did. -/
def fairnessTriangleUptoRow : OpenClaim := { program := "ytcdeecigiijabaa", sum := "9ada932e276b1fdeed34cbe25bcc5f1ddd7dd8f7c69eca820a78620bf85af3f1", func := "airshare/airsharelaw14.FairnessTriangle", spec := "fairnessTriangle", apart := false, narrowed := true }
def FairnessTriangleUptoSaid : Prop := fairnessTriangleUptoRow.holds Try.pinned (OpenSpec.upto fairnessTriangleSpec)

end Rows
end Go.Proofs.Ytcdeecigiijabaa
