/-
  No cell of these rows narrows 'for every input' (looked for: loops, veiled, ifaces, maps, wideKeys, modest, calm, conditions, laid).
  DERIVED. THE GIVEN ROWS OF THIS SEAT. 4 by the template 'for every input the law returns true; each argument reads behind the call as it read before'; 0 by the template 'total and deterministic' (their statements: YtcnpmbgeafkmlaaTotals.lean).
  GIVEN WITH THE SEED: the statements are not yours to turn. If you find one false, say at which input.
  Laid BY PROGRAM, IN A SANDBOX (cutbox-rows.mjs): the forced cells as the released guide's own fill.sh prints them over the translation f7172d48eabdecac… (all of the seat's roots in one cut). By AI agents, Wed Nov 11 2026. No macro, syntax, notation, axiom, sorry.
-/
import Derived.Test.YtcnpmbgeafkmlaaChecked
import GoSem.Claim
import GoSem.ClaimJoined
import GoSem.ClaimMapViews
import Derived.JoinedTies
import Derived.KernelRfl
namespace Go.Proofs.Ytcnpmbgeafkmlaa
/- THE CELL 'sum', in the pinned program and in every row, IS THE sha256 OF THE DUMP (.gsa) THAT YtcnpmbgeafkmlaaProg.lean LOADS. Nothing in Lean hashes anything: it is a label: what it is worth is what the hold of that sum in a sandbox is worth. -/
noncomputable def Try.pinned : Pinned := { name := "ytcnpmbgeafkmlaa", sum := "f7172d48eabdecac26a806f06ca50721c98ec210794adc0775237fa1942bccaf", checked := Try.checked }
namespace Rows
def none {H : Type} : Left H := { results := [], args := [] }

/-- 'airsharelaw20.AggregateSize': WHATEVER THE INPUT: true; the input reads as it did. -/
def aggregateSizeSpec : ChangeSpec := { name := "aggregateSize", fn := fun _ => fun
  | [d1, d2, d3] => { results := [.lit (.bool true)], args := [d1, d2, d3] }
  | _ => none }
def aggregateSizeRow : OpenClaim := { program := "ytcnpmbgeafkmlaa", sum := "f7172d48eabdecac26a806f06ca50721c98ec210794adc0775237fa1942bccaf", func := "airshare/airsharelaw20.AggregateSize", spec := "aggregateSize", apart := false }
def AggregateSizeSaid : Prop := aggregateSizeRow.holds Try.pinned (OpenSpec.ofChange aggregateSizeSpec)

/-- ITS FALSE NEIGHBOUR: 'it returns false'. Refute it at one input. -/
def aggregateSizeWrong : ChangeSpec := { name := "aggregateSize", fn := fun _ => fun
  | [d1, d2, d3] => { results := [.lit (.bool false)], args := [d1, d2, d3] }
  | _ => none }
def AggregateSizeWrongFalsely : Prop := aggregateSizeRow.holds Try.pinned (OpenSpec.ofChange aggregateSizeWrong)

/-- 'airsharelaw20.AggregateBuild': WHATEVER THE INPUT: true; the input reads as it did. -/
def aggregateBuildSpec : ChangeSpec := { name := "aggregateBuild", fn := fun _ => fun
  | [d1, d2, d3, d4] => { results := [.lit (.bool true)], args := [d1, d2, d3, d4] }
  | _ => none }
def aggregateBuildRow : OpenClaim := { program := "ytcnpmbgeafkmlaa", sum := "f7172d48eabdecac26a806f06ca50721c98ec210794adc0775237fa1942bccaf", func := "airshare/airsharelaw20.AggregateBuild", spec := "aggregateBuild", apart := false }
def AggregateBuildSaid : Prop := aggregateBuildRow.holds Try.pinned (OpenSpec.ofChange aggregateBuildSpec)

/-- ITS FALSE NEIGHBOUR: 'it returns false'. Refute it at one input. -/
def aggregateBuildWrong : ChangeSpec := { name := "aggregateBuild", fn := fun _ => fun
  | [d1, d2, d3, d4] => { results := [.lit (.bool false)], args := [d1, d2, d3, d4] }
  | _ => none }
def AggregateBuildWrongFalsely : Prop := aggregateBuildRow.holds Try.pinned (OpenSpec.ofChange aggregateBuildWrong)

/-- 'airsharelaw20.AggregatePrefix': WHATEVER THE INPUT: true; the input reads as it did. -/
def aggregatePrefixSpec : ChangeSpec := { name := "aggregatePrefix", fn := fun _ => fun
  | [d] => { results := [.lit (.bool true)], args := [d] }
  | _ => none }
def aggregatePrefixRow : OpenClaim := { program := "ytcnpmbgeafkmlaa", sum := "f7172d48eabdecac26a806f06ca50721c98ec210794adc0775237fa1942bccaf", func := "airshare/airsharelaw20.AggregatePrefix", spec := "aggregatePrefix", apart := false }
def AggregatePrefixSaid : Prop := aggregatePrefixRow.holds Try.pinned (OpenSpec.ofChange aggregatePrefixSpec)

/-- ITS FALSE NEIGHBOUR: 'it returns false'. Refute it at one input. -/
def aggregatePrefixWrong : ChangeSpec := { name := "aggregatePrefix", fn := fun _ => fun
  | [d] => { results := [.lit (.bool false)], args := [d] }
  | _ => none }
def AggregatePrefixWrongFalsely : Prop := aggregatePrefixRow.holds Try.pinned (OpenSpec.ofChange aggregatePrefixWrong)

/-- 'airsharelaw20.AggregateMost': WHATEVER THE INPUT: true; the input reads as it did. -/
def aggregateMostSpec : ChangeSpec := { name := "aggregateMost", fn := fun _ => fun
  | [d1, d2, d3] => { results := [.lit (.bool true)], args := [d1, d2, d3] }
  | _ => none }
def aggregateMostRow : OpenClaim := { program := "ytcnpmbgeafkmlaa", sum := "f7172d48eabdecac26a806f06ca50721c98ec210794adc0775237fa1942bccaf", func := "airshare/airsharelaw20.AggregateMost", spec := "aggregateMost", apart := false }
def AggregateMostSaid : Prop := aggregateMostRow.holds Try.pinned (OpenSpec.ofChange aggregateMostSpec)

/-- ITS FALSE NEIGHBOUR: 'it returns false'. Refute it at one input. -/
def aggregateMostWrong : ChangeSpec := { name := "aggregateMost", fn := fun _ => fun
  | [d1, d2, d3] => { results := [.lit (.bool false)], args := [d1, d2, d3] }
  | _ => none }
def AggregateMostWrongFalsely : Prop := aggregateMostRow.holds Try.pinned (OpenSpec.ofChange aggregateMostWrong)

/- THE SECOND FORM. 'bulk': how many values and letters a reading holds, each counted each time it is reached (what is shared counts as often as it is met; a slice's spare places count too). A statement '..UptoSaid' is the law's where the arguments, and the package variables that the reading takes, are together of bulk at most 1048576: NARROWER than '..Said'. Prove '..Said' where nothing that the law and all that it calls make is longer than what came in: it says more and counts as full. Else prove '..UptoSaid'. A law counts once. -/
mutual
def uptoBulk {H : Type} : DataW H → Nat
  | .lit (.string bytes) => bytes.length + 1
  | .lit _ => 1
  | .nil => 1
  | .ptr d => uptoBulk d + 1
  | .slice elems spare => uptoBulkAll elems + uptoBulkAll spare + 1
  | .agg parts => uptoBulkAll parts + 1
  | .iface _ d => uptoBulk d + 1
  | .map entries => uptoBulkEntries entries + 1
  | .held _ => 1
def uptoBulkAll {H : Type} : List (DataW H) → Nat
  | [] => 0
  | d :: r => uptoBulk d + uptoBulkAll r
def uptoBulkEntries {H : Type} : List (Lit × DataW H) → Nat
  | [] => 0
  | x :: r => uptoBulkEntry x + uptoBulkEntries r
def uptoBulkEntry {H : Type} : Lit × DataW H → Nat
  | (.string bytes, d) => bytes.length + uptoBulk d + 1
  | (_, d) => uptoBulk d + 1
 end
def uptoSmall : (H : Type) → List (DataW H) → Bool := fun _ ds => decide (uptoBulkAll ds ≤ 1048576)
def OpenSpec.upto (s : _root_.Go.ChangeSpec) : _root_.Go.OpenSpec := { _root_.Go.OpenSpec.ofChange s with cond := some uptoSmall }

/-- 'airsharelaw20.AggregateSize', WHERE WHAT IT READS IS OF BULK AT MOST 1048576: true; the input reads as it did. -/
def aggregateSizeUptoRow : OpenClaim := { program := "ytcnpmbgeafkmlaa", sum := "f7172d48eabdecac26a806f06ca50721c98ec210794adc0775237fa1942bccaf", func := "airshare/airsharelaw20.AggregateSize", spec := "aggregateSize", apart := false, narrowed := true }
def AggregateSizeUptoSaid : Prop := aggregateSizeUptoRow.holds Try.pinned (OpenSpec.upto aggregateSizeSpec)

/-- 'airsharelaw20.AggregateBuild', WHERE WHAT IT READS IS OF BULK AT MOST 1048576: true; the input reads as it did. -/
def aggregateBuildUptoRow : OpenClaim := { program := "ytcnpmbgeafkmlaa", sum := "f7172d48eabdecac26a806f06ca50721c98ec210794adc0775237fa1942bccaf", func := "airshare/airsharelaw20.AggregateBuild", spec := "aggregateBuild", apart := false, narrowed := true }
def AggregateBuildUptoSaid : Prop := aggregateBuildUptoRow.holds Try.pinned (OpenSpec.upto aggregateBuildSpec)

/-- 'airsharelaw20.AggregatePrefix', WHERE WHAT IT READS IS OF BULK AT MOST 1048576: true; the input reads as it did. -/
def aggregatePrefixUptoRow : OpenClaim := { program := "ytcnpmbgeafkmlaa", sum := "f7172d48eabdecac26a806f06ca50721c98ec210794adc0775237fa1942bccaf", func := "airshare/airsharelaw20.AggregatePrefix", spec := "aggregatePrefix", apart := false, narrowed := true }
def AggregatePrefixUptoSaid : Prop := aggregatePrefixUptoRow.holds Try.pinned (OpenSpec.upto aggregatePrefixSpec)

/-- 'airsharelaw20.AggregateMost', WHERE WHAT IT READS IS OF BULK AT MOST 1048576: true; the input reads as it did. -/
def aggregateMostUptoRow : OpenClaim := { program := "ytcnpmbgeafkmlaa", sum := "f7172d48eabdecac26a806f06ca50721c98ec210794adc0775237fa1942bccaf", func := "airshare/airsharelaw20.AggregateMost", spec := "aggregateMost", apart := false, narrowed := true }
def AggregateMostUptoSaid : Prop := aggregateMostUptoRow.holds Try.pinned (OpenSpec.upto aggregateMostSpec)

end Rows
end Go.Proofs.Ytcnpmbgeafkmlaa
