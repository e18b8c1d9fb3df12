/-
  No cell of these rows narrows 'for every input' (looked for: loops, veiled, ifaces, maps, wideKeys, modest, calm, conditions, laid).
  DERIVED. THE GIVEN ROWS OF THIS SEAT. 4 by the template 'for every input the law returns true; each argument reads behind the call as it read before'; 0 by the template 'total and deterministic' (their statements: YtpdoommjmmlhfaaTotals.lean).
  GIVEN WITH THE SEED: the statements are not yours to turn. If you find one false, say at which input.
  Laid BY PROGRAM, IN A SANDBOX (cutbox-rows.mjs): the forced cells as the released guide's own fill.sh prints them over the translation d51269ed75e8ac8b… (all of the seat's roots in one cut). By AI agents, Wed Nov 11 2026. No macro, syntax, notation, axiom, sorry.
-/
import Derived.Test.YtpdoommjmmlhfaaChecked
import GoSem.Claim
import GoSem.ClaimJoined
import GoSem.ClaimMapViews
import Derived.JoinedTies
import Derived.KernelRfl
namespace Go.Proofs.Ytpdoommjmmlhfaa
/- THE CELL 'sum', in the pinned program and in every row, IS THE sha256 OF THE DUMP (.gsa) THAT YtpdoommjmmlhfaaProg.lean LOADS. Nothing in Lean hashes anything: it is a label: what it is worth is what the hold of that sum in a sandbox is worth. -/
noncomputable def Try.pinned : Pinned := { name := "ytpdoommjmmlhfaa", sum := "d51269ed75e8ac8bb88c36f222709ac64c656888ea49894ef47876e8f8f6dee6", checked := Try.checked }
namespace Rows
def none {H : Type} : Left H := { results := [], args := [] }

/-- 'airsharelaw5.RingScript': WHATEVER THE INPUT: true; the input reads as it did. -/
def ringScriptSpec : ChangeSpec := { name := "ringScript", fn := fun _ => fun
  | [d1, d2] => { results := [.lit (.bool true)], args := [d1, d2] }
  | _ => none }
def ringScriptRow : OpenClaim := { program := "ytpdoommjmmlhfaa", sum := "d51269ed75e8ac8bb88c36f222709ac64c656888ea49894ef47876e8f8f6dee6", func := "airshare/airsharelaw5.RingScript", spec := "ringScript", apart := false }
def RingScriptSaid : Prop := ringScriptRow.holds Try.pinned (OpenSpec.ofChange ringScriptSpec)

/-- ITS FALSE NEIGHBOUR: 'it returns false'. Refute it at one input. -/
def ringScriptWrong : ChangeSpec := { name := "ringScript", fn := fun _ => fun
  | [d1, d2] => { results := [.lit (.bool false)], args := [d1, d2] }
  | _ => none }
def RingScriptWrongFalsely : Prop := ringScriptRow.holds Try.pinned (OpenSpec.ofChange ringScriptWrong)

/-- 'airsharelaw5.RingQueues': WHATEVER THE INPUT: true; the input reads as it did. -/
def ringQueuesSpec : ChangeSpec := { name := "ringQueues", fn := fun _ => fun
  | [d1, d2] => { results := [.lit (.bool true)], args := [d1, d2] }
  | _ => none }
def ringQueuesRow : OpenClaim := { program := "ytpdoommjmmlhfaa", sum := "d51269ed75e8ac8bb88c36f222709ac64c656888ea49894ef47876e8f8f6dee6", func := "airshare/airsharelaw5.RingQueues", spec := "ringQueues", apart := false }
def RingQueuesSaid : Prop := ringQueuesRow.holds Try.pinned (OpenSpec.ofChange ringQueuesSpec)

/-- ITS FALSE NEIGHBOUR: 'it returns false'. Refute it at one input. -/
def ringQueuesWrong : ChangeSpec := { name := "ringQueues", fn := fun _ => fun
  | [d1, d2] => { results := [.lit (.bool false)], args := [d1, d2] }
  | _ => none }
def RingQueuesWrongFalsely : Prop := ringQueuesRow.holds Try.pinned (OpenSpec.ofChange ringQueuesWrong)

/-- 'airsharelaw5.RingBothEnds': WHATEVER THE INPUT: true; the input reads as it did. -/
def ringBothEndsSpec : ChangeSpec := { name := "ringBothEnds", fn := fun _ => fun
  | [d1, d2, d3] => { results := [.lit (.bool true)], args := [d1, d2, d3] }
  | _ => none }
def ringBothEndsRow : OpenClaim := { program := "ytpdoommjmmlhfaa", sum := "d51269ed75e8ac8bb88c36f222709ac64c656888ea49894ef47876e8f8f6dee6", func := "airshare/airsharelaw5.RingBothEnds", spec := "ringBothEnds", apart := false }
def RingBothEndsSaid : Prop := ringBothEndsRow.holds Try.pinned (OpenSpec.ofChange ringBothEndsSpec)

/-- ITS FALSE NEIGHBOUR: 'it returns false'. Refute it at one input. -/
def ringBothEndsWrong : ChangeSpec := { name := "ringBothEnds", fn := fun _ => fun
  | [d1, d2, d3] => { results := [.lit (.bool false)], args := [d1, d2, d3] }
  | _ => none }
def RingBothEndsWrongFalsely : Prop := ringBothEndsRow.holds Try.pinned (OpenSpec.ofChange ringBothEndsWrong)

/-- 'airsharelaw5.RingRemoves': WHATEVER THE INPUT: true; the input reads as it did. -/
def ringRemovesSpec : ChangeSpec := { name := "ringRemoves", fn := fun _ => fun
  | [d1, d2] => { results := [.lit (.bool true)], args := [d1, d2] }
  | _ => none }
def ringRemovesRow : OpenClaim := { program := "ytpdoommjmmlhfaa", sum := "d51269ed75e8ac8bb88c36f222709ac64c656888ea49894ef47876e8f8f6dee6", func := "airshare/airsharelaw5.RingRemoves", spec := "ringRemoves", apart := false }
def RingRemovesSaid : Prop := ringRemovesRow.holds Try.pinned (OpenSpec.ofChange ringRemovesSpec)

/-- ITS FALSE NEIGHBOUR: 'it returns false'. Refute it at one input. -/
def ringRemovesWrong : ChangeSpec := { name := "ringRemoves", fn := fun _ => fun
  | [d1, d2] => { results := [.lit (.bool false)], args := [d1, d2] }
  | _ => none }
def RingRemovesWrongFalsely : Prop := ringRemovesRow.holds Try.pinned (OpenSpec.ofChange ringRemovesWrong)

/- THE SECOND FORM. 'bulk': how many values and letters a reading holds, each counted each time it is reached (what is shared counts as often as it is met; a slice's spare places count too). A statement '..UptoSaid' is the law's where the arguments, and the package variables that the reading takes, are together of bulk at most 1048576: NARROWER than '..Said'. Prove '..Said' where nothing that the law and all that it calls make is longer than what came in: it says more and counts as full. Else prove '..UptoSaid'. A law counts once. -/
mutual
def uptoBulk {H : Type} : DataW H → Nat
  | .lit (.string bytes) => bytes.length + 1
  | .lit _ => 1
  | .nil => 1
  | .ptr d => uptoBulk d + 1
  | .slice elems spare => uptoBulkAll elems + uptoBulkAll spare + 1
  | .agg parts => uptoBulkAll parts + 1
  | .iface _ d => uptoBulk d + 1
  | .map entries => uptoBulkEntries entries + 1
  | .held _ => 1
def uptoBulkAll {H : Type} : List (DataW H) → Nat
  | [] => 0
  | d :: r => uptoBulk d + uptoBulkAll r
def uptoBulkEntries {H : Type} : List (Lit × DataW H) → Nat
  | [] => 0
  | x :: r => uptoBulkEntry x + uptoBulkEntries r
def uptoBulkEntry {H : Type} : Lit × DataW H → Nat
  | (.string bytes, d) => bytes.length + uptoBulk d + 1
  | (_, d) => uptoBulk d + 1
 end
def uptoSmall : (H : Type) → List (DataW H) → Bool := fun _ ds => decide (uptoBulkAll ds ≤ 1048576)
def OpenSpec.upto (s : _root_.Go.ChangeSpec) : _root_.Go.OpenSpec := { _root_.Go.OpenSpec.ofChange s with cond := some uptoSmall }

/-- 'airsharelaw5.RingScript', WHERE WHAT IT READS IS OF BULK AT MOST 1048576: true; the input reads as it did. -/
def ringScriptUptoRow : OpenClaim := { program := "ytpdoommjmmlhfaa", sum := "d51269ed75e8ac8bb88c36f222709ac64c656888ea49894ef47876e8f8f6dee6", func := "airshare/airsharelaw5.RingScript", spec := "ringScript", apart := false, narrowed := true }
def RingScriptUptoSaid : Prop := ringScriptUptoRow.holds Try.pinned (OpenSpec.upto ringScriptSpec)

/-- 'airsharelaw5.RingQueues', WHERE WHAT IT READS IS OF BULK AT MOST 1048576: true; the input reads as it did. -/
def ringQueuesUptoRow : OpenClaim := { program := "ytpdoommjmmlhfaa", sum := "d51269ed75e8ac8bb88c36f222709ac64c656888ea49894ef47876e8f8f6dee6", func := "airshare/airsharelaw5.RingQueues", spec := "ringQueues", apart := false, narrowed := true }
def RingQueuesUptoSaid : Prop := ringQueuesUptoRow.holds Try.pinned (OpenSpec.upto ringQueuesSpec)

/-- 'airsharelaw5.RingBothEnds', WHERE WHAT IT READS IS OF BULK AT MOST 1048576: true; the input reads as it did. -/
def ringBothEndsUptoRow : OpenClaim := { program := "ytpdoommjmmlhfaa", sum := "d51269ed75e8ac8bb88c36f222709ac64c656888ea49894ef47876e8f8f6dee6", func := "airshare/airsharelaw5.RingBothEnds", spec := "ringBothEnds", apart := false, narrowed := true }
def RingBothEndsUptoSaid : Prop := ringBothEndsUptoRow.holds Try.pinned (OpenSpec.upto ringBothEndsSpec)

/-- 'airsharelaw5.RingRemoves', WHERE WHAT IT READS IS OF BULK AT MOST 1048576: true; the input reads as it did. -/
def ringRemovesUptoRow : OpenClaim := { program := "ytpdoommjmmlhfaa", sum := "d51269ed75e8ac8bb88c36f222709ac64c656888ea49894ef47876e8f8f6dee6", func := "airshare/airsharelaw5.RingRemoves", spec := "ringRemoves", apart := false, narrowed := true }
def RingRemovesUptoSaid : Prop := ringRemovesUptoRow.holds Try.pinned (OpenSpec.upto ringRemovesSpec)

end Rows
end Go.Proofs.Ytpdoommjmmlhfaa
