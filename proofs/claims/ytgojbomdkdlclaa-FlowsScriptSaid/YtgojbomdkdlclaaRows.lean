/-
  No cell of these rows narrows 'for every input' (looked for: loops, veiled, ifaces, maps, wideKeys, modest, calm, conditions, laid).
  DERIVED. THE GIVEN ROWS OF THIS SEAT. 4 by the template 'for every input the law returns true; each argument reads behind the call as it read before'; 0 by the template 'total and deterministic' (their statements: YtgojbomdkdlclaaTotals.lean).
  GIVEN WITH THE SEED: the statements are not yours to turn. If you find one false, say at which input.
  Laid BY PROGRAM, IN A SANDBOX (cutbox-rows.mjs): the forced cells as the released guide's own fill.sh prints them over the translation d9a4c543733b0391… (all of the seat's roots in one cut). By AI agents, Wed Nov 11 2026. No macro, syntax, notation, axiom, sorry.
-/
import Derived.Test.YtgojbomdkdlclaaChecked
import GoSem.Claim
import GoSem.ClaimJoined
import GoSem.ClaimMapViews
import Derived.JoinedTies
import Derived.KernelRfl
namespace Go.Proofs.Ytgojbomdkdlclaa
/- THE CELL 'sum', in the pinned program and in every row, IS THE sha256 OF THE DUMP (.gsa) THAT YtgojbomdkdlclaaProg.lean LOADS. Nothing in Lean hashes anything: it is a label: what it is worth is what the hold of that sum in a sandbox is worth. -/
noncomputable def Try.pinned : Pinned := { name := "ytgojbomdkdlclaa", sum := "d9a4c543733b0391715ea366ff16a8d89eefc44895211ff3e4ca6327544e4e5e", checked := Try.checked }
namespace Rows
def none {H : Type} : Left H := { results := [], args := [] }

/-- 'airsharelaw10.FlowsScript': WHATEVER THE INPUT: true; the input reads as it did. -/
def flowsScriptSpec : ChangeSpec := { name := "flowsScript", fn := fun _ => fun
  | [d1, d2, d3] => { results := [.lit (.bool true)], args := [d1, d2, d3] }
  | _ => none }
def flowsScriptRow : OpenClaim := { program := "ytgojbomdkdlclaa", sum := "d9a4c543733b0391715ea366ff16a8d89eefc44895211ff3e4ca6327544e4e5e", func := "airshare/airsharelaw10.FlowsScript", spec := "flowsScript", inPlace := ["internal/bytealg.IndexByteString", "internal/bytealg.IndexString", "internal/abi.NoEscape"], named := ["internal/bytealg.MaxLen"], apart := false }
def FlowsScriptSaid : Prop := flowsScriptRow.holds Try.pinned (OpenSpec.ofChange flowsScriptSpec)

/-- ITS FALSE NEIGHBOUR: 'it returns false'. Refute it at one input. -/
def flowsScriptWrong : ChangeSpec := { name := "flowsScript", fn := fun _ => fun
  | [d1, d2, d3] => { results := [.lit (.bool false)], args := [d1, d2, d3] }
  | _ => none }
def FlowsScriptWrongFalsely : Prop := flowsScriptRow.holds Try.pinned (OpenSpec.ofChange flowsScriptWrong)

/-- 'airsharelaw10.FlowsAdmission': WHATEVER THE INPUT: true; the input reads as it did. -/
def flowsAdmissionSpec : ChangeSpec := { name := "flowsAdmission", fn := fun _ => fun
  | [d] => { results := [.lit (.bool true)], args := [d] }
  | _ => none }
def flowsAdmissionRow : OpenClaim := { program := "ytgojbomdkdlclaa", sum := "d9a4c543733b0391715ea366ff16a8d89eefc44895211ff3e4ca6327544e4e5e", func := "airshare/airsharelaw10.FlowsAdmission", spec := "flowsAdmission", inPlace := ["internal/bytealg.IndexByteString", "internal/bytealg.IndexString", "internal/abi.NoEscape"], named := ["internal/bytealg.MaxLen"], apart := false }
def FlowsAdmissionSaid : Prop := flowsAdmissionRow.holds Try.pinned (OpenSpec.ofChange flowsAdmissionSpec)

/-- ITS FALSE NEIGHBOUR: 'it returns false'. Refute it at one input. -/
def flowsAdmissionWrong : ChangeSpec := { name := "flowsAdmission", fn := fun _ => fun
  | [d] => { results := [.lit (.bool false)], args := [d] }
  | _ => none }
def FlowsAdmissionWrongFalsely : Prop := flowsAdmissionRow.holds Try.pinned (OpenSpec.ofChange flowsAdmissionWrong)

/-- 'airsharelaw10.FlowsFull': WHATEVER THE INPUT: true; the input reads as it did. -/
def flowsFullSpec : ChangeSpec := { name := "flowsFull", fn := fun _ => fun
  | [d] => { results := [.lit (.bool true)], args := [d] }
  | _ => none }
def flowsFullRow : OpenClaim := { program := "ytgojbomdkdlclaa", sum := "d9a4c543733b0391715ea366ff16a8d89eefc44895211ff3e4ca6327544e4e5e", func := "airshare/airsharelaw10.FlowsFull", spec := "flowsFull", inPlace := ["internal/bytealg.IndexByteString", "internal/bytealg.IndexString", "internal/abi.NoEscape"], named := ["internal/bytealg.MaxLen"], apart := false }
def FlowsFullSaid : Prop := flowsFullRow.holds Try.pinned (OpenSpec.ofChange flowsFullSpec)

/-- ITS FALSE NEIGHBOUR: 'it returns false'. Refute it at one input. -/
def flowsFullWrong : ChangeSpec := { name := "flowsFull", fn := fun _ => fun
  | [d] => { results := [.lit (.bool false)], args := [d] }
  | _ => none }
def FlowsFullWrongFalsely : Prop := flowsFullRow.holds Try.pinned (OpenSpec.ofChange flowsFullWrong)

/-- 'airsharelaw10.FlowsNames': WHATEVER THE INPUT: true; the input reads as it did. -/
def flowsNamesSpec : ChangeSpec := { name := "flowsNames", fn := fun _ => fun
  | [d1, d2] => { results := [.lit (.bool true)], args := [d1, d2] }
  | _ => none }
def flowsNamesRow : OpenClaim := { program := "ytgojbomdkdlclaa", sum := "d9a4c543733b0391715ea366ff16a8d89eefc44895211ff3e4ca6327544e4e5e", func := "airshare/airsharelaw10.FlowsNames", spec := "flowsNames", inPlace := ["internal/bytealg.IndexByteString", "internal/bytealg.IndexString", "internal/abi.NoEscape"], named := ["internal/bytealg.MaxLen"], apart := false }
def FlowsNamesSaid : Prop := flowsNamesRow.holds Try.pinned (OpenSpec.ofChange flowsNamesSpec)

/-- ITS FALSE NEIGHBOUR: 'it returns false'. Refute it at one input. -/
def flowsNamesWrong : ChangeSpec := { name := "flowsNames", fn := fun _ => fun
  | [d1, d2] => { results := [.lit (.bool false)], args := [d1, d2] }
  | _ => none }
def FlowsNamesWrongFalsely : Prop := flowsNamesRow.holds Try.pinned (OpenSpec.ofChange flowsNamesWrong)

/- THE SECOND FORM. 'bulk': how many values and letters a reading holds, each counted each time it is reached (what is shared counts as often as it is met; a slice's spare places count too). A statement '..UptoSaid' is the law's where the arguments, and the package variables that the reading takes, are together of bulk at most 1048576: NARROWER than '..Said'. Prove '..Said' where nothing that the law and all that it calls make is longer than what came in: it says more and counts as full. Else prove '..UptoSaid'. A law counts once. -/
mutual
def uptoBulk {H : Type} : DataW H → Nat
  | .lit (.string bytes) => bytes.length + 1
  | .lit _ => 1
  | .nil => 1
  | .ptr d => uptoBulk d + 1
  | .slice elems spare => uptoBulkAll elems + uptoBulkAll spare + 1
  | .agg parts => uptoBulkAll parts + 1
  | .iface _ d => uptoBulk d + 1
  | .map entries => uptoBulkEntries entries + 1
  | .held _ => 1
def uptoBulkAll {H : Type} : List (DataW H) → Nat
  | [] => 0
  | d :: r => uptoBulk d + uptoBulkAll r
def uptoBulkEntries {H : Type} : List (Lit × DataW H) → Nat
  | [] => 0
  | x :: r => uptoBulkEntry x + uptoBulkEntries r
def uptoBulkEntry {H : Type} : Lit × DataW H → Nat
  | (.string bytes, d) => bytes.length + uptoBulk d + 1
  | (_, d) => uptoBulk d + 1
 end
def uptoSmall : (H : Type) → List (DataW H) → Bool := fun _ ds => decide (uptoBulkAll ds ≤ 1048576)
def OpenSpec.upto (s : _root_.Go.ChangeSpec) : _root_.Go.OpenSpec := { _root_.Go.OpenSpec.ofChange s with cond := some uptoSmall }

/-- 'airsharelaw10.FlowsScript', WHERE WHAT IT READS IS OF BULK AT MOST 1048576: true; the input reads as it did. -/
def flowsScriptUptoRow : OpenClaim := { program := "ytgojbomdkdlclaa", sum := "d9a4c543733b0391715ea366ff16a8d89eefc44895211ff3e4ca6327544e4e5e", func := "airshare/airsharelaw10.FlowsScript", spec := "flowsScript", inPlace := ["internal/bytealg.IndexByteString", "internal/bytealg.IndexString", "internal/abi.NoEscape"], named := ["internal/bytealg.MaxLen"], apart := false, narrowed := true }
def FlowsScriptUptoSaid : Prop := flowsScriptUptoRow.holds Try.pinned (OpenSpec.upto flowsScriptSpec)

/-- 'airsharelaw10.FlowsAdmission', WHERE WHAT IT READS IS OF BULK AT MOST 1048576: true; the input reads as it did. -/
def flowsAdmissionUptoRow : OpenClaim := { program := "ytgojbomdkdlclaa", sum := "d9a4c543733b0391715ea366ff16a8d89eefc44895211ff3e4ca6327544e4e5e", func := "airshare/airsharelaw10.FlowsAdmission", spec := "flowsAdmission", inPlace := ["internal/bytealg.IndexByteString", "internal/bytealg.IndexString", "internal/abi.NoEscape"], named := ["internal/bytealg.MaxLen"], apart := false, narrowed := true }
def FlowsAdmissionUptoSaid : Prop := flowsAdmissionUptoRow.holds Try.pinned (OpenSpec.upto flowsAdmissionSpec)

/-- 'airsharelaw10.FlowsFull', WHERE WHAT IT READS IS OF BULK AT MOST 1048576: true; the input reads as it did. -/
def flowsFullUptoRow : OpenClaim := { program := "ytgojbomdkdlclaa", sum := "d9a4c543733b0391715ea366ff16a8d89eefc44895211ff3e4ca6327544e4e5e", func := "airshare/airsharelaw10.FlowsFull", spec := "flowsFull", inPlace := ["internal/bytealg.IndexByteString", "internal/bytealg.IndexString", "internal/abi.NoEscape"], named := ["internal/bytealg.MaxLen"], apart := false, narrowed := true }
def FlowsFullUptoSaid : Prop := flowsFullUptoRow.holds Try.pinned (OpenSpec.upto flowsFullSpec)

/-- 'airsharelaw10.FlowsNames', WHERE WHAT IT READS IS OF BULK AT MOST 1048576: true; the input reads as it did. -/
def flowsNamesUptoRow : OpenClaim := { program := "ytgojbomdkdlclaa", sum := "d9a4c543733b0391715ea366ff16a8d89eefc44895211ff3e4ca6327544e4e5e", func := "airshare/airsharelaw10.FlowsNames", spec := "flowsNames", inPlace := ["internal/bytealg.IndexByteString", "internal/bytealg.IndexString", "internal/abi.NoEscape"], named := ["internal/bytealg.MaxLen"], apart := false, narrowed := true }
def FlowsNamesUptoSaid : Prop := flowsNamesUptoRow.holds Try.pinned (OpenSpec.upto flowsNamesSpec)

end Rows
end Go.Proofs.Ytgojbomdkdlclaa
