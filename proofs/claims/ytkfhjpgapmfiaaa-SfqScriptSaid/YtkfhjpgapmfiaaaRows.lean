/-
  No cell of these rows narrows 'for every input' (looked for: loops, veiled, ifaces, maps, wideKeys, modest, calm, conditions, laid).
  DERIVED. THE GIVEN ROWS OF THIS SEAT. 5 by the template 'for every input the law returns true; each argument reads behind the call as it read before'; 0 by the template 'total and deterministic' (their statements: YtkfhjpgapmfiaaaTotals.lean).
  GIVEN WITH THE SEED: the statements are not yours to turn. If you find one false, say at which input.
  Laid BY PROGRAM, IN A SANDBOX (cutbox-rows.mjs): the forced cells as the released guide's own fill.sh prints them over the translation a5d191213b69fb4a… (all of the seat's roots in one cut). By AI agents, Wed Nov 11 2026. No macro, syntax, notation, axiom, sorry.
-/
import Derived.Test.YtkfhjpgapmfiaaaChecked
import GoSem.Claim
import GoSem.ClaimJoined
import GoSem.ClaimMapViews
import Derived.JoinedTies
import Derived.KernelRfl
namespace Go.Proofs.Ytkfhjpgapmfiaaa
/- THE CELL 'sum', in the pinned program and in every row, IS THE sha256 OF THE DUMP (.gsa) THAT YtkfhjpgapmfiaaaProg.lean LOADS. Nothing in Lean hashes anything: it is a label: what it is worth is what the hold of that sum in a sandbox is worth. -/
noncomputable def Try.pinned : Pinned := { name := "ytkfhjpgapmfiaaa", sum := "a5d191213b69fb4aaf33350a9c56b35ef0f51b86f2e1a316183e785af818bd01", checked := Try.checked }
namespace Rows
def none {H : Type} : Left H := { results := [], args := [] }

/-- 'airsharelaw13.SfqScript': WHATEVER THE INPUT: true; the input reads as it did. -/
def sfqScriptSpec : ChangeSpec := { name := "sfqScript", fn := fun _ => fun
  | [d1, d2] => { results := [.lit (.bool true)], args := [d1, d2] }
  | _ => none }
def sfqScriptRow : OpenClaim := { program := "ytkfhjpgapmfiaaa", sum := "a5d191213b69fb4aaf33350a9c56b35ef0f51b86f2e1a316183e785af818bd01", func := "airshare/airsharelaw13.SfqScript", spec := "sfqScript", inPlace := ["maps.clone"], apart := false }
def SfqScriptSaid : Prop := sfqScriptRow.holds Try.pinned (OpenSpec.ofChange sfqScriptSpec)

/-- ITS FALSE NEIGHBOUR: 'it returns false'. Refute it at one input. -/
def sfqScriptWrong : ChangeSpec := { name := "sfqScript", fn := fun _ => fun
  | [d1, d2] => { results := [.lit (.bool false)], args := [d1, d2] }
  | _ => none }
def SfqScriptWrongFalsely : Prop := sfqScriptRow.holds Try.pinned (OpenSpec.ofChange sfqScriptWrong)

/-- 'airsharelaw13.SfqFair': WHATEVER THE INPUT: true; the input reads as it did. -/
def sfqFairSpec : ChangeSpec := { name := "sfqFair", fn := fun _ => fun
  | [d] => { results := [.lit (.bool true)], args := [d] }
  | _ => none }
def sfqFairRow : OpenClaim := { program := "ytkfhjpgapmfiaaa", sum := "a5d191213b69fb4aaf33350a9c56b35ef0f51b86f2e1a316183e785af818bd01", func := "airshare/airsharelaw13.SfqFair", spec := "sfqFair", apart := false }
def SfqFairSaid : Prop := sfqFairRow.holds Try.pinned (OpenSpec.ofChange sfqFairSpec)

/-- ITS FALSE NEIGHBOUR: 'it returns false'. Refute it at one input. -/
def sfqFairWrong : ChangeSpec := { name := "sfqFair", fn := fun _ => fun
  | [d] => { results := [.lit (.bool false)], args := [d] }
  | _ => none }
def SfqFairWrongFalsely : Prop := sfqFairRow.holds Try.pinned (OpenSpec.ofChange sfqFairWrong)

/-- 'airsharelaw13.SfqTime': WHATEVER THE INPUT: true; the input reads as it did. -/
def sfqTimeSpec : ChangeSpec := { name := "sfqTime", fn := fun _ => fun
  | [d] => { results := [.lit (.bool true)], args := [d] }
  | _ => none }
def sfqTimeRow : OpenClaim := { program := "ytkfhjpgapmfiaaa", sum := "a5d191213b69fb4aaf33350a9c56b35ef0f51b86f2e1a316183e785af818bd01", func := "airshare/airsharelaw13.SfqTime", spec := "sfqTime", apart := false }
def SfqTimeSaid : Prop := sfqTimeRow.holds Try.pinned (OpenSpec.ofChange sfqTimeSpec)

/-- ITS FALSE NEIGHBOUR: 'it returns false'. Refute it at one input. -/
def sfqTimeWrong : ChangeSpec := { name := "sfqTime", fn := fun _ => fun
  | [d] => { results := [.lit (.bool false)], args := [d] }
  | _ => none }
def SfqTimeWrongFalsely : Prop := sfqTimeRow.holds Try.pinned (OpenSpec.ofChange sfqTimeWrong)

/-- 'airsharelaw13.SfqRebase': WHATEVER THE INPUT: true; the input reads as it did. -/
def sfqRebaseSpec : ChangeSpec := { name := "sfqRebase", fn := fun _ => fun
  | [d] => { results := [.lit (.bool true)], args := [d] }
  | _ => none }
def sfqRebaseRow : OpenClaim := { program := "ytkfhjpgapmfiaaa", sum := "a5d191213b69fb4aaf33350a9c56b35ef0f51b86f2e1a316183e785af818bd01", func := "airshare/airsharelaw13.SfqRebase", spec := "sfqRebase", apart := false }
def SfqRebaseSaid : Prop := sfqRebaseRow.holds Try.pinned (OpenSpec.ofChange sfqRebaseSpec)

/-- ITS FALSE NEIGHBOUR: 'it returns false'. Refute it at one input. -/
def sfqRebaseWrong : ChangeSpec := { name := "sfqRebase", fn := fun _ => fun
  | [d] => { results := [.lit (.bool false)], args := [d] }
  | _ => none }
def SfqRebaseWrongFalsely : Prop := sfqRebaseRow.holds Try.pinned (OpenSpec.ofChange sfqRebaseWrong)

/-- 'airsharelaw13.SfqRange': WHATEVER THE INPUT: true; the input reads as it did. -/
def sfqRangeSpec : ChangeSpec := { name := "sfqRange", fn := fun _ => fun
  | [d1, d2] => { results := [.lit (.bool true)], args := [d1, d2] }
  | _ => none }
def sfqRangeRow : OpenClaim := { program := "ytkfhjpgapmfiaaa", sum := "a5d191213b69fb4aaf33350a9c56b35ef0f51b86f2e1a316183e785af818bd01", func := "airshare/airsharelaw13.SfqRange", spec := "sfqRange", apart := false }
def SfqRangeSaid : Prop := sfqRangeRow.holds Try.pinned (OpenSpec.ofChange sfqRangeSpec)

/-- ITS FALSE NEIGHBOUR: 'it returns false'. Refute it at one input. -/
def sfqRangeWrong : ChangeSpec := { name := "sfqRange", fn := fun _ => fun
  | [d1, d2] => { results := [.lit (.bool false)], args := [d1, d2] }
  | _ => none }
def SfqRangeWrongFalsely : Prop := sfqRangeRow.holds Try.pinned (OpenSpec.ofChange sfqRangeWrong)

/- THE SECOND FORM. 'bulk': how many values and letters a reading holds, each counted each time it is reached (what is shared counts as often as it is met; a slice's spare places count too). A statement '..UptoSaid' is the law's where the arguments, and the package variables that the reading takes, are together of bulk at most 1048576: NARROWER than '..Said'. Prove '..Said' where nothing that the law and all that it calls make is longer than what came in: it says more and counts as full. Else prove '..UptoSaid'. A law counts once. -/
mutual
def uptoBulk {H : Type} : DataW H → Nat
  | .lit (.string bytes) => bytes.length + 1
  | .lit _ => 1
  | .nil => 1
  | .ptr d => uptoBulk d + 1
  | .slice elems spare => uptoBulkAll elems + uptoBulkAll spare + 1
  | .agg parts => uptoBulkAll parts + 1
  | .iface _ d => uptoBulk d + 1
  | .map entries => uptoBulkEntries entries + 1
  | .held _ => 1
def uptoBulkAll {H : Type} : List (DataW H) → Nat
  | [] => 0
  | d :: r => uptoBulk d + uptoBulkAll r
def uptoBulkEntries {H : Type} : List (Lit × DataW H) → Nat
  | [] => 0
  | x :: r => uptoBulkEntry x + uptoBulkEntries r
def uptoBulkEntry {H : Type} : Lit × DataW H → Nat
  | (.string bytes, d) => bytes.length + uptoBulk d + 1
  | (_, d) => uptoBulk d + 1
 end
def uptoSmall : (H : Type) → List (DataW H) → Bool := fun _ ds => decide (uptoBulkAll ds ≤ 1048576)
def OpenSpec.upto (s : _root_.Go.ChangeSpec) : _root_.Go.OpenSpec := { _root_.Go.OpenSpec.ofChange s with cond := some uptoSmall }

/-- 'airsharelaw13.SfqScript', WHERE WHAT IT READS IS OF BULK AT MOST 1048576: true; the input reads as it did. -/
def sfqScriptUptoRow : OpenClaim := { program := "ytkfhjpgapmfiaaa", sum := "a5d191213b69fb4aaf33350a9c56b35ef0f51b86f2e1a316183e785af818bd01", func := "airshare/airsharelaw13.SfqScript", spec := "sfqScript", inPlace := ["maps.clone"], apart := false, narrowed := true }
def SfqScriptUptoSaid : Prop := sfqScriptUptoRow.holds Try.pinned (OpenSpec.upto sfqScriptSpec)

/-- 'airsharelaw13.SfqFair', WHERE WHAT IT READS IS OF BULK AT MOST 1048576: true; the input reads as it did. -/
def sfqFairUptoRow : OpenClaim := { program := "ytkfhjpgapmfiaaa", sum := "a5d191213b69fb4aaf33350a9c56b35ef0f51b86f2e1a316183e785af818bd01", func := "airshare/airsharelaw13.SfqFair", spec := "sfqFair", apart := false, narrowed := true }
def SfqFairUptoSaid : Prop := sfqFairUptoRow.holds Try.pinned (OpenSpec.upto sfqFairSpec)

/-- 'airsharelaw13.SfqTime', WHERE WHAT IT READS IS OF BULK AT MOST 1048576: true; the input reads as it did. -/
def sfqTimeUptoRow : OpenClaim := { program := "ytkfhjpgapmfiaaa", sum := "a5d191213b69fb4aaf33350a9c56b35ef0f51b86f2e1a316183e785af818bd01", func := "airshare/airsharelaw13.SfqTime", spec := "sfqTime", apart := false, narrowed := true }
def SfqTimeUptoSaid : Prop := sfqTimeUptoRow.holds Try.pinned (OpenSpec.upto sfqTimeSpec)

/-- 'airsharelaw13.SfqRebase', WHERE WHAT IT READS IS OF BULK AT MOST 1048576: true; the input reads as it did. -/
def sfqRebaseUptoRow : OpenClaim := { program := "ytkfhjpgapmfiaaa", sum := "a5d191213b69fb4aaf33350a9c56b35ef0f51b86f2e1a316183e785af818bd01", func := "airshare/airsharelaw13.SfqRebase", spec := "sfqRebase", apart := false, narrowed := true }
def SfqRebaseUptoSaid : Prop := sfqRebaseUptoRow.holds Try.pinned (OpenSpec.upto sfqRebaseSpec)

/-- 'airsharelaw13.SfqRange', WHERE WHAT IT READS IS OF BULK AT MOST 1048576: true; the input reads as it did. -/
def sfqRangeUptoRow : OpenClaim := { program := "ytkfhjpgapmfiaaa", sum := "a5d191213b69fb4aaf33350a9c56b35ef0f51b86f2e1a316183e785af818bd01", func := "airshare/airsharelaw13.SfqRange", spec := "sfqRange", apart := false, narrowed := true }
def SfqRangeUptoSaid : Prop := sfqRangeUptoRow.holds Try.pinned (OpenSpec.upto sfqRangeSpec)

end Rows
end Go.Proofs.Ytkfhjpgapmfiaaa
