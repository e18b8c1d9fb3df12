/-
  No cell of these rows narrows 'for every input' (looked for: loops, veiled, ifaces, maps, wideKeys, modest, calm, conditions, laid).
  DERIVED. THE GIVEN ROWS OF THIS SEAT. 4 by the template 'for every input the law returns true; each argument reads behind the call as it read before'; 0 by the template 'total and deterministic' (their statements: YthmncipenjhknaaTotals.lean).
  GIVEN WITH THE SEED: the statements are not yours to turn. If you find one false, say at which input.
  Laid BY PROGRAM, IN A SANDBOX (cutbox-rows.mjs): the forced cells as the released guide's own fill.sh prints them over the translation d1b3f93ac3125eeb… (all of the seat's roots in one cut). By AI agents, Wed Nov 11 2026. No macro, syntax, notation, axiom, sorry.
-/
import Derived.Test.YthmncipenjhknaaChecked
import GoSem.Claim
import GoSem.ClaimJoined
import GoSem.ClaimMapViews
import Derived.JoinedTies
import Derived.KernelRfl
namespace Go.Proofs.Ythmncipenjhknaa
/- THE CELL 'sum', in the pinned program and in every row, IS THE sha256 OF THE DUMP (.gsa) THAT YthmncipenjhknaaProg.lean LOADS. Nothing in Lean hashes anything: it is a label: what it is worth is what the hold of that sum in a sandbox is worth. -/
noncomputable def Try.pinned : Pinned := { name := "ythmncipenjhknaa", sum := "d1b3f93ac3125eeb61b184b93cfabf4173c784ec2f97c9c7a3ca56a3e3c33bc9", checked := Try.checked }
namespace Rows
def none {H : Type} : Left H := { results := [], args := [] }

/-- 'airsharelaw17.ReceiverScript': WHATEVER THE INPUT: true; the input reads as it did. -/
def receiverScriptSpec : ChangeSpec := { name := "receiverScript", fn := fun _ => fun
  | [d1, d2, d3] => { results := [.lit (.bool true)], args := [d1, d2, d3] }
  | _ => none }
def receiverScriptRow : OpenClaim := { program := "ythmncipenjhknaa", sum := "d1b3f93ac3125eeb61b184b93cfabf4173c784ec2f97c9c7a3ca56a3e3c33bc9", func := "airshare/airsharelaw17.ReceiverScript", spec := "receiverScript", apart := false }
def ReceiverScriptSaid : Prop := receiverScriptRow.holds Try.pinned (OpenSpec.ofChange receiverScriptSpec)

/-- ITS FALSE NEIGHBOUR: 'it returns false'. Refute it at one input. -/
def receiverScriptWrong : ChangeSpec := { name := "receiverScript", fn := fun _ => fun
  | [d1, d2, d3] => { results := [.lit (.bool false)], args := [d1, d2, d3] }
  | _ => none }
def ReceiverScriptWrongFalsely : Prop := receiverScriptRow.holds Try.pinned (OpenSpec.ofChange receiverScriptWrong)

/-- 'airsharelaw17.ReceiverOrder': WHATEVER THE INPUT: true; the input reads as it did. -/
def receiverOrderSpec : ChangeSpec := { name := "receiverOrder", fn := fun _ => fun
  | [d] => { results := [.lit (.bool true)], args := [d] }
  | _ => none }
def receiverOrderRow : OpenClaim := { program := "ythmncipenjhknaa", sum := "d1b3f93ac3125eeb61b184b93cfabf4173c784ec2f97c9c7a3ca56a3e3c33bc9", func := "airshare/airsharelaw17.ReceiverOrder", spec := "receiverOrder", apart := false }
def ReceiverOrderSaid : Prop := receiverOrderRow.holds Try.pinned (OpenSpec.ofChange receiverOrderSpec)

/-- ITS FALSE NEIGHBOUR: 'it returns false'. Refute it at one input. -/
def receiverOrderWrong : ChangeSpec := { name := "receiverOrder", fn := fun _ => fun
  | [d] => { results := [.lit (.bool false)], args := [d] }
  | _ => none }
def ReceiverOrderWrongFalsely : Prop := receiverOrderRow.holds Try.pinned (OpenSpec.ofChange receiverOrderWrong)

/-- 'airsharelaw17.ReceiverErrors': WHATEVER THE INPUT: true; the input reads as it did. -/
def receiverErrorsSpec : ChangeSpec := { name := "receiverErrors", fn := fun _ => fun
  | [d1, d2, d3, d4] => { results := [.lit (.bool true)], args := [d1, d2, d3, d4] }
  | _ => none }
def receiverErrorsRow : OpenClaim := { program := "ythmncipenjhknaa", sum := "d1b3f93ac3125eeb61b184b93cfabf4173c784ec2f97c9c7a3ca56a3e3c33bc9", func := "airshare/airsharelaw17.ReceiverErrors", spec := "receiverErrors", apart := false }
def ReceiverErrorsSaid : Prop := receiverErrorsRow.holds Try.pinned (OpenSpec.ofChange receiverErrorsSpec)

/-- ITS FALSE NEIGHBOUR: 'it returns false'. Refute it at one input. -/
def receiverErrorsWrong : ChangeSpec := { name := "receiverErrors", fn := fun _ => fun
  | [d1, d2, d3, d4] => { results := [.lit (.bool false)], args := [d1, d2, d3, d4] }
  | _ => none }
def ReceiverErrorsWrongFalsely : Prop := receiverErrorsRow.holds Try.pinned (OpenSpec.ofChange receiverErrorsWrong)

/-- 'airsharelaw17.ReceiverAcks': WHATEVER THE INPUT: true; the input reads as it did. -/
def receiverAcksSpec : ChangeSpec := { name := "receiverAcks", fn := fun _ => fun
  | [d] => { results := [.lit (.bool true)], args := [d] }
  | _ => none }
def receiverAcksRow : OpenClaim := { program := "ythmncipenjhknaa", sum := "d1b3f93ac3125eeb61b184b93cfabf4173c784ec2f97c9c7a3ca56a3e3c33bc9", func := "airshare/airsharelaw17.ReceiverAcks", spec := "receiverAcks", apart := false }
def ReceiverAcksSaid : Prop := receiverAcksRow.holds Try.pinned (OpenSpec.ofChange receiverAcksSpec)

/-- ITS FALSE NEIGHBOUR: 'it returns false'. Refute it at one input. -/
def receiverAcksWrong : ChangeSpec := { name := "receiverAcks", fn := fun _ => fun
  | [d] => { results := [.lit (.bool false)], args := [d] }
  | _ => none }
def ReceiverAcksWrongFalsely : Prop := receiverAcksRow.holds Try.pinned (OpenSpec.ofChange receiverAcksWrong)

/- THE SECOND FORM. 'bulk': how many values and letters a reading holds, each counted each time it is reached (what is shared counts as often as it is met; a slice's spare places count too). A statement '..UptoSaid' is the law's where the arguments, and the package variables that the reading takes, are together of bulk at most 1048576: NARROWER than '..Said'. Prove '..Said' where nothing that the law and all that it calls make is longer than what came in: it says more and counts as full. Else prove '..UptoSaid'. A law counts once. -/
mutual
def uptoBulk {H : Type} : DataW H → Nat
  | .lit (.string bytes) => bytes.length + 1
  | .lit _ => 1
  | .nil => 1
  | .ptr d => uptoBulk d + 1
  | .slice elems spare => uptoBulkAll elems + uptoBulkAll spare + 1
  | .agg parts => uptoBulkAll parts + 1
  | .iface _ d => uptoBulk d + 1
  | .map entries => uptoBulkEntries entries + 1
  | .held _ => 1
def uptoBulkAll {H : Type} : List (DataW H) → Nat
  | [] => 0
  | d :: r => uptoBulk d + uptoBulkAll r
def uptoBulkEntries {H : Type} : List (Lit × DataW H) → Nat
  | [] => 0
  | x :: r => uptoBulkEntry x + uptoBulkEntries r
def uptoBulkEntry {H : Type} : Lit × DataW H → Nat
  | (.string bytes, d) => bytes.length + uptoBulk d + 1
  | (_, d) => uptoBulk d + 1
 end
def uptoSmall : (H : Type) → List (DataW H) → Bool := fun _ ds => decide (uptoBulkAll ds ≤ 1048576)
def OpenSpec.upto (s : _root_.Go.ChangeSpec) : _root_.Go.OpenSpec := { _root_.Go.OpenSpec.ofChange s with cond := some uptoSmall }

/-- 'airsharelaw17.ReceiverScript', WHERE WHAT IT READS IS OF BULK AT MOST 1048576: true; the input reads as it did. -/
def receiverScriptUptoRow : OpenClaim := { program := "ythmncipenjhknaa", sum := "d1b3f93ac3125eeb61b184b93cfabf4173c784ec2f97c9c7a3ca56a3e3c33bc9", func := "airshare/airsharelaw17.ReceiverScript", spec := "receiverScript", apart := false, narrowed := true }
def ReceiverScriptUptoSaid : Prop := receiverScriptUptoRow.holds Try.pinned (OpenSpec.upto receiverScriptSpec)

/-- 'airsharelaw17.ReceiverOrder', WHERE WHAT IT READS IS OF BULK AT MOST 1048576: true; the input reads as it did. -/
def receiverOrderUptoRow : OpenClaim := { program := "ythmncipenjhknaa", sum := "d1b3f93ac3125eeb61b184b93cfabf4173c784ec2f97c9c7a3ca56a3e3c33bc9", func := "airshare/airsharelaw17.ReceiverOrder", spec := "receiverOrder", apart := false, narrowed := true }
def ReceiverOrderUptoSaid : Prop := receiverOrderUptoRow.holds Try.pinned (OpenSpec.upto receiverOrderSpec)

/-- 'airsharelaw17.ReceiverErrors', WHERE WHAT IT READS IS OF BULK AT MOST 1048576: true; the input reads as it did. -/
def receiverErrorsUptoRow : OpenClaim := { program := "ythmncipenjhknaa", sum := "d1b3f93ac3125eeb61b184b93cfabf4173c784ec2f97c9c7a3ca56a3e3c33bc9", func := "airshare/airsharelaw17.ReceiverErrors", spec := "receiverErrors", apart := false, narrowed := true }
def ReceiverErrorsUptoSaid : Prop := receiverErrorsUptoRow.holds Try.pinned (OpenSpec.upto receiverErrorsSpec)

/-- 'airsharelaw17.ReceiverAcks', WHERE WHAT IT READS IS OF BULK AT MOST 1048576: true; the input reads as it did. -/
def receiverAcksUptoRow : OpenClaim := { program := "ythmncipenjhknaa", sum := "d1b3f93ac3125eeb61b184b93cfabf4173c784ec2f97c9c7a3ca56a3e3c33bc9", func := "airshare/airsharelaw17.ReceiverAcks", spec := "receiverAcks", apart := false, narrowed := true }
def ReceiverAcksUptoSaid : Prop := receiverAcksUptoRow.holds Try.pinned (OpenSpec.upto receiverAcksSpec)

end Rows
end Go.Proofs.Ythmncipenjhknaa
