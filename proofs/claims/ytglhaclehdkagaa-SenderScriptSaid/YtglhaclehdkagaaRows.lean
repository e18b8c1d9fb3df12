/-
  No cell of these rows narrows 'for every input' (looked for: loops, veiled, ifaces, maps, wideKeys, modest, calm, conditions, laid).
  DERIVED. THE GIVEN ROWS OF THIS SEAT. 4 by the template 'for every input the law returns true; each argument reads behind the call as it read before'; 0 by the template 'total and deterministic' (their statements: YtglhaclehdkagaaTotals.lean).
  GIVEN WITH THE SEED: the statements are not yours to turn. If you find one false, say at which input.
  Laid BY PROGRAM, IN A SANDBOX (cutbox-rows.mjs): the forced cells as the released guide's own fill.sh prints them over the translation 75f8587b665874a2… (all of the seat's roots in one cut). By AI agents, Wed Nov 11 2026. No macro, syntax, notation, axiom, sorry.
-/
import Derived.Test.YtglhaclehdkagaaChecked
import GoSem.Claim
import GoSem.ClaimJoined
import GoSem.ClaimMapViews
import Derived.JoinedTies
import Derived.KernelRfl
namespace Go.Proofs.Ytglhaclehdkagaa
/- THE CELL 'sum', in the pinned program and in every row, IS THE sha256 OF THE DUMP (.gsa) THAT YtglhaclehdkagaaProg.lean LOADS. Nothing in Lean hashes anything: it is a label: what it is worth is what the hold of that sum in a sandbox is worth. -/
noncomputable def Try.pinned : Pinned := { name := "ytglhaclehdkagaa", sum := "75f8587b665874a2acda8c2e7c9ad442beab129c3cf6c6b5818f83a73cbbad75", checked := Try.checked }
namespace Rows
def none {H : Type} : Left H := { results := [], args := [] }

/-- 'airsharelaw16.SenderScript': WHATEVER THE INPUT: true; the input reads as it did. -/
def senderScriptSpec : ChangeSpec := { name := "senderScript", fn := fun _ => fun
  | [d1, d2, d3] => { results := [.lit (.bool true)], args := [d1, d2, d3] }
  | _ => none }
def senderScriptRow : OpenClaim := { program := "ytglhaclehdkagaa", sum := "75f8587b665874a2acda8c2e7c9ad442beab129c3cf6c6b5818f83a73cbbad75", func := "airshare/airsharelaw16.SenderScript", spec := "senderScript", unfollowed := true, recurses := true, apart := false }
def SenderScriptSaid : Prop := senderScriptRow.holds Try.pinned (OpenSpec.ofChange senderScriptSpec)

/-- ITS FALSE NEIGHBOUR: 'it returns false'. Refute it at one input. -/
def senderScriptWrong : ChangeSpec := { name := "senderScript", fn := fun _ => fun
  | [d1, d2, d3] => { results := [.lit (.bool false)], args := [d1, d2, d3] }
  | _ => none }
def SenderScriptWrongFalsely : Prop := senderScriptRow.holds Try.pinned (OpenSpec.ofChange senderScriptWrong)

/-- 'airsharelaw16.SenderWindow': WHATEVER THE INPUT: true; the input reads as it did. -/
def senderWindowSpec : ChangeSpec := { name := "senderWindow", fn := fun _ => fun
  | [d] => { results := [.lit (.bool true)], args := [d] }
  | _ => none }
def senderWindowRow : OpenClaim := { program := "ytglhaclehdkagaa", sum := "75f8587b665874a2acda8c2e7c9ad442beab129c3cf6c6b5818f83a73cbbad75", func := "airshare/airsharelaw16.SenderWindow", spec := "senderWindow", unfollowed := true, recurses := true, apart := false }
def SenderWindowSaid : Prop := senderWindowRow.holds Try.pinned (OpenSpec.ofChange senderWindowSpec)

/-- ITS FALSE NEIGHBOUR: 'it returns false'. Refute it at one input. -/
def senderWindowWrong : ChangeSpec := { name := "senderWindow", fn := fun _ => fun
  | [d] => { results := [.lit (.bool false)], args := [d] }
  | _ => none }
def SenderWindowWrongFalsely : Prop := senderWindowRow.holds Try.pinned (OpenSpec.ofChange senderWindowWrong)

/-- 'airsharelaw16.SenderTries': WHATEVER THE INPUT: true; the input reads as it did. -/
def senderTriesSpec : ChangeSpec := { name := "senderTries", fn := fun _ => fun
  | [d1, d2] => { results := [.lit (.bool true)], args := [d1, d2] }
  | _ => none }
def senderTriesRow : OpenClaim := { program := "ytglhaclehdkagaa", sum := "75f8587b665874a2acda8c2e7c9ad442beab129c3cf6c6b5818f83a73cbbad75", func := "airshare/airsharelaw16.SenderTries", spec := "senderTries", unfollowed := true, recurses := true, apart := false }
def SenderTriesSaid : Prop := senderTriesRow.holds Try.pinned (OpenSpec.ofChange senderTriesSpec)

/-- ITS FALSE NEIGHBOUR: 'it returns false'. Refute it at one input. -/
def senderTriesWrong : ChangeSpec := { name := "senderTries", fn := fun _ => fun
  | [d1, d2] => { results := [.lit (.bool false)], args := [d1, d2] }
  | _ => none }
def SenderTriesWrongFalsely : Prop := senderTriesRow.holds Try.pinned (OpenSpec.ofChange senderTriesWrong)

/-- 'airsharelaw16.SenderAcks': WHATEVER THE INPUT: true; the input reads as it did. -/
def senderAcksSpec : ChangeSpec := { name := "senderAcks", fn := fun _ => fun
  | [d1, d2, d3] => { results := [.lit (.bool true)], args := [d1, d2, d3] }
  | _ => none }
def senderAcksRow : OpenClaim := { program := "ytglhaclehdkagaa", sum := "75f8587b665874a2acda8c2e7c9ad442beab129c3cf6c6b5818f83a73cbbad75", func := "airshare/airsharelaw16.SenderAcks", spec := "senderAcks", apart := false }
def SenderAcksSaid : Prop := senderAcksRow.holds Try.pinned (OpenSpec.ofChange senderAcksSpec)

/-- ITS FALSE NEIGHBOUR: 'it returns false'. Refute it at one input. -/
def senderAcksWrong : ChangeSpec := { name := "senderAcks", fn := fun _ => fun
  | [d1, d2, d3] => { results := [.lit (.bool false)], args := [d1, d2, d3] }
  | _ => none }
def SenderAcksWrongFalsely : Prop := senderAcksRow.holds Try.pinned (OpenSpec.ofChange senderAcksWrong)

/- THE SECOND FORM. 'bulk': how many values and letters a reading holds, each counted each time it is reached (what is shared counts as often as it is met; a slice's spare places count too). A statement '..UptoSaid' is the law's where the arguments, and the package variables that the reading takes, are together of bulk at most 1048576: NARROWER than '..Said'. Prove '..Said' where nothing that the law and all that it calls make is longer than what came in: it says more and counts as full. Else prove '..UptoSaid'. A law counts once. -/
mutual
def uptoBulk {H : Type} : DataW H → Nat
  | .lit (.string bytes) => bytes.length + 1
  | .lit _ => 1
  | .nil => 1
  | .ptr d => uptoBulk d + 1
  | .slice elems spare => uptoBulkAll elems + uptoBulkAll spare + 1
  | .agg parts => uptoBulkAll parts + 1
  | .iface _ d => uptoBulk d + 1
  | .map entries => uptoBulkEntries entries + 1
  | .held _ => 1
def uptoBulkAll {H : Type} : List (DataW H) → Nat
  | [] => 0
  | d :: r => uptoBulk d + uptoBulkAll r
def uptoBulkEntries {H : Type} : List (Lit × DataW H) → Nat
  | [] => 0
  | x :: r => uptoBulkEntry x + uptoBulkEntries r
def uptoBulkEntry {H : Type} : Lit × DataW H → Nat
  | (.string bytes, d) => bytes.length + uptoBulk d + 1
  | (_, d) => uptoBulk d + 1
 end
def uptoSmall : (H : Type) → List (DataW H) → Bool := fun _ ds => decide (uptoBulkAll ds ≤ 1048576)
def OpenSpec.upto (s : _root_.Go.ChangeSpec) : _root_.Go.OpenSpec := { _root_.Go.OpenSpec.ofChange s with cond := some uptoSmall }

/-- 'airsharelaw16.SenderScript', WHERE WHAT IT READS IS OF BULK AT MOST 1048576: true; the input reads as it did. -/
def senderScriptUptoRow : OpenClaim := { program := "ytglhaclehdkagaa", sum := "75f8587b665874a2acda8c2e7c9ad442beab129c3cf6c6b5818f83a73cbbad75", func := "airshare/airsharelaw16.SenderScript", spec := "senderScript", unfollowed := true, recurses := true, apart := false, narrowed := true }
def SenderScriptUptoSaid : Prop := senderScriptUptoRow.holds Try.pinned (OpenSpec.upto senderScriptSpec)

/-- 'airsharelaw16.SenderWindow', WHERE WHAT IT READS IS OF BULK AT MOST 1048576: true; the input reads as it did. -/
def senderWindowUptoRow : OpenClaim := { program := "ytglhaclehdkagaa", sum := "75f8587b665874a2acda8c2e7c9ad442beab129c3cf6c6b5818f83a73cbbad75", func := "airshare/airsharelaw16.SenderWindow", spec := "senderWindow", unfollowed := true, recurses := true, apart := false, narrowed := true }
def SenderWindowUptoSaid : Prop := senderWindowUptoRow.holds Try.pinned (OpenSpec.upto senderWindowSpec)

/-- 'airsharelaw16.SenderTries', WHERE WHAT IT READS IS OF BULK AT MOST 1048576: true; the input reads as it did. -/
def senderTriesUptoRow : OpenClaim := { program := "ytglhaclehdkagaa", sum := "75f8587b665874a2acda8c2e7c9ad442beab129c3cf6c6b5818f83a73cbbad75", func := "airshare/airsharelaw16.SenderTries", spec := "senderTries", unfollowed := true, recurses := true, apart := false, narrowed := true }
def SenderTriesUptoSaid : Prop := senderTriesUptoRow.holds Try.pinned (OpenSpec.upto senderTriesSpec)

/-- 'airsharelaw16.SenderAcks', WHERE WHAT IT READS IS OF BULK AT MOST 1048576: true; the input reads as it did. -/
def senderAcksUptoRow : OpenClaim := { program := "ytglhaclehdkagaa", sum := "75f8587b665874a2acda8c2e7c9ad442beab129c3cf6c6b5818f83a73cbbad75", func := "airshare/airsharelaw16.SenderAcks", spec := "senderAcks", apart := false, narrowed := true }
def SenderAcksUptoSaid : Prop := senderAcksUptoRow.holds Try.pinned (OpenSpec.upto senderAcksSpec)

end Rows
end Go.Proofs.Ytglhaclehdkagaa
