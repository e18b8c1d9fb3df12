/-
  No cell of these rows narrows 'for every input' (looked for: loops, veiled, ifaces, maps, wideKeys, modest, calm, conditions, laid).
  DERIVED. THE GIVEN ROWS OF THIS SEAT. 4 by the template 'for every input the law returns true; each argument reads behind the call as it read before'; 0 by the template 'total and deterministic' (their statements: YtaohfcchejedkaaTotals.lean).
  GIVEN WITH THE SEED: the statements are not yours to turn. If you find one false, say at which input.
  Laid BY PROGRAM, IN A SANDBOX (cutbox-rows.mjs): the forced cells as the released guide's own fill.sh prints them over the translation ccf86d9a2c51efb4… (all of the seat's roots in one cut). By AI agents, Wed Nov 11 2026. No macro, syntax, notation, axiom, sorry.
-/
import Derived.Test.YtaohfcchejedkaaChecked
import GoSem.Claim
import GoSem.ClaimJoined
import GoSem.ClaimMapViews
import Derived.JoinedTies
import Derived.KernelRfl
namespace Go.Proofs.Ytaohfcchejedkaa
/- THE CELL 'sum', in the pinned program and in every row, IS THE sha256 OF THE DUMP (.gsa) THAT YtaohfcchejedkaaProg.lean LOADS. Nothing in Lean hashes anything: it is a label: what it is worth is what the hold of that sum in a sandbox is worth. -/
noncomputable def Try.pinned : Pinned := { name := "ytaohfcchejedkaa", sum := "ccf86d9a2c51efb484d9d7ecdd8c55e222b485fe6b586010bafbef93a3d8fcc4", checked := Try.checked }
namespace Rows
def none {H : Type} : Left H := { results := [], args := [] }

/-- 'airsharelaw15.ChannelValid': WHATEVER THE INPUT: true; the input reads as it did. -/
def channelValidSpec : ChangeSpec := { name := "channelValid", fn := fun _ => fun
  | [d1, d2] => { results := [.lit (.bool true)], args := [d1, d2] }
  | _ => none }
def channelValidRow : OpenClaim := { program := "ytaohfcchejedkaa", sum := "ccf86d9a2c51efb484d9d7ecdd8c55e222b485fe6b586010bafbef93a3d8fcc4", func := "airshare/airsharelaw15.ChannelValid", spec := "channelValid", apart := false }
def ChannelValidSaid : Prop := channelValidRow.holds Try.pinned (OpenSpec.ofChange channelValidSpec)

/-- ITS FALSE NEIGHBOUR: 'it returns false'. Refute it at one input. -/
def channelValidWrong : ChangeSpec := { name := "channelValid", fn := fun _ => fun
  | [d1, d2] => { results := [.lit (.bool false)], args := [d1, d2] }
  | _ => none }
def ChannelValidWrongFalsely : Prop := channelValidRow.holds Try.pinned (OpenSpec.ofChange channelValidWrong)

/-- 'airsharelaw15.ChannelScript': WHATEVER THE INPUT: true; the input reads as it did. -/
def channelScriptSpec : ChangeSpec := { name := "channelScript", fn := fun _ => fun
  | [d] => { results := [.lit (.bool true)], args := [d] }
  | _ => none }
def channelScriptRow : OpenClaim := { program := "ytaohfcchejedkaa", sum := "ccf86d9a2c51efb484d9d7ecdd8c55e222b485fe6b586010bafbef93a3d8fcc4", func := "airshare/airsharelaw15.ChannelScript", spec := "channelScript", apart := false }
def ChannelScriptSaid : Prop := channelScriptRow.holds Try.pinned (OpenSpec.ofChange channelScriptSpec)

/-- ITS FALSE NEIGHBOUR: 'it returns false'. Refute it at one input. -/
def channelScriptWrong : ChangeSpec := { name := "channelScript", fn := fun _ => fun
  | [d] => { results := [.lit (.bool false)], args := [d] }
  | _ => none }
def ChannelScriptWrongFalsely : Prop := channelScriptRow.holds Try.pinned (OpenSpec.ofChange channelScriptWrong)

/-- 'airsharelaw15.ChannelOracle': WHATEVER THE INPUT: true; the input reads as it did. -/
def channelOracleSpec : ChangeSpec := { name := "channelOracle", fn := fun _ => fun
  | [d] => { results := [.lit (.bool true)], args := [d] }
  | _ => none }
def channelOracleRow : OpenClaim := { program := "ytaohfcchejedkaa", sum := "ccf86d9a2c51efb484d9d7ecdd8c55e222b485fe6b586010bafbef93a3d8fcc4", func := "airshare/airsharelaw15.ChannelOracle", spec := "channelOracle", apart := false }
def ChannelOracleSaid : Prop := channelOracleRow.holds Try.pinned (OpenSpec.ofChange channelOracleSpec)

/-- ITS FALSE NEIGHBOUR: 'it returns false'. Refute it at one input. -/
def channelOracleWrong : ChangeSpec := { name := "channelOracle", fn := fun _ => fun
  | [d] => { results := [.lit (.bool false)], args := [d] }
  | _ => none }
def ChannelOracleWrongFalsely : Prop := channelOracleRow.holds Try.pinned (OpenSpec.ofChange channelOracleWrong)

/-- 'airsharelaw15.ChannelLast': WHATEVER THE INPUT: true; the input reads as it did. -/
def channelLastSpec : ChangeSpec := { name := "channelLast", fn := fun _ => fun
  | [d1, d2] => { results := [.lit (.bool true)], args := [d1, d2] }
  | _ => none }
def channelLastRow : OpenClaim := { program := "ytaohfcchejedkaa", sum := "ccf86d9a2c51efb484d9d7ecdd8c55e222b485fe6b586010bafbef93a3d8fcc4", func := "airshare/airsharelaw15.ChannelLast", spec := "channelLast", apart := false }
def ChannelLastSaid : Prop := channelLastRow.holds Try.pinned (OpenSpec.ofChange channelLastSpec)

/-- ITS FALSE NEIGHBOUR: 'it returns false'. Refute it at one input. -/
def channelLastWrong : ChangeSpec := { name := "channelLast", fn := fun _ => fun
  | [d1, d2] => { results := [.lit (.bool false)], args := [d1, d2] }
  | _ => none }
def ChannelLastWrongFalsely : Prop := channelLastRow.holds Try.pinned (OpenSpec.ofChange channelLastWrong)

/- THE SECOND FORM. 'bulk': how many values and letters a reading holds, each counted each time it is reached (what is shared counts as often as it is met; a slice's spare places count too). A statement '..UptoSaid' is the law's where the arguments, and the package variables that the reading takes, are together of bulk at most 1048576: NARROWER than '..Said'. Prove '..Said' where nothing that the law and all that it calls make is longer than what came in: it says more and counts as full. Else prove '..UptoSaid'. A law counts once. -/
mutual
def uptoBulk {H : Type} : DataW H → Nat
  | .lit (.string bytes) => bytes.length + 1
  | .lit _ => 1
  | .nil => 1
  | .ptr d => uptoBulk d + 1
  | .slice elems spare => uptoBulkAll elems + uptoBulkAll spare + 1
  | .agg parts => uptoBulkAll parts + 1
  | .iface _ d => uptoBulk d + 1
  | .map entries => uptoBulkEntries entries + 1
  | .held _ => 1
def uptoBulkAll {H : Type} : List (DataW H) → Nat
  | [] => 0
  | d :: r => uptoBulk d + uptoBulkAll r
def uptoBulkEntries {H : Type} : List (Lit × DataW H) → Nat
  | [] => 0
  | x :: r => uptoBulkEntry x + uptoBulkEntries r
def uptoBulkEntry {H : Type} : Lit × DataW H → Nat
  | (.string bytes, d) => bytes.length + uptoBulk d + 1
  | (_, d) => uptoBulk d + 1
 end
def uptoSmall : (H : Type) → List (DataW H) → Bool := fun _ ds => decide (uptoBulkAll ds ≤ 1048576)
def OpenSpec.upto (s : _root_.Go.ChangeSpec) : _root_.Go.OpenSpec := { _root_.Go.OpenSpec.ofChange s with cond := some uptoSmall }

/-- 'airsharelaw15.ChannelValid', WHERE WHAT IT READS IS OF BULK AT MOST 1048576: true; the input reads as it did. -/
def channelValidUptoRow : OpenClaim := { program := "ytaohfcchejedkaa", sum := "ccf86d9a2c51efb484d9d7ecdd8c55e222b485fe6b586010bafbef93a3d8fcc4", func := "airshare/airsharelaw15.ChannelValid", spec := "channelValid", apart := false, narrowed := true }
def ChannelValidUptoSaid : Prop := channelValidUptoRow.holds Try.pinned (OpenSpec.upto channelValidSpec)

/-- 'airsharelaw15.ChannelScript', WHERE WHAT IT READS IS OF BULK AT MOST 1048576: true; the input reads as it did. -/
def channelScriptUptoRow : OpenClaim := { program := "ytaohfcchejedkaa", sum := "ccf86d9a2c51efb484d9d7ecdd8c55e222b485fe6b586010bafbef93a3d8fcc4", func := "airshare/airsharelaw15.ChannelScript", spec := "channelScript", apart := false, narrowed := true }
def ChannelScriptUptoSaid : Prop := channelScriptUptoRow.holds Try.pinned (OpenSpec.upto channelScriptSpec)

/-- 'airsharelaw15.ChannelOracle', WHERE WHAT IT READS IS OF BULK AT MOST 1048576: true; the input reads as it did. -/
def channelOracleUptoRow : OpenClaim := { program := "ytaohfcchejedkaa", sum := "ccf86d9a2c51efb484d9d7ecdd8c55e222b485fe6b586010bafbef93a3d8fcc4", func := "airshare/airsharelaw15.ChannelOracle", spec := "channelOracle", apart := false, narrowed := true }
def ChannelOracleUptoSaid : Prop := channelOracleUptoRow.holds Try.pinned (OpenSpec.upto channelOracleSpec)

/-- 'airsharelaw15.ChannelLast', WHERE WHAT IT READS IS OF BULK AT MOST 1048576: true; the input reads as it did. -/
def channelLastUptoRow : OpenClaim := { program := "ytaohfcchejedkaa", sum := "ccf86d9a2c51efb484d9d7ecdd8c55e222b485fe6b586010bafbef93a3d8fcc4", func := "airshare/airsharelaw15.ChannelLast", spec := "channelLast", apart := false, narrowed := true }
def ChannelLastUptoSaid : Prop := channelLastUptoRow.holds Try.pinned (OpenSpec.upto channelLastSpec)

end Rows
end Go.Proofs.Ytaohfcchejedkaa
