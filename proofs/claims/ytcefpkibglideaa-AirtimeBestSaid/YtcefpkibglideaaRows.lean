/-
  No cell of these rows narrows 'for every input' (looked for: loops, veiled, ifaces, maps, wideKeys, modest, calm, conditions, laid).
  DERIVED. THE GIVEN ROWS OF THIS SEAT. 4 by the template 'for every input the law returns true; each argument reads behind the call as it read before'; 0 by the template 'total and deterministic' (their statements: YtcefpkibglideaaTotals.lean).
  GIVEN WITH THE SEED: the statements are not yours to turn. If you find one false, say at which input.
  Laid BY PROGRAM, IN A SANDBOX (cutbox-rows.mjs): the forced cells as the released guide's own fill.sh prints them over the translation 1eeb4a4a1cd7f624… (all of the seat's roots in one cut). By AI agents, Wed Nov 11 2026. No macro, syntax, notation, axiom, sorry.
-/
import Derived.Test.YtcefpkibglideaaChecked
import GoSem.Claim
import GoSem.ClaimJoined
import GoSem.ClaimMapViews
import Derived.JoinedTies
import Derived.KernelRfl
namespace Go.Proofs.Ytcefpkibglideaa
/- THE CELL 'sum', in the pinned program and in every row, IS THE sha256 OF THE DUMP (.gsa) THAT YtcefpkibglideaaProg.lean LOADS. Nothing in Lean hashes anything: it is a label: what it is worth is what the hold of that sum in a sandbox is worth. -/
noncomputable def Try.pinned : Pinned := { name := "ytcefpkibglideaa", sum := "1eeb4a4a1cd7f62441a559c626edd6c91272e08ae78f59abe55c236be17e9f50", checked := Try.checked }
namespace Rows
def none {H : Type} : Left H := { results := [], args := [] }

/-- 'airsharelaw19.AirtimeTime': WHATEVER THE INPUT: true; the input reads as it did. -/
def airtimeTimeSpec : ChangeSpec := { name := "airtimeTime", fn := fun _ => fun
  | [d1, d2, d3] => { results := [.lit (.bool true)], args := [d1, d2, d3] }
  | _ => none }
def airtimeTimeRow : OpenClaim := { program := "ytcefpkibglideaa", sum := "1eeb4a4a1cd7f62441a559c626edd6c91272e08ae78f59abe55c236be17e9f50", func := "airshare/airsharelaw19.AirtimeTime", spec := "airtimeTime", apart := false }
def AirtimeTimeSaid : Prop := airtimeTimeRow.holds Try.pinned (OpenSpec.ofChange airtimeTimeSpec)

/-- ITS FALSE NEIGHBOUR: 'it returns false'. Refute it at one input. -/
def airtimeTimeWrong : ChangeSpec := { name := "airtimeTime", fn := fun _ => fun
  | [d1, d2, d3] => { results := [.lit (.bool false)], args := [d1, d2, d3] }
  | _ => none }
def AirtimeTimeWrongFalsely : Prop := airtimeTimeRow.holds Try.pinned (OpenSpec.ofChange airtimeTimeWrong)

/-- 'airsharelaw19.AirtimeFit': WHATEVER THE INPUT: true; the input reads as it did. -/
def airtimeFitSpec : ChangeSpec := { name := "airtimeFit", fn := fun _ => fun
  | [d1, d2, d3] => { results := [.lit (.bool true)], args := [d1, d2, d3] }
  | _ => none }
def airtimeFitRow : OpenClaim := { program := "ytcefpkibglideaa", sum := "1eeb4a4a1cd7f62441a559c626edd6c91272e08ae78f59abe55c236be17e9f50", func := "airshare/airsharelaw19.AirtimeFit", spec := "airtimeFit", apart := false }
def AirtimeFitSaid : Prop := airtimeFitRow.holds Try.pinned (OpenSpec.ofChange airtimeFitSpec)

/-- ITS FALSE NEIGHBOUR: 'it returns false'. Refute it at one input. -/
def airtimeFitWrong : ChangeSpec := { name := "airtimeFit", fn := fun _ => fun
  | [d1, d2, d3] => { results := [.lit (.bool false)], args := [d1, d2, d3] }
  | _ => none }
def AirtimeFitWrongFalsely : Prop := airtimeFitRow.holds Try.pinned (OpenSpec.ofChange airtimeFitWrong)

/-- 'airsharelaw19.AirtimeInverse': WHATEVER THE INPUT: true; the input reads as it did. -/
def airtimeInverseSpec : ChangeSpec := { name := "airtimeInverse", fn := fun _ => fun
  | [d1, d2, d3] => { results := [.lit (.bool true)], args := [d1, d2, d3] }
  | _ => none }
def airtimeInverseRow : OpenClaim := { program := "ytcefpkibglideaa", sum := "1eeb4a4a1cd7f62441a559c626edd6c91272e08ae78f59abe55c236be17e9f50", func := "airshare/airsharelaw19.AirtimeInverse", spec := "airtimeInverse", apart := false }
def AirtimeInverseSaid : Prop := airtimeInverseRow.holds Try.pinned (OpenSpec.ofChange airtimeInverseSpec)

/-- ITS FALSE NEIGHBOUR: 'it returns false'. Refute it at one input. -/
def airtimeInverseWrong : ChangeSpec := { name := "airtimeInverse", fn := fun _ => fun
  | [d1, d2, d3] => { results := [.lit (.bool false)], args := [d1, d2, d3] }
  | _ => none }
def AirtimeInverseWrongFalsely : Prop := airtimeInverseRow.holds Try.pinned (OpenSpec.ofChange airtimeInverseWrong)

/-- 'airsharelaw19.AirtimeBest': WHATEVER THE INPUT: true; the input reads as it did. -/
def airtimeBestSpec : ChangeSpec := { name := "airtimeBest", fn := fun _ => fun
  | [d1, d2, d3] => { results := [.lit (.bool true)], args := [d1, d2, d3] }
  | _ => none }
def airtimeBestRow : OpenClaim := { program := "ytcefpkibglideaa", sum := "1eeb4a4a1cd7f62441a559c626edd6c91272e08ae78f59abe55c236be17e9f50", func := "airshare/airsharelaw19.AirtimeBest", spec := "airtimeBest", apart := false }
def AirtimeBestSaid : Prop := airtimeBestRow.holds Try.pinned (OpenSpec.ofChange airtimeBestSpec)

/-- ITS FALSE NEIGHBOUR: 'it returns false'. Refute it at one input. -/
def airtimeBestWrong : ChangeSpec := { name := "airtimeBest", fn := fun _ => fun
  | [d1, d2, d3] => { results := [.lit (.bool false)], args := [d1, d2, d3] }
  | _ => none }
def AirtimeBestWrongFalsely : Prop := airtimeBestRow.holds Try.pinned (OpenSpec.ofChange airtimeBestWrong)

/- THE SECOND FORM. 'bulk': how many values and letters a reading holds, each counted each time it is reached (what is shared counts as often as it is met; a slice's spare places count too). A statement '..UptoSaid' is the law's where the arguments, and the package variables that the reading takes, are together of bulk at most 1048576: NARROWER than '..Said'. Prove '..Said' where nothing that the law and all that it calls make is longer than what came in: it says more and counts as full. Else prove '..UptoSaid'. A law counts once. -/
mutual
def uptoBulk {H : Type} : DataW H → Nat
  | .lit (.string bytes) => bytes.length + 1
  | .lit _ => 1
  | .nil => 1
  | .ptr d => uptoBulk d + 1
  | .slice elems spare => uptoBulkAll elems + uptoBulkAll spare + 1
  | .agg parts => uptoBulkAll parts + 1
  | .iface _ d => uptoBulk d + 1
  | .map entries => uptoBulkEntries entries + 1
  | .held _ => 1
def uptoBulkAll {H : Type} : List (DataW H) → Nat
  | [] => 0
  | d :: r => uptoBulk d + uptoBulkAll r
def uptoBulkEntries {H : Type} : List (Lit × DataW H) → Nat
  | [] => 0
  | x :: r => uptoBulkEntry x + uptoBulkEntries r
def uptoBulkEntry {H : Type} : Lit × DataW H → Nat
  | (.string bytes, d) => bytes.length + uptoBulk d + 1
  | (_, d) => uptoBulk d + 1
 end
def uptoSmall : (H : Type) → List (DataW H) → Bool := fun _ ds => decide (uptoBulkAll ds ≤ 1048576)
def OpenSpec.upto (s : _root_.Go.ChangeSpec) : _root_.Go.OpenSpec := { _root_.Go.OpenSpec.ofChange s with cond := some uptoSmall }

/-- 'airsharelaw19.AirtimeTime', WHERE WHAT IT READS IS OF BULK AT MOST 1048576: true; the input reads as it did. -/
def airtimeTimeUptoRow : OpenClaim := { program := "ytcefpkibglideaa", sum := "1eeb4a4a1cd7f62441a559c626edd6c91272e08ae78f59abe55c236be17e9f50", func := "airshare/airsharelaw19.AirtimeTime", spec := "airtimeTime", apart := false, narrowed := true }
def AirtimeTimeUptoSaid : Prop := airtimeTimeUptoRow.holds Try.pinned (OpenSpec.upto airtimeTimeSpec)

/-- 'airsharelaw19.AirtimeFit', WHERE WHAT IT READS IS OF BULK AT MOST 1048576: true; the input reads as it did. -/
def airtimeFitUptoRow : OpenClaim := { program := "ytcefpkibglideaa", sum := "1eeb4a4a1cd7f62441a559c626edd6c91272e08ae78f59abe55c236be17e9f50", func := "airshare/airsharelaw19.AirtimeFit", spec := "airtimeFit", apart := false, narrowed := true }
def AirtimeFitUptoSaid : Prop := airtimeFitUptoRow.holds Try.pinned (OpenSpec.upto airtimeFitSpec)

/-- 'airsharelaw19.AirtimeInverse', WHERE WHAT IT READS IS OF BULK AT MOST 1048576: true; the input reads as it did. -/
def airtimeInverseUptoRow : OpenClaim := { program := "ytcefpkibglideaa", sum := "1eeb4a4a1cd7f62441a559c626edd6c91272e08ae78f59abe55c236be17e9f50", func := "airshare/airsharelaw19.AirtimeInverse", spec := "airtimeInverse", apart := false, narrowed := true }
def AirtimeInverseUptoSaid : Prop := airtimeInverseUptoRow.holds Try.pinned (OpenSpec.upto airtimeInverseSpec)

/-- 'airsharelaw19.AirtimeBest', WHERE WHAT IT READS IS OF BULK AT MOST 1048576: true; the input reads as it did. -/
def airtimeBestUptoRow : OpenClaim := { program := "ytcefpkibglideaa", sum := "1eeb4a4a1cd7f62441a559c626edd6c91272e08ae78f59abe55c236be17e9f50", func := "airshare/airsharelaw19.AirtimeBest", spec := "airtimeBest", apart := false, narrowed := true }
def AirtimeBestUptoSaid : Prop := airtimeBestUptoRow.holds Try.pinned (OpenSpec.upto airtimeBestSpec)

end Rows
end Go.Proofs.Ytcefpkibglideaa
