/-
  No cell of these rows narrows 'for every input' (looked for: loops, veiled, ifaces, maps, wideKeys, modest, calm, conditions, laid).
  DERIVED. THE GIVEN ROWS OF THIS SEAT. 5 by the template 'for every input the law returns true; each argument reads behind the call as it read before'; 0 by the template 'total and deterministic' (their statements: YtbhgkifalihheaaTotals.lean).
  GIVEN WITH THE SEED: the statements are not yours to turn. If you find one false, say at which input.
  Laid BY PROGRAM, IN A SANDBOX (cutbox-rows.mjs): the forced cells as the released guide's own fill.sh prints them over the translation b2de4c1d712227e6… (all of the seat's roots in one cut). By AI agents, Wed Nov 11 2026. No macro, syntax, notation, axiom, sorry.
-/
import Derived.Test.YtbhgkifalihheaaChecked
import GoSem.Claim
import GoSem.ClaimJoined
import GoSem.ClaimMapViews
import Derived.JoinedTies
import Derived.KernelRfl
namespace Go.Proofs.Ytbhgkifalihheaa
/- THE CELL 'sum', in the pinned program and in every row, IS THE sha256 OF THE DUMP (.gsa) THAT YtbhgkifalihheaaProg.lean LOADS. Nothing in Lean hashes anything: it is a label: what it is worth is what the hold of that sum in a sandbox is worth. -/
noncomputable def Try.pinned : Pinned := { name := "ytbhgkifalihheaa", sum := "b2de4c1d712227e62c437f692bd418e7a99ea6f2f49c2c2378595447f267a7db", checked := Try.checked }
namespace Rows
def none {H : Type} : Left H := { results := [], args := [] }

/-- 'airsharelaw3.SharesSplit': WHATEVER THE INPUT: true; the input reads as it did. -/
def sharesSplitSpec : ChangeSpec := { name := "sharesSplit", fn := fun _ => fun
  | [d1, d2, d3] => { results := [.lit (.bool true)], args := [d1, d2, d3] }
  | _ => none }
def sharesSplitRow : OpenClaim := { program := "ytbhgkifalihheaa", sum := "b2de4c1d712227e62c437f692bd418e7a99ea6f2f49c2c2378595447f267a7db", func := "airshare/airsharelaw3.SharesSplit", spec := "sharesSplit", apart := false }
def SharesSplitSaid : Prop := sharesSplitRow.holds Try.pinned (OpenSpec.ofChange sharesSplitSpec)

/-- ITS FALSE NEIGHBOUR: 'it returns false'. Refute it at one input. -/
def sharesSplitWrong : ChangeSpec := { name := "sharesSplit", fn := fun _ => fun
  | [d1, d2, d3] => { results := [.lit (.bool false)], args := [d1, d2, d3] }
  | _ => none }
def SharesSplitWrongFalsely : Prop := sharesSplitRow.holds Try.pinned (OpenSpec.ofChange sharesSplitWrong)

/-- 'airsharelaw3.SharesFill': WHATEVER THE INPUT: true; the input reads as it did. -/
def sharesFillSpec : ChangeSpec := { name := "sharesFill", fn := fun _ => fun
  | [d1, d2, d3, d4] => { results := [.lit (.bool true)], args := [d1, d2, d3, d4] }
  | _ => none }
def sharesFillRow : OpenClaim := { program := "ytbhgkifalihheaa", sum := "b2de4c1d712227e62c437f692bd418e7a99ea6f2f49c2c2378595447f267a7db", func := "airshare/airsharelaw3.SharesFill", spec := "sharesFill", apart := false }
def SharesFillSaid : Prop := sharesFillRow.holds Try.pinned (OpenSpec.ofChange sharesFillSpec)

/-- ITS FALSE NEIGHBOUR: 'it returns false'. Refute it at one input. -/
def sharesFillWrong : ChangeSpec := { name := "sharesFill", fn := fun _ => fun
  | [d1, d2, d3, d4] => { results := [.lit (.bool false)], args := [d1, d2, d3, d4] }
  | _ => none }
def SharesFillWrongFalsely : Prop := sharesFillRow.holds Try.pinned (OpenSpec.ofChange sharesFillWrong)

/-- 'airsharelaw3.SharesApportion': WHATEVER THE INPUT: true; the input reads as it did. -/
def sharesApportionSpec : ChangeSpec := { name := "sharesApportion", fn := fun _ => fun
  | [d1, d2, d3] => { results := [.lit (.bool true)], args := [d1, d2, d3] }
  | _ => none }
def sharesApportionRow : OpenClaim := { program := "ytbhgkifalihheaa", sum := "b2de4c1d712227e62c437f692bd418e7a99ea6f2f49c2c2378595447f267a7db", func := "airshare/airsharelaw3.SharesApportion", spec := "sharesApportion", apart := false }
def SharesApportionSaid : Prop := sharesApportionRow.holds Try.pinned (OpenSpec.ofChange sharesApportionSpec)

/-- ITS FALSE NEIGHBOUR: 'it returns false'. Refute it at one input. -/
def sharesApportionWrong : ChangeSpec := { name := "sharesApportion", fn := fun _ => fun
  | [d1, d2, d3] => { results := [.lit (.bool false)], args := [d1, d2, d3] }
  | _ => none }
def SharesApportionWrongFalsely : Prop := sharesApportionRow.holds Try.pinned (OpenSpec.ofChange sharesApportionWrong)

/-- 'airsharelaw3.SharesSums': WHATEVER THE INPUT: true; the input reads as it did. -/
def sharesSumsSpec : ChangeSpec := { name := "sharesSums", fn := fun _ => fun
  | [d1, d2] => { results := [.lit (.bool true)], args := [d1, d2] }
  | _ => none }
def sharesSumsRow : OpenClaim := { program := "ytbhgkifalihheaa", sum := "b2de4c1d712227e62c437f692bd418e7a99ea6f2f49c2c2378595447f267a7db", func := "airshare/airsharelaw3.SharesSums", spec := "sharesSums", apart := false }
def SharesSumsSaid : Prop := sharesSumsRow.holds Try.pinned (OpenSpec.ofChange sharesSumsSpec)

/-- ITS FALSE NEIGHBOUR: 'it returns false'. Refute it at one input. -/
def sharesSumsWrong : ChangeSpec := { name := "sharesSums", fn := fun _ => fun
  | [d1, d2] => { results := [.lit (.bool false)], args := [d1, d2] }
  | _ => none }
def SharesSumsWrongFalsely : Prop := sharesSumsRow.holds Try.pinned (OpenSpec.ofChange sharesSumsWrong)

/-- 'airsharelaw3.SharesEnvy': WHATEVER THE INPUT: true; the input reads as it did. -/
def sharesEnvySpec : ChangeSpec := { name := "sharesEnvy", fn := fun _ => fun
  | [d] => { results := [.lit (.bool true)], args := [d] }
  | _ => none }
def sharesEnvyRow : OpenClaim := { program := "ytbhgkifalihheaa", sum := "b2de4c1d712227e62c437f692bd418e7a99ea6f2f49c2c2378595447f267a7db", func := "airshare/airsharelaw3.SharesEnvy", spec := "sharesEnvy", apart := false }
def SharesEnvySaid : Prop := sharesEnvyRow.holds Try.pinned (OpenSpec.ofChange sharesEnvySpec)

/-- ITS FALSE NEIGHBOUR: 'it returns false'. Refute it at one input. -/
def sharesEnvyWrong : ChangeSpec := { name := "sharesEnvy", fn := fun _ => fun
  | [d] => { results := [.lit (.bool false)], args := [d] }
  | _ => none }
def SharesEnvyWrongFalsely : Prop := sharesEnvyRow.holds Try.pinned (OpenSpec.ofChange sharesEnvyWrong)

/- THE SECOND FORM. 'bulk': how many values and letters a reading holds, each counted each time it is reached (what is shared counts as often as it is met; a slice's spare places count too). A statement '..UptoSaid' is the law's where the arguments, and the package variables that the reading takes, are together of bulk at most 1048576: NARROWER than '..Said'. Prove '..Said' where nothing that the law and all that it calls make is longer than what came in: it says more and counts as full. Else prove '..UptoSaid'. A law counts once. -/
mutual
def uptoBulk {H : Type} : DataW H → Nat
  | .lit (.string bytes) => bytes.length + 1
  | .lit _ => 1
  | .nil => 1
  | .ptr d => uptoBulk d + 1
  | .slice elems spare => uptoBulkAll elems + uptoBulkAll spare + 1
  | .agg parts => uptoBulkAll parts + 1
  | .iface _ d => uptoBulk d + 1
  | .map entries => uptoBulkEntries entries + 1
  | .held _ => 1
def uptoBulkAll {H : Type} : List (DataW H) → Nat
  | [] => 0
  | d :: r => uptoBulk d + uptoBulkAll r
def uptoBulkEntries {H : Type} : List (Lit × DataW H) → Nat
  | [] => 0
  | x :: r => uptoBulkEntry x + uptoBulkEntries r
def uptoBulkEntry {H : Type} : Lit × DataW H → Nat
  | (.string bytes, d) => bytes.length + uptoBulk d + 1
  | (_, d) => uptoBulk d + 1
 end
def uptoSmall : (H : Type) → List (DataW H) → Bool := fun _ ds => decide (uptoBulkAll ds ≤ 1048576)
def OpenSpec.upto (s : _root_.Go.ChangeSpec) : _root_.Go.OpenSpec := { _root_.Go.OpenSpec.ofChange s with cond := some uptoSmall }

/-- 'airsharelaw3.SharesSplit', WHERE WHAT IT READS IS OF BULK AT MOST 1048576: true; the input reads as it did. -/
def sharesSplitUptoRow : OpenClaim := { program := "ytbhgkifalihheaa", sum := "b2de4c1d712227e62c437f692bd418e7a99ea6f2f49c2c2378595447f267a7db", func := "airshare/airsharelaw3.SharesSplit", spec := "sharesSplit", apart := false, narrowed := true }
def SharesSplitUptoSaid : Prop := sharesSplitUptoRow.holds Try.pinned (OpenSpec.upto sharesSplitSpec)

/-- 'airsharelaw3.SharesFill', WHERE WHAT IT READS IS OF BULK AT MOST 1048576: true; the input reads as it did. -/
def sharesFillUptoRow : OpenClaim := { program := "ytbhgkifalihheaa", sum := "b2de4c1d712227e62c437f692bd418e7a99ea6f2f49c2c2378595447f267a7db", func := "airshare/airsharelaw3.SharesFill", spec := "sharesFill", apart := false, narrowed := true }
def SharesFillUptoSaid : Prop := sharesFillUptoRow.holds Try.pinned (OpenSpec.upto sharesFillSpec)

/-- 'airsharelaw3.SharesApportion', WHERE WHAT IT READS IS OF BULK AT MOST 1048576: true; the input reads as it did. -/
def sharesApportionUptoRow : OpenClaim := { program := "ytbhgkifalihheaa", sum := "b2de4c1d712227e62c437f692bd418e7a99ea6f2f49c2c2378595447f267a7db", func := "airshare/airsharelaw3.SharesApportion", spec := "sharesApportion", apart := false, narrowed := true }
def SharesApportionUptoSaid : Prop := sharesApportionUptoRow.holds Try.pinned (OpenSpec.upto sharesApportionSpec)

/-- 'airsharelaw3.SharesSums', WHERE WHAT IT READS IS OF BULK AT MOST 1048576: true; the input reads as it did. -/
def sharesSumsUptoRow : OpenClaim := { program := "ytbhgkifalihheaa", sum := "b2de4c1d712227e62c437f692bd418e7a99ea6f2f49c2c2378595447f267a7db", func := "airshare/airsharelaw3.SharesSums", spec := "sharesSums", apart := false, narrowed := true }
def SharesSumsUptoSaid : Prop := sharesSumsUptoRow.holds Try.pinned (OpenSpec.upto sharesSumsSpec)

/-- 'airsharelaw3.SharesEnvy', WHERE WHAT IT READS IS OF BULK AT MOST 1048576: true; the input reads as it did. -/
def sharesEnvyUptoRow : OpenClaim := { program := "ytbhgkifalihheaa", sum := "b2de4c1d712227e62c437f692bd418e7a99ea6f2f49c2c2378595447f267a7db", func := "airshare/airsharelaw3.SharesEnvy", spec := "sharesEnvy", apart := false, narrowed := true }
def SharesEnvyUptoSaid : Prop := sharesEnvyUptoRow.holds Try.pinned (OpenSpec.upto sharesEnvySpec)

end Rows
end Go.Proofs.Ytbhgkifalihheaa
