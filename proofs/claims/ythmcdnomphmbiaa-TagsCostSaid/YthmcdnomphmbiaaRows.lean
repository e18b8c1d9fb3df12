/-
  No cell of these rows narrows 'for every input' (looked for: loops, veiled, ifaces, maps, wideKeys, modest, calm, conditions, laid).
  DERIVED. THE GIVEN ROWS OF THIS SEAT. 5 by the template 'for every input the law returns true; each argument reads behind the call as it read before'; 0 by the template 'total and deterministic' (their statements: YthmcdnomphmbiaaTotals.lean).
  GIVEN WITH THE SEED: the statements are not yours to turn. If you find one false, say at which input.
  Laid BY PROGRAM, IN A SANDBOX (cutbox-rows.mjs): the forced cells as the released guide's own fill.sh prints them over the translation ed69dc9a518a5136… (all of the seat's roots in one cut). By AI agents, Wed Nov 11 2026. No macro, syntax, notation, axiom, sorry.
-/
import Derived.Test.YthmcdnomphmbiaaChecked
import GoSem.Claim
import GoSem.ClaimJoined
import GoSem.ClaimMapViews
import Derived.JoinedTies
import Derived.KernelRfl
namespace Go.Proofs.Ythmcdnomphmbiaa
/- THE CELL 'sum', in the pinned program and in every row, IS THE sha256 OF THE DUMP (.gsa) THAT YthmcdnomphmbiaaProg.lean LOADS. Nothing in Lean hashes anything: it is a label: what it is worth is what the hold of that sum in a sandbox is worth. -/
noncomputable def Try.pinned : Pinned := { name := "ythmcdnomphmbiaa", sum := "ed69dc9a518a5136a577e481f468d1aa20384914568f2d05472a3ad4c57b6eeb", checked := Try.checked }
namespace Rows
def none {H : Type} : Left H := { results := [], args := [] }

/-- 'airsharelaw12.TagsCost': WHATEVER THE INPUT: true; the input reads as it did. -/
def tagsCostSpec : ChangeSpec := { name := "tagsCost", fn := fun _ => fun
  | [d1, d2, d3, d4] => { results := [.lit (.bool true)], args := [d1, d2, d3, d4] }
  | _ => none }
def tagsCostRow : OpenClaim := { program := "ythmcdnomphmbiaa", sum := "ed69dc9a518a5136a577e481f468d1aa20384914568f2d05472a3ad4c57b6eeb", func := "airshare/airsharelaw12.TagsCost", spec := "tagsCost", apart := false }
def TagsCostSaid : Prop := tagsCostRow.holds Try.pinned (OpenSpec.ofChange tagsCostSpec)

/-- ITS FALSE NEIGHBOUR: 'it returns false'. Refute it at one input. -/
def tagsCostWrong : ChangeSpec := { name := "tagsCost", fn := fun _ => fun
  | [d1, d2, d3, d4] => { results := [.lit (.bool false)], args := [d1, d2, d3, d4] }
  | _ => none }
def TagsCostWrongFalsely : Prop := tagsCostRow.holds Try.pinned (OpenSpec.ofChange tagsCostWrong)

/-- 'airsharelaw12.TagsLeast': WHATEVER THE INPUT: true; the input reads as it did. -/
def tagsLeastSpec : ChangeSpec := { name := "tagsLeast", fn := fun _ => fun
  | [d1, d2] => { results := [.lit (.bool true)], args := [d1, d2] }
  | _ => none }
def tagsLeastRow : OpenClaim := { program := "ythmcdnomphmbiaa", sum := "ed69dc9a518a5136a577e481f468d1aa20384914568f2d05472a3ad4c57b6eeb", func := "airshare/airsharelaw12.TagsLeast", spec := "tagsLeast", apart := false }
def TagsLeastSaid : Prop := tagsLeastRow.holds Try.pinned (OpenSpec.ofChange tagsLeastSpec)

/-- ITS FALSE NEIGHBOUR: 'it returns false'. Refute it at one input. -/
def tagsLeastWrong : ChangeSpec := { name := "tagsLeast", fn := fun _ => fun
  | [d1, d2] => { results := [.lit (.bool false)], args := [d1, d2] }
  | _ => none }
def TagsLeastWrongFalsely : Prop := tagsLeastRow.holds Try.pinned (OpenSpec.ofChange tagsLeastWrong)

/-- 'airsharelaw12.TagsRebase': WHATEVER THE INPUT: true; the input reads as it did. -/
def tagsRebaseSpec : ChangeSpec := { name := "tagsRebase", fn := fun _ => fun
  | [d1, d2, d3] => { results := [.lit (.bool true)], args := [d1, d2, d3] }
  | _ => none }
def tagsRebaseRow : OpenClaim := { program := "ythmcdnomphmbiaa", sum := "ed69dc9a518a5136a577e481f468d1aa20384914568f2d05472a3ad4c57b6eeb", func := "airshare/airsharelaw12.TagsRebase", spec := "tagsRebase", apart := false }
def TagsRebaseSaid : Prop := tagsRebaseRow.holds Try.pinned (OpenSpec.ofChange tagsRebaseSpec)

/-- ITS FALSE NEIGHBOUR: 'it returns false'. Refute it at one input. -/
def tagsRebaseWrong : ChangeSpec := { name := "tagsRebase", fn := fun _ => fun
  | [d1, d2, d3] => { results := [.lit (.bool false)], args := [d1, d2, d3] }
  | _ => none }
def TagsRebaseWrongFalsely : Prop := tagsRebaseRow.holds Try.pinned (OpenSpec.ofChange tagsRebaseWrong)

/-- 'airsharelaw12.TagsNormalized': WHATEVER THE INPUT: true; the input reads as it did. -/
def tagsNormalizedSpec : ChangeSpec := { name := "tagsNormalized", fn := fun _ => fun
  | [d1, d2, d3] => { results := [.lit (.bool true)], args := [d1, d2, d3] }
  | _ => none }
def tagsNormalizedRow : OpenClaim := { program := "ythmcdnomphmbiaa", sum := "ed69dc9a518a5136a577e481f468d1aa20384914568f2d05472a3ad4c57b6eeb", func := "airshare/airsharelaw12.TagsNormalized", spec := "tagsNormalized", apart := false }
def TagsNormalizedSaid : Prop := tagsNormalizedRow.holds Try.pinned (OpenSpec.ofChange tagsNormalizedSpec)

/-- ITS FALSE NEIGHBOUR: 'it returns false'. Refute it at one input. -/
def tagsNormalizedWrong : ChangeSpec := { name := "tagsNormalized", fn := fun _ => fun
  | [d1, d2, d3] => { results := [.lit (.bool false)], args := [d1, d2, d3] }
  | _ => none }
def TagsNormalizedWrongFalsely : Prop := tagsNormalizedRow.holds Try.pinned (OpenSpec.ofChange tagsNormalizedWrong)

/-- 'airsharelaw12.TagsExact': WHATEVER THE INPUT: true; the input reads as it did. -/
def tagsExactSpec : ChangeSpec := { name := "tagsExact", fn := fun _ => fun
  | [d] => { results := [.lit (.bool true)], args := [d] }
  | _ => none }
def tagsExactRow : OpenClaim := { program := "ythmcdnomphmbiaa", sum := "ed69dc9a518a5136a577e481f468d1aa20384914568f2d05472a3ad4c57b6eeb", func := "airshare/airsharelaw12.TagsExact", spec := "tagsExact", apart := false }
def TagsExactSaid : Prop := tagsExactRow.holds Try.pinned (OpenSpec.ofChange tagsExactSpec)

/-- ITS FALSE NEIGHBOUR: 'it returns false'. Refute it at one input. -/
def tagsExactWrong : ChangeSpec := { name := "tagsExact", fn := fun _ => fun
  | [d] => { results := [.lit (.bool false)], args := [d] }
  | _ => none }
def TagsExactWrongFalsely : Prop := tagsExactRow.holds Try.pinned (OpenSpec.ofChange tagsExactWrong)

/- THE SECOND FORM. 'bulk': how many values and letters a reading holds, each counted each time it is reached (what is shared counts as often as it is met; a slice's spare places count too). A statement '..UptoSaid' is the law's where the arguments, and the package variables that the reading takes, are together of bulk at most 1048576: NARROWER than '..Said'. Prove '..Said' where nothing that the law and all that it calls make is longer than what came in: it says more and counts as full. Else prove '..UptoSaid'. A law counts once. -/
mutual
def uptoBulk {H : Type} : DataW H → Nat
  | .lit (.string bytes) => bytes.length + 1
  | .lit _ => 1
  | .nil => 1
  | .ptr d => uptoBulk d + 1
  | .slice elems spare => uptoBulkAll elems + uptoBulkAll spare + 1
  | .agg parts => uptoBulkAll parts + 1
  | .iface _ d => uptoBulk d + 1
  | .map entries => uptoBulkEntries entries + 1
  | .held _ => 1
def uptoBulkAll {H : Type} : List (DataW H) → Nat
  | [] => 0
  | d :: r => uptoBulk d + uptoBulkAll r
def uptoBulkEntries {H : Type} : List (Lit × DataW H) → Nat
  | [] => 0
  | x :: r => uptoBulkEntry x + uptoBulkEntries r
def uptoBulkEntry {H : Type} : Lit × DataW H → Nat
  | (.string bytes, d) => bytes.length + uptoBulk d + 1
  | (_, d) => uptoBulk d + 1
 end
def uptoSmall : (H : Type) → List (DataW H) → Bool := fun _ ds => decide (uptoBulkAll ds ≤ 1048576)
def OpenSpec.upto (s : _root_.Go.ChangeSpec) : _root_.Go.OpenSpec := { _root_.Go.OpenSpec.ofChange s with cond := some uptoSmall }

/-- 'airsharelaw12.TagsCost', WHERE WHAT IT READS IS OF BULK AT MOST 1048576: true; the input reads as it did. -/
def tagsCostUptoRow : OpenClaim := { program := "ythmcdnomphmbiaa", sum := "ed69dc9a518a5136a577e481f468d1aa20384914568f2d05472a3ad4c57b6eeb", func := "airshare/airsharelaw12.TagsCost", spec := "tagsCost", apart := false, narrowed := true }
def TagsCostUptoSaid : Prop := tagsCostUptoRow.holds Try.pinned (OpenSpec.upto tagsCostSpec)

/-- 'airsharelaw12.TagsLeast', WHERE WHAT IT READS IS OF BULK AT MOST 1048576: true; the input reads as it did. -/
def tagsLeastUptoRow : OpenClaim := { program := "ythmcdnomphmbiaa", sum := "ed69dc9a518a5136a577e481f468d1aa20384914568f2d05472a3ad4c57b6eeb", func := "airshare/airsharelaw12.TagsLeast", spec := "tagsLeast", apart := false, narrowed := true }
def TagsLeastUptoSaid : Prop := tagsLeastUptoRow.holds Try.pinned (OpenSpec.upto tagsLeastSpec)

/-- 'airsharelaw12.TagsRebase', WHERE WHAT IT READS IS OF BULK AT MOST 1048576: true; the input reads as it did. -/
def tagsRebaseUptoRow : OpenClaim := { program := "ythmcdnomphmbiaa", sum := "ed69dc9a518a5136a577e481f468d1aa20384914568f2d05472a3ad4c57b6eeb", func := "airshare/airsharelaw12.TagsRebase", spec := "tagsRebase", apart := false, narrowed := true }
def TagsRebaseUptoSaid : Prop := tagsRebaseUptoRow.holds Try.pinned (OpenSpec.upto tagsRebaseSpec)

/-- 'airsharelaw12.TagsNormalized', WHERE WHAT IT READS IS OF BULK AT MOST 1048576: true; the input reads as it did. -/
def tagsNormalizedUptoRow : OpenClaim := { program := "ythmcdnomphmbiaa", sum := "ed69dc9a518a5136a577e481f468d1aa20384914568f2d05472a3ad4c57b6eeb", func := "airshare/airsharelaw12.TagsNormalized", spec := "tagsNormalized", apart := false, narrowed := true }
def TagsNormalizedUptoSaid : Prop := tagsNormalizedUptoRow.holds Try.pinned (OpenSpec.upto tagsNormalizedSpec)

/-- 'airsharelaw12.TagsExact', WHERE WHAT IT READS IS OF BULK AT MOST 1048576: true; the input reads as it did. -/
def tagsExactUptoRow : OpenClaim := { program := "ythmcdnomphmbiaa", sum := "ed69dc9a518a5136a577e481f468d1aa20384914568f2d05472a3ad4c57b6eeb", func := "airshare/airsharelaw12.TagsExact", spec := "tagsExact", apart := false, narrowed := true }
def TagsExactUptoSaid : Prop := tagsExactUptoRow.holds Try.pinned (OpenSpec.upto tagsExactSpec)

end Rows
end Go.Proofs.Ythmcdnomphmbiaa
