/-
  No cell of these rows narrows 'for every input' (looked for: loops, veiled, ifaces, maps, wideKeys, modest, calm, conditions, laid).
  DERIVED. THE GIVEN ROWS OF THIS SEAT. 5 by the template 'for every input the law returns true; each argument reads behind the call as it read before'; 0 by the template 'total and deterministic' (their statements: YtimnndjegfiniaaTotals.lean).
  GIVEN WITH THE SEED: the statements are not yours to turn. If you find one false, say at which input.
  Laid BY PROGRAM, IN A SANDBOX (cutbox-rows.mjs): the forced cells as the released guide's own fill.sh prints them over the translation d6acc72bcb3ef6ae… (all of the seat's roots in one cut). By AI agents, Wed Nov 11 2026. No macro, syntax, notation, axiom, sorry.
-/
import Derived.Test.YtimnndjegfiniaaChecked
import GoSem.Claim
import GoSem.ClaimJoined
import GoSem.ClaimMapViews
import Derived.JoinedTies
import Derived.KernelRfl
namespace Go.Proofs.Ytimnndjegfiniaa
/- THE CELL 'sum', in the pinned program and in every row, IS THE sha256 OF THE DUMP (.gsa) THAT YtimnndjegfiniaaProg.lean LOADS. Nothing in Lean hashes anything: it is a label: what it is worth is what the hold of that sum in a sandbox is worth. -/
noncomputable def Try.pinned : Pinned := { name := "ytimnndjegfiniaa", sum := "d6acc72bcb3ef6ae17da84a3cbbe384979f924511471e71dd3d16bfa8cd453c8", checked := Try.checked }
namespace Rows
def none {H : Type} : Left H := { results := [], args := [] }

/-- 'airsharelaw6.BitmapSequence': WHATEVER THE INPUT: true; the input reads as it did. -/
def bitmapSequenceSpec : ChangeSpec := { name := "bitmapSequence", fn := fun _ => fun
  | [d1, d2, d3, d4] => { results := [.lit (.bool true)], args := [d1, d2, d3, d4] }
  | _ => none }
def bitmapSequenceRow : OpenClaim := { program := "ytimnndjegfiniaa", sum := "d6acc72bcb3ef6ae17da84a3cbbe384979f924511471e71dd3d16bfa8cd453c8", func := "airshare/airsharelaw6.BitmapSequence", spec := "bitmapSequence", apart := false }
def BitmapSequenceSaid : Prop := bitmapSequenceRow.holds Try.pinned (OpenSpec.ofChange bitmapSequenceSpec)

/-- ITS FALSE NEIGHBOUR: 'it returns false'. Refute it at one input. -/
def bitmapSequenceWrong : ChangeSpec := { name := "bitmapSequence", fn := fun _ => fun
  | [d1, d2, d3, d4] => { results := [.lit (.bool false)], args := [d1, d2, d3, d4] }
  | _ => none }
def BitmapSequenceWrongFalsely : Prop := bitmapSequenceRow.holds Try.pinned (OpenSpec.ofChange bitmapSequenceWrong)

/-- 'airsharelaw6.BitmapBits': WHATEVER THE INPUT: true; the input reads as it did. -/
def bitmapBitsSpec : ChangeSpec := { name := "bitmapBits", fn := fun _ => fun
  | [d1, d2, d3, d4] => { results := [.lit (.bool true)], args := [d1, d2, d3, d4] }
  | _ => none }
def bitmapBitsRow : OpenClaim := { program := "ytimnndjegfiniaa", sum := "d6acc72bcb3ef6ae17da84a3cbbe384979f924511471e71dd3d16bfa8cd453c8", func := "airshare/airsharelaw6.BitmapBits", spec := "bitmapBits", apart := false }
def BitmapBitsSaid : Prop := bitmapBitsRow.holds Try.pinned (OpenSpec.ofChange bitmapBitsSpec)

/-- ITS FALSE NEIGHBOUR: 'it returns false'. Refute it at one input. -/
def bitmapBitsWrong : ChangeSpec := { name := "bitmapBits", fn := fun _ => fun
  | [d1, d2, d3, d4] => { results := [.lit (.bool false)], args := [d1, d2, d3, d4] }
  | _ => none }
def BitmapBitsWrongFalsely : Prop := bitmapBitsRow.holds Try.pinned (OpenSpec.ofChange bitmapBitsWrong)

/-- 'airsharelaw6.BitmapMoves': WHATEVER THE INPUT: true; the input reads as it did. -/
def bitmapMovesSpec : ChangeSpec := { name := "bitmapMoves", fn := fun _ => fun
  | [d1, d2, d3, d4] => { results := [.lit (.bool true)], args := [d1, d2, d3, d4] }
  | _ => none }
def bitmapMovesRow : OpenClaim := { program := "ytimnndjegfiniaa", sum := "d6acc72bcb3ef6ae17da84a3cbbe384979f924511471e71dd3d16bfa8cd453c8", func := "airshare/airsharelaw6.BitmapMoves", spec := "bitmapMoves", apart := false }
def BitmapMovesSaid : Prop := bitmapMovesRow.holds Try.pinned (OpenSpec.ofChange bitmapMovesSpec)

/-- ITS FALSE NEIGHBOUR: 'it returns false'. Refute it at one input. -/
def bitmapMovesWrong : ChangeSpec := { name := "bitmapMoves", fn := fun _ => fun
  | [d1, d2, d3, d4] => { results := [.lit (.bool false)], args := [d1, d2, d3, d4] }
  | _ => none }
def BitmapMovesWrongFalsely : Prop := bitmapMovesRow.holds Try.pinned (OpenSpec.ofChange bitmapMovesWrong)

/-- 'airsharelaw6.BitmapPack': WHATEVER THE INPUT: true; the input reads as it did. -/
def bitmapPackSpec : ChangeSpec := { name := "bitmapPack", fn := fun _ => fun
  | [d1, d2, d3] => { results := [.lit (.bool true)], args := [d1, d2, d3] }
  | _ => none }
def bitmapPackRow : OpenClaim := { program := "ytimnndjegfiniaa", sum := "d6acc72bcb3ef6ae17da84a3cbbe384979f924511471e71dd3d16bfa8cd453c8", func := "airshare/airsharelaw6.BitmapPack", spec := "bitmapPack", apart := false }
def BitmapPackSaid : Prop := bitmapPackRow.holds Try.pinned (OpenSpec.ofChange bitmapPackSpec)

/-- ITS FALSE NEIGHBOUR: 'it returns false'. Refute it at one input. -/
def bitmapPackWrong : ChangeSpec := { name := "bitmapPack", fn := fun _ => fun
  | [d1, d2, d3] => { results := [.lit (.bool false)], args := [d1, d2, d3] }
  | _ => none }
def BitmapPackWrongFalsely : Prop := bitmapPackRow.holds Try.pinned (OpenSpec.ofChange bitmapPackWrong)

/-- 'airsharelaw6.BitmapKeeps': WHATEVER THE INPUT: true; the input reads as it did. -/
def bitmapKeepsSpec : ChangeSpec := { name := "bitmapKeeps", fn := fun _ => fun
  | [d1, d2, d3] => { results := [.lit (.bool true)], args := [d1, d2, d3] }
  | _ => none }
def bitmapKeepsRow : OpenClaim := { program := "ytimnndjegfiniaa", sum := "d6acc72bcb3ef6ae17da84a3cbbe384979f924511471e71dd3d16bfa8cd453c8", func := "airshare/airsharelaw6.BitmapKeeps", spec := "bitmapKeeps", apart := false }
def BitmapKeepsSaid : Prop := bitmapKeepsRow.holds Try.pinned (OpenSpec.ofChange bitmapKeepsSpec)

/-- ITS FALSE NEIGHBOUR: 'it returns false'. Refute it at one input. -/
def bitmapKeepsWrong : ChangeSpec := { name := "bitmapKeeps", fn := fun _ => fun
  | [d1, d2, d3] => { results := [.lit (.bool false)], args := [d1, d2, d3] }
  | _ => none }
def BitmapKeepsWrongFalsely : Prop := bitmapKeepsRow.holds Try.pinned (OpenSpec.ofChange bitmapKeepsWrong)

/- THE SECOND FORM. 'bulk': how many values and letters a reading holds, each counted each time it is reached (what is shared counts as often as it is met; a slice's spare places count too). A statement '..UptoSaid' is the law's where the arguments, and the package variables that the reading takes, are together of bulk at most 1048576: NARROWER than '..Said'. Prove '..Said' where nothing that the law and all that it calls make is longer than what came in: it says more and counts as full. Else prove '..UptoSaid'. A law counts once. -/
mutual
def uptoBulk {H : Type} : DataW H → Nat
  | .lit (.string bytes) => bytes.length + 1
  | .lit _ => 1
  | .nil => 1
  | .ptr d => uptoBulk d + 1
  | .slice elems spare => uptoBulkAll elems + uptoBulkAll spare + 1
  | .agg parts => uptoBulkAll parts + 1
  | .iface _ d => uptoBulk d + 1
  | .map entries => uptoBulkEntries entries + 1
  | .held _ => 1
def uptoBulkAll {H : Type} : List (DataW H) → Nat
  | [] => 0
  | d :: r => uptoBulk d + uptoBulkAll r
def uptoBulkEntries {H : Type} : List (Lit × DataW H) → Nat
  | [] => 0
  | x :: r => uptoBulkEntry x + uptoBulkEntries r
def uptoBulkEntry {H : Type} : Lit × DataW H → Nat
  | (.string bytes, d) => bytes.length + uptoBulk d + 1
  | (_, d) => uptoBulk d + 1
 end
def uptoSmall : (H : Type) → List (DataW H) → Bool := fun _ ds => decide (uptoBulkAll ds ≤ 1048576)
def OpenSpec.upto (s : _root_.Go.ChangeSpec) : _root_.Go.OpenSpec := { _root_.Go.OpenSpec.ofChange s with cond := some uptoSmall }

/-- 'airsharelaw6.BitmapSequence', WHERE WHAT IT READS IS OF BULK AT MOST 1048576: true; the input reads as it did. -/
def bitmapSequenceUptoRow : OpenClaim := { program := "ytimnndjegfiniaa", sum := "d6acc72bcb3ef6ae17da84a3cbbe384979f924511471e71dd3d16bfa8cd453c8", func := "airshare/airsharelaw6.BitmapSequence", spec := "bitmapSequence", apart := false, narrowed := true }
def BitmapSequenceUptoSaid : Prop := bitmapSequenceUptoRow.holds Try.pinned (OpenSpec.upto bitmapSequenceSpec)

/-- 'airsharelaw6.BitmapBits', WHERE WHAT IT READS IS OF BULK AT MOST 1048576: true; the input reads as it did. -/
def bitmapBitsUptoRow : OpenClaim := { program := "ytimnndjegfiniaa", sum := "d6acc72bcb3ef6ae17da84a3cbbe384979f924511471e71dd3d16bfa8cd453c8", func := "airshare/airsharelaw6.BitmapBits", spec := "bitmapBits", apart := false, narrowed := true }
def BitmapBitsUptoSaid : Prop := bitmapBitsUptoRow.holds Try.pinned (OpenSpec.upto bitmapBitsSpec)

/-- 'airsharelaw6.BitmapMoves', WHERE WHAT IT READS IS OF BULK AT MOST 1048576: true; the input reads as it did. -/
def bitmapMovesUptoRow : OpenClaim := { program := "ytimnndjegfiniaa", sum := "d6acc72bcb3ef6ae17da84a3cbbe384979f924511471e71dd3d16bfa8cd453c8", func := "airshare/airsharelaw6.BitmapMoves", spec := "bitmapMoves", apart := false, narrowed := true }
def BitmapMovesUptoSaid : Prop := bitmapMovesUptoRow.holds Try.pinned (OpenSpec.upto bitmapMovesSpec)

/-- 'airsharelaw6.BitmapPack', WHERE WHAT IT READS IS OF BULK AT MOST 1048576: true; the input reads as it did. -/
def bitmapPackUptoRow : OpenClaim := { program := "ytimnndjegfiniaa", sum := "d6acc72bcb3ef6ae17da84a3cbbe384979f924511471e71dd3d16bfa8cd453c8", func := "airshare/airsharelaw6.BitmapPack", spec := "bitmapPack", apart := false, narrowed := true }
def BitmapPackUptoSaid : Prop := bitmapPackUptoRow.holds Try.pinned (OpenSpec.upto bitmapPackSpec)

/-- 'airsharelaw6.BitmapKeeps', WHERE WHAT IT READS IS OF BULK AT MOST 1048576: true; the input reads as it did. -/
def bitmapKeepsUptoRow : OpenClaim := { program := "ytimnndjegfiniaa", sum := "d6acc72bcb3ef6ae17da84a3cbbe384979f924511471e71dd3d16bfa8cd453c8", func := "airshare/airsharelaw6.BitmapKeeps", spec := "bitmapKeeps", apart := false, narrowed := true }
def BitmapKeepsUptoSaid : Prop := bitmapKeepsUptoRow.holds Try.pinned (OpenSpec.upto bitmapKeepsSpec)

end Rows
end Go.Proofs.Ytimnndjegfiniaa
