/-
  No cell of these rows narrows 'for every input' (looked for: loops, veiled, ifaces, maps, wideKeys, modest, calm, conditions, laid).
  DERIVED. THE GIVEN ROWS OF THIS SEAT. 4 by the template 'for every input the law returns true; each argument reads behind the call as it read before'; 0 by the template 'total and deterministic' (their statements: YtkhngfadhfomoaaTotals.lean).
  GIVEN WITH THE SEED: the statements are not yours to turn. If you find one false, say at which input.
  Laid BY PROGRAM, IN A SANDBOX (cutbox-rows.mjs): the forced cells as the released guide's own fill.sh prints them over the translation 3f02b510b4aa26a1… (all of the seat's roots in one cut). By AI agents, Wed Nov 11 2026. No macro, syntax, notation, axiom, sorry.
-/
import Derived.Test.YtkhngfadhfomoaaChecked
import GoSem.Claim
import GoSem.ClaimJoined
import GoSem.ClaimMapViews
import Derived.JoinedTies
import Derived.KernelRfl
namespace Go.Proofs.Ytkhngfadhfomoaa
/- THE CELL 'sum', in the pinned program and in every row, IS THE sha256 OF THE DUMP (.gsa) THAT YtkhngfadhfomoaaProg.lean LOADS. Nothing in Lean hashes anything: it is a label: what it is worth is what the hold of that sum in a sandbox is worth. -/
noncomputable def Try.pinned : Pinned := { name := "ytkhngfadhfomoaa", sum := "3f02b510b4aa26a10adff1cc2111efd66d5a7f3782107dee41dafeb9a31b2200", checked := Try.checked }
namespace Rows
def none {H : Type} : Left H := { results := [], args := [] }

/-- 'airsharelaw18.LifeScript': WHATEVER THE INPUT: true; the input reads as it did. -/
def lifeScriptSpec : ChangeSpec := { name := "lifeScript", fn := fun _ => fun
  | [d1, d2, d3] => { results := [.lit (.bool true)], args := [d1, d2, d3] }
  | _ => none }
def lifeScriptRow : OpenClaim := { program := "ytkhngfadhfomoaa", sum := "3f02b510b4aa26a10adff1cc2111efd66d5a7f3782107dee41dafeb9a31b2200", func := "airshare/airsharelaw18.LifeScript", spec := "lifeScript", apart := false }
def LifeScriptSaid : Prop := lifeScriptRow.holds Try.pinned (OpenSpec.ofChange lifeScriptSpec)

/-- ITS FALSE NEIGHBOUR: 'it returns false'. Refute it at one input. -/
def lifeScriptWrong : ChangeSpec := { name := "lifeScript", fn := fun _ => fun
  | [d1, d2, d3] => { results := [.lit (.bool false)], args := [d1, d2, d3] }
  | _ => none }
def LifeScriptWrongFalsely : Prop := lifeScriptRow.holds Try.pinned (OpenSpec.ofChange lifeScriptWrong)

/-- 'airsharelaw18.LifeConserves': WHATEVER THE INPUT: true; the input reads as it did. -/
def lifeConservesSpec : ChangeSpec := { name := "lifeConserves", fn := fun _ => fun
  | [d] => { results := [.lit (.bool true)], args := [d] }
  | _ => none }
def lifeConservesRow : OpenClaim := { program := "ytkhngfadhfomoaa", sum := "3f02b510b4aa26a10adff1cc2111efd66d5a7f3782107dee41dafeb9a31b2200", func := "airshare/airsharelaw18.LifeConserves", spec := "lifeConserves", apart := false }
def LifeConservesSaid : Prop := lifeConservesRow.holds Try.pinned (OpenSpec.ofChange lifeConservesSpec)

/-- ITS FALSE NEIGHBOUR: 'it returns false'. Refute it at one input. -/
def lifeConservesWrong : ChangeSpec := { name := "lifeConserves", fn := fun _ => fun
  | [d] => { results := [.lit (.bool false)], args := [d] }
  | _ => none }
def LifeConservesWrongFalsely : Prop := lifeConservesRow.holds Try.pinned (OpenSpec.ofChange lifeConservesWrong)

/-- 'airsharelaw18.LifeOrder': WHATEVER THE INPUT: true; the input reads as it did. -/
def lifeOrderSpec : ChangeSpec := { name := "lifeOrder", fn := fun _ => fun
  | [d] => { results := [.lit (.bool true)], args := [d] }
  | _ => none }
def lifeOrderRow : OpenClaim := { program := "ytkhngfadhfomoaa", sum := "3f02b510b4aa26a10adff1cc2111efd66d5a7f3782107dee41dafeb9a31b2200", func := "airshare/airsharelaw18.LifeOrder", spec := "lifeOrder", apart := false }
def LifeOrderSaid : Prop := lifeOrderRow.holds Try.pinned (OpenSpec.ofChange lifeOrderSpec)

/-- ITS FALSE NEIGHBOUR: 'it returns false'. Refute it at one input. -/
def lifeOrderWrong : ChangeSpec := { name := "lifeOrder", fn := fun _ => fun
  | [d] => { results := [.lit (.bool false)], args := [d] }
  | _ => none }
def LifeOrderWrongFalsely : Prop := lifeOrderRow.holds Try.pinned (OpenSpec.ofChange lifeOrderWrong)

/-- 'airsharelaw18.LifeEnds': WHATEVER THE INPUT: true; the input reads as it did. -/
def lifeEndsSpec : ChangeSpec := { name := "lifeEnds", fn := fun _ => fun
  | [d] => { results := [.lit (.bool true)], args := [d] }
  | _ => none }
def lifeEndsRow : OpenClaim := { program := "ytkhngfadhfomoaa", sum := "3f02b510b4aa26a10adff1cc2111efd66d5a7f3782107dee41dafeb9a31b2200", func := "airshare/airsharelaw18.LifeEnds", spec := "lifeEnds", apart := false }
def LifeEndsSaid : Prop := lifeEndsRow.holds Try.pinned (OpenSpec.ofChange lifeEndsSpec)

/-- ITS FALSE NEIGHBOUR: 'it returns false'. Refute it at one input. -/
def lifeEndsWrong : ChangeSpec := { name := "lifeEnds", fn := fun _ => fun
  | [d] => { results := [.lit (.bool false)], args := [d] }
  | _ => none }
def LifeEndsWrongFalsely : Prop := lifeEndsRow.holds Try.pinned (OpenSpec.ofChange lifeEndsWrong)

/- THE SECOND FORM. 'bulk': how many values and letters a reading holds, each counted each time it is reached (what is shared counts as often as it is met; a slice's spare places count too). A statement '..UptoSaid' is the law's where the arguments, and the package variables that the reading takes, are together of bulk at most 1048576: NARROWER than '..Said'. Prove '..Said' where nothing that the law and all that it calls make is longer than what came in: it says more and counts as full. Else prove '..UptoSaid'. A law counts once. -/
mutual
def uptoBulk {H : Type} : DataW H → Nat
  | .lit (.string bytes) => bytes.length + 1
  | .lit _ => 1
  | .nil => 1
  | .ptr d => uptoBulk d + 1
  | .slice elems spare => uptoBulkAll elems + uptoBulkAll spare + 1
  | .agg parts => uptoBulkAll parts + 1
  | .iface _ d => uptoBulk d + 1
  | .map entries => uptoBulkEntries entries + 1
  | .held _ => 1
def uptoBulkAll {H : Type} : List (DataW H) → Nat
  | [] => 0
  | d :: r => uptoBulk d + uptoBulkAll r
def uptoBulkEntries {H : Type} : List (Lit × DataW H) → Nat
  | [] => 0
  | x :: r => uptoBulkEntry x + uptoBulkEntries r
def uptoBulkEntry {H : Type} : Lit × DataW H → Nat
  | (.string bytes, d) => bytes.length + uptoBulk d + 1
  | (_, d) => uptoBulk d + 1
 end
def uptoSmall : (H : Type) → List (DataW H) → Bool := fun _ ds => decide (uptoBulkAll ds ≤ 1048576)
def OpenSpec.upto (s : _root_.Go.ChangeSpec) : _root_.Go.OpenSpec := { _root_.Go.OpenSpec.ofChange s with cond := some uptoSmall }

/-- 'airsharelaw18.LifeScript', WHERE WHAT IT READS IS OF BULK AT MOST 1048576: true; the input reads as it did. -/
def lifeScriptUptoRow : OpenClaim := { program := "ytkhngfadhfomoaa", sum := "3f02b510b4aa26a10adff1cc2111efd66d5a7f3782107dee41dafeb9a31b2200", func := "airshare/airsharelaw18.LifeScript", spec := "lifeScript", apart := false, narrowed := true }
def LifeScriptUptoSaid : Prop := lifeScriptUptoRow.holds Try.pinned (OpenSpec.upto lifeScriptSpec)

/-- 'airsharelaw18.LifeConserves', WHERE WHAT IT READS IS OF BULK AT MOST 1048576: true; the input reads as it did. -/
def lifeConservesUptoRow : OpenClaim := { program := "ytkhngfadhfomoaa", sum := "3f02b510b4aa26a10adff1cc2111efd66d5a7f3782107dee41dafeb9a31b2200", func := "airshare/airsharelaw18.LifeConserves", spec := "lifeConserves", apart := false, narrowed := true }
def LifeConservesUptoSaid : Prop := lifeConservesUptoRow.holds Try.pinned (OpenSpec.upto lifeConservesSpec)

/-- 'airsharelaw18.LifeOrder', WHERE WHAT IT READS IS OF BULK AT MOST 1048576: true; the input reads as it did. -/
def lifeOrderUptoRow : OpenClaim := { program := "ytkhngfadhfomoaa", sum := "3f02b510b4aa26a10adff1cc2111efd66d5a7f3782107dee41dafeb9a31b2200", func := "airshare/airsharelaw18.LifeOrder", spec := "lifeOrder", apart := false, narrowed := true }
def LifeOrderUptoSaid : Prop := lifeOrderUptoRow.holds Try.pinned (OpenSpec.upto lifeOrderSpec)

/-- 'airsharelaw18.LifeEnds', WHERE WHAT IT READS IS OF BULK AT MOST 1048576: true; the input reads as it did. -/
def lifeEndsUptoRow : OpenClaim := { program := "ytkhngfadhfomoaa", sum := "3f02b510b4aa26a10adff1cc2111efd66d5a7f3782107dee41dafeb9a31b2200", func := "airshare/airsharelaw18.LifeEnds", spec := "lifeEnds", apart := false, narrowed := true }
def LifeEndsUptoSaid : Prop := lifeEndsUptoRow.holds Try.pinned (OpenSpec.upto lifeEndsSpec)

end Rows
end Go.Proofs.Ytkhngfadhfomoaa
