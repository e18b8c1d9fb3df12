/-
  No cell of these rows narrows 'for every input' (looked for: loops, veiled, ifaces, maps, wideKeys, modest, calm, conditions, laid).
  DERIVED. THE GIVEN ROWS OF THIS SEAT. 4 by the template 'for every input the law returns true; each argument reads behind the call as it read before'; 0 by the template 'total and deterministic' (their statements: YthhipejffpifkaaTotals.lean).
  GIVEN WITH THE SEED: the statements are not yours to turn. If you find one false, say at which input.
  Laid BY PROGRAM, IN A SANDBOX (cutbox-rows.mjs): the forced cells as the released guide's own fill.sh prints them over the translation dda0ba2a61a0da63… (all of the seat's roots in one cut). By AI agents, Wed Nov 11 2026. No macro, syntax, notation, axiom, sorry.
-/
import Derived.Test.YthhipejffpifkaaChecked
import GoSem.Claim
import GoSem.ClaimJoined
import GoSem.ClaimMapViews
import Derived.JoinedTies
import Derived.KernelRfl
namespace Go.Proofs.Ythhipejffpifkaa
/- THE CELL 'sum', in the pinned program and in every row, IS THE sha256 OF THE DUMP (.gsa) THAT YthhipejffpifkaaProg.lean LOADS. Nothing in Lean hashes anything: it is a label: what it is worth is what the hold of that sum in a sandbox is worth. -/
noncomputable def Try.pinned : Pinned := { name := "ythhipejffpifkaa", sum := "dda0ba2a61a0da636a21b2f690d4a7c0c33dcfb3cf0a19a08a0d0bce7a78fd3f", checked := Try.checked }
namespace Rows
def none {H : Type} : Left H := { results := [], args := [] }

/-- 'airsharelaw8.PacketFormat': WHATEVER THE INPUT: true; the input reads as it did. -/
def packetFormatSpec : ChangeSpec := { name := "packetFormat", fn := fun _ => fun
  | [d1, d2] => { results := [.lit (.bool true)], args := [d1, d2] }
  | _ => none }
def packetFormatRow : OpenClaim := { program := "ythhipejffpifkaa", sum := "dda0ba2a61a0da636a21b2f690d4a7c0c33dcfb3cf0a19a08a0d0bce7a78fd3f", func := "airshare/airsharelaw8.PacketFormat", spec := "packetFormat", inPlace := ["internal/bytealg.IndexByteString", "internal/bytealg.IndexString"], named := ["internal/bytealg.MaxLen"], apart := false }
def PacketFormatSaid : Prop := packetFormatRow.holds Try.pinned (OpenSpec.ofChange packetFormatSpec)

/-- ITS FALSE NEIGHBOUR: 'it returns false'. Refute it at one input. -/
def packetFormatWrong : ChangeSpec := { name := "packetFormat", fn := fun _ => fun
  | [d1, d2] => { results := [.lit (.bool false)], args := [d1, d2] }
  | _ => none }
def PacketFormatWrongFalsely : Prop := packetFormatRow.holds Try.pinned (OpenSpec.ofChange packetFormatWrong)

/-- 'airsharelaw8.PacketParse': WHATEVER THE INPUT: true; the input reads as it did. -/
def packetParseSpec : ChangeSpec := { name := "packetParse", fn := fun _ => fun
  | [d1, d2] => { results := [.lit (.bool true)], args := [d1, d2] }
  | _ => none }
def packetParseRow : OpenClaim := { program := "ythhipejffpifkaa", sum := "dda0ba2a61a0da636a21b2f690d4a7c0c33dcfb3cf0a19a08a0d0bce7a78fd3f", func := "airshare/airsharelaw8.PacketParse", spec := "packetParse", inPlace := ["internal/bytealg.IndexByteString", "internal/bytealg.IndexString"], named := ["internal/bytealg.MaxLen"], apart := false }
def PacketParseSaid : Prop := packetParseRow.holds Try.pinned (OpenSpec.ofChange packetParseSpec)

/-- ITS FALSE NEIGHBOUR: 'it returns false'. Refute it at one input. -/
def packetParseWrong : ChangeSpec := { name := "packetParse", fn := fun _ => fun
  | [d1, d2] => { results := [.lit (.bool false)], args := [d1, d2] }
  | _ => none }
def PacketParseWrongFalsely : Prop := packetParseRow.holds Try.pinned (OpenSpec.ofChange packetParseWrong)

/-- 'airsharelaw8.PacketRoundTrip': WHATEVER THE INPUT: true; the input reads as it did. -/
def packetRoundTripSpec : ChangeSpec := { name := "packetRoundTrip", fn := fun _ => fun
  | [d1, d2] => { results := [.lit (.bool true)], args := [d1, d2] }
  | _ => none }
def packetRoundTripRow : OpenClaim := { program := "ythhipejffpifkaa", sum := "dda0ba2a61a0da636a21b2f690d4a7c0c33dcfb3cf0a19a08a0d0bce7a78fd3f", func := "airshare/airsharelaw8.PacketRoundTrip", spec := "packetRoundTrip", inPlace := ["internal/bytealg.IndexByteString", "internal/bytealg.IndexString"], named := ["internal/bytealg.MaxLen"], apart := false }
def PacketRoundTripSaid : Prop := packetRoundTripRow.holds Try.pinned (OpenSpec.ofChange packetRoundTripSpec)

/-- ITS FALSE NEIGHBOUR: 'it returns false'. Refute it at one input. -/
def packetRoundTripWrong : ChangeSpec := { name := "packetRoundTrip", fn := fun _ => fun
  | [d1, d2] => { results := [.lit (.bool false)], args := [d1, d2] }
  | _ => none }
def PacketRoundTripWrongFalsely : Prop := packetRoundTripRow.holds Try.pinned (OpenSpec.ofChange packetRoundTripWrong)

/-- 'airsharelaw8.PacketDamage': WHATEVER THE INPUT: true; the input reads as it did. -/
def packetDamageSpec : ChangeSpec := { name := "packetDamage", fn := fun _ => fun
  | [d1, d2, d3] => { results := [.lit (.bool true)], args := [d1, d2, d3] }
  | _ => none }
def packetDamageRow : OpenClaim := { program := "ythhipejffpifkaa", sum := "dda0ba2a61a0da636a21b2f690d4a7c0c33dcfb3cf0a19a08a0d0bce7a78fd3f", func := "airshare/airsharelaw8.PacketDamage", spec := "packetDamage", inPlace := ["internal/bytealg.IndexByteString", "internal/bytealg.IndexString"], named := ["internal/bytealg.MaxLen"], apart := false }
def PacketDamageSaid : Prop := packetDamageRow.holds Try.pinned (OpenSpec.ofChange packetDamageSpec)

/-- ITS FALSE NEIGHBOUR: 'it returns false'. Refute it at one input. -/
def packetDamageWrong : ChangeSpec := { name := "packetDamage", fn := fun _ => fun
  | [d1, d2, d3] => { results := [.lit (.bool false)], args := [d1, d2, d3] }
  | _ => none }
def PacketDamageWrongFalsely : Prop := packetDamageRow.holds Try.pinned (OpenSpec.ofChange packetDamageWrong)

/- THE SECOND FORM. 'bulk': how many values and letters a reading holds, each counted each time it is reached (what is shared counts as often as it is met; a slice's spare places count too). A statement '..UptoSaid' is the law's where the arguments, and the package variables that the reading takes, are together of bulk at most 1048576: NARROWER than '..Said'. Prove '..Said' where nothing that the law and all that it calls make is longer than what came in: it says more and counts as full. Else prove '..UptoSaid'. A law counts once. -/
mutual
def uptoBulk {H : Type} : DataW H → Nat
  | .lit (.string bytes) => bytes.length + 1
  | .lit _ => 1
  | .nil => 1
  | .ptr d => uptoBulk d + 1
  | .slice elems spare => uptoBulkAll elems + uptoBulkAll spare + 1
  | .agg parts => uptoBulkAll parts + 1
  | .iface _ d => uptoBulk d + 1
  | .map entries => uptoBulkEntries entries + 1
  | .held _ => 1
def uptoBulkAll {H : Type} : List (DataW H) → Nat
  | [] => 0
  | d :: r => uptoBulk d + uptoBulkAll r
def uptoBulkEntries {H : Type} : List (Lit × DataW H) → Nat
  | [] => 0
  | x :: r => uptoBulkEntry x + uptoBulkEntries r
def uptoBulkEntry {H : Type} : Lit × DataW H → Nat
  | (.string bytes, d) => bytes.length + uptoBulk d + 1
  | (_, d) => uptoBulk d + 1
 end
def uptoSmall : (H : Type) → List (DataW H) → Bool := fun _ ds => decide (uptoBulkAll ds ≤ 1048576)
def OpenSpec.upto (s : _root_.Go.ChangeSpec) : _root_.Go.OpenSpec := { _root_.Go.OpenSpec.ofChange s with cond := some uptoSmall }

/-- 'airsharelaw8.PacketFormat', WHERE WHAT IT READS IS OF BULK AT MOST 1048576: true; the input reads as it did. -/
def packetFormatUptoRow : OpenClaim := { program := "ythhipejffpifkaa", sum := "dda0ba2a61a0da636a21b2f690d4a7c0c33dcfb3cf0a19a08a0d0bce7a78fd3f", func := "airshare/airsharelaw8.PacketFormat", spec := "packetFormat", inPlace := ["internal/bytealg.IndexByteString", "internal/bytealg.IndexString"], named := ["internal/bytealg.MaxLen"], apart := false, narrowed := true }
def PacketFormatUptoSaid : Prop := packetFormatUptoRow.holds Try.pinned (OpenSpec.upto packetFormatSpec)

/-- 'airsharelaw8.PacketParse', WHERE WHAT IT READS IS OF BULK AT MOST 1048576: true; the input reads as it did. -/
def packetParseUptoRow : OpenClaim := { program := "ythhipejffpifkaa", sum := "dda0ba2a61a0da636a21b2f690d4a7c0c33dcfb3cf0a19a08a0d0bce7a78fd3f", func := "airshare/airsharelaw8.PacketParse", spec := "packetParse", inPlace := ["internal/bytealg.IndexByteString", "internal/bytealg.IndexString"], named := ["internal/bytealg.MaxLen"], apart := false, narrowed := true }
def PacketParseUptoSaid : Prop := packetParseUptoRow.holds Try.pinned (OpenSpec.upto packetParseSpec)

/-- 'airsharelaw8.PacketRoundTrip', WHERE WHAT IT READS IS OF BULK AT MOST 1048576: true; the input reads as it did. -/
def packetRoundTripUptoRow : OpenClaim := { program := "ythhipejffpifkaa", sum := "dda0ba2a61a0da636a21b2f690d4a7c0c33dcfb3cf0a19a08a0d0bce7a78fd3f", func := "airshare/airsharelaw8.PacketRoundTrip", spec := "packetRoundTrip", inPlace := ["internal/bytealg.IndexByteString", "internal/bytealg.IndexString"], named := ["internal/bytealg.MaxLen"], apart := false, narrowed := true }
def PacketRoundTripUptoSaid : Prop := packetRoundTripUptoRow.holds Try.pinned (OpenSpec.upto packetRoundTripSpec)

/-- 'airsharelaw8.PacketDamage', WHERE WHAT IT READS IS OF BULK AT MOST 1048576: true; the input reads as it did. -/
def packetDamageUptoRow : OpenClaim := { program := "ythhipejffpifkaa", sum := "dda0ba2a61a0da636a21b2f690d4a7c0c33dcfb3cf0a19a08a0d0bce7a78fd3f", func := "airshare/airsharelaw8.PacketDamage", spec := "packetDamage", inPlace := ["internal/bytealg.IndexByteString", "internal/bytealg.IndexString"], named := ["internal/bytealg.MaxLen"], apart := false, narrowed := true }
def PacketDamageUptoSaid : Prop := packetDamageUptoRow.holds Try.pinned (OpenSpec.upto packetDamageSpec)

end Rows
end Go.Proofs.Ythhipejffpifkaa
