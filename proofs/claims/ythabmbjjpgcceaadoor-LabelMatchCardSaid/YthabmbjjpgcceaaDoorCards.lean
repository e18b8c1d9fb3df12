/-
  DERIVED. GIVEN WITH THE SEED: THE CARDS: each row of YthabmbjjpgcceaaDoorRows.lean that lists a variable, with what it lists TIED to the program's text (the seventh form; the later family's looks); each row that meets fmt, with fmt's text TOLD by the authors' own Lean function (tested against real Go, not proved from fmt's source: count such statements apart). THE CARD IS WHAT COUNTS. Prove the row's statement (the work); the ties are given (YthabmbjjpgcceaaDoorTie.lean); close each card by the builder's one call (the guide's Derived/Test/ToyasCard.lean, 'card_holds'). Laid BY PROGRAM, IN A SANDBOX (cutbox-door.mjs). By AI agents, Wed Nov 11 2026. No macro, syntax, notation, axiom, sorry.
-/
import Derived.Test.YthabmbjjpgcceaaDoorRows
import GoSem.ClaimSeven
namespace Go.Proofs.YthabmbjjpgcceaaDoor
namespace Rows

/-- THE TIED CARD OF 'airsharelaw7.LabelValid'. -/
def labelValidCard : Claim7 := { stood := { row := labelValidRow, standIns := [], harness := (true, "47770c8d83f6759487a722c9350caed16a83efb45cb50be75419f9a637bcbe5e"), looks := false }, kinds := [], alts := [], laidByText := true, laidKinds := [.data, .pinned], laidTests := true, laidLooks := .later }
def LabelValidCardSaid : Prop := Claim7.holds Tryd.pinned (.plain (OpenSpec.ofChange labelValidSpec)) labelValidCard

/-- THE TIED CARD OF 'airsharelaw7.LabelRunes'. -/
def labelRunesCard : Claim7 := { stood := { row := labelRunesRow, standIns := [], harness := (true, "47770c8d83f6759487a722c9350caed16a83efb45cb50be75419f9a637bcbe5e"), looks := false }, kinds := [], alts := [], laidByText := true, laidKinds := [.data, .pinned], laidTests := true, laidLooks := .later }
def LabelRunesCardSaid : Prop := Claim7.holds Tryd.pinned (.plain (OpenSpec.ofChange labelRunesSpec)) labelRunesCard

/-- THE TIED CARD OF 'airsharelaw7.LabelCompare'. -/
def labelCompareCard : Claim7 := { stood := { row := labelCompareRow, standIns := [], harness := (true, "47770c8d83f6759487a722c9350caed16a83efb45cb50be75419f9a637bcbe5e"), looks := false }, kinds := [], alts := [], laidByText := true, laidKinds := [.data, .pinned], laidTests := true, laidLooks := .later }
def LabelCompareCardSaid : Prop := Claim7.holds Tryd.pinned (.plain (OpenSpec.ofChange labelCompareSpec)) labelCompareCard

/-- THE TIED CARD OF 'airsharelaw7.LabelOrder'. -/
def labelOrderCard : Claim7 := { stood := { row := labelOrderRow, standIns := [], harness := (true, "47770c8d83f6759487a722c9350caed16a83efb45cb50be75419f9a637bcbe5e"), looks := false }, kinds := [], alts := [], laidByText := true, laidKinds := [.data, .pinned], laidTests := true, laidLooks := .later }
def LabelOrderCardSaid : Prop := Claim7.holds Tryd.pinned (.plain (OpenSpec.ofChange labelOrderSpec)) labelOrderCard

/-- THE TIED CARD OF 'airsharelaw7.LabelMatch'. -/
def labelMatchCard : Claim7 := { stood := { row := labelMatchRow, standIns := [], harness := (true, "47770c8d83f6759487a722c9350caed16a83efb45cb50be75419f9a637bcbe5e"), looks := false }, kinds := [], alts := [], laidByText := true, laidKinds := [.data, .pinned], laidTests := true, laidLooks := .later }
def LabelMatchCardSaid : Prop := Claim7.holds Tryd.pinned (.plain (OpenSpec.ofChange labelMatchSpec)) labelMatchCard

/-- THE TIED CARD OF 'airsharelaw7.LabelMatches'. -/
def labelMatchesCard : Claim7 := { stood := { row := labelMatchesRow, standIns := [], harness := (true, "47770c8d83f6759487a722c9350caed16a83efb45cb50be75419f9a637bcbe5e"), looks := false }, kinds := [], alts := [], laidByText := true, laidKinds := [.data, .pinned], laidTests := true, laidLooks := .later }
def LabelMatchesCardSaid : Prop := Claim7.holds Tryd.pinned (.plain (OpenSpec.ofChange labelMatchesSpec)) labelMatchesCard

/-- THE SECOND FORM's CARD OF 'airsharelaw7.LabelValid'. -/
def labelValidUptoCard : Claim7 := { stood := { row := labelValidUptoRow, standIns := [], harness := (true, "47770c8d83f6759487a722c9350caed16a83efb45cb50be75419f9a637bcbe5e"), looks := false }, kinds := [], alts := [], laidByText := true, laidKinds := [.data, .pinned], laidTests := true, laidLooks := .later }
def LabelValidUptoCardSaid : Prop := Claim7.holds Tryd.pinned (.plain (OpenSpec.upto labelValidSpec)) labelValidUptoCard

/-- THE SECOND FORM's CARD OF 'airsharelaw7.LabelRunes'. -/
def labelRunesUptoCard : Claim7 := { stood := { row := labelRunesUptoRow, standIns := [], harness := (true, "47770c8d83f6759487a722c9350caed16a83efb45cb50be75419f9a637bcbe5e"), looks := false }, kinds := [], alts := [], laidByText := true, laidKinds := [.data, .pinned], laidTests := true, laidLooks := .later }
def LabelRunesUptoCardSaid : Prop := Claim7.holds Tryd.pinned (.plain (OpenSpec.upto labelRunesSpec)) labelRunesUptoCard

/-- THE SECOND FORM's CARD OF 'airsharelaw7.LabelCompare'. -/
def labelCompareUptoCard : Claim7 := { stood := { row := labelCompareUptoRow, standIns := [], harness := (true, "47770c8d83f6759487a722c9350caed16a83efb45cb50be75419f9a637bcbe5e"), looks := false }, kinds := [], alts := [], laidByText := true, laidKinds := [.data, .pinned], laidTests := true, laidLooks := .later }
def LabelCompareUptoCardSaid : Prop := Claim7.holds Tryd.pinned (.plain (OpenSpec.upto labelCompareSpec)) labelCompareUptoCard

/-- THE SECOND FORM's CARD OF 'airsharelaw7.LabelOrder'. -/
def labelOrderUptoCard : Claim7 := { stood := { row := labelOrderUptoRow, standIns := [], harness := (true, "47770c8d83f6759487a722c9350caed16a83efb45cb50be75419f9a637bcbe5e"), looks := false }, kinds := [], alts := [], laidByText := true, laidKinds := [.data, .pinned], laidTests := true, laidLooks := .later }
def LabelOrderUptoCardSaid : Prop := Claim7.holds Tryd.pinned (.plain (OpenSpec.upto labelOrderSpec)) labelOrderUptoCard

/-- THE SECOND FORM's CARD OF 'airsharelaw7.LabelMatch'. -/
def labelMatchUptoCard : Claim7 := { stood := { row := labelMatchUptoRow, standIns := [], harness := (true, "47770c8d83f6759487a722c9350caed16a83efb45cb50be75419f9a637bcbe5e"), looks := false }, kinds := [], alts := [], laidByText := true, laidKinds := [.data, .pinned], laidTests := true, laidLooks := .later }
def LabelMatchUptoCardSaid : Prop := Claim7.holds Tryd.pinned (.plain (OpenSpec.upto labelMatchSpec)) labelMatchUptoCard

/-- THE SECOND FORM's CARD OF 'airsharelaw7.LabelMatches'. -/
def labelMatchesUptoCard : Claim7 := { stood := { row := labelMatchesUptoRow, standIns := [], harness := (true, "47770c8d83f6759487a722c9350caed16a83efb45cb50be75419f9a637bcbe5e"), looks := false }, kinds := [], alts := [], laidByText := true, laidKinds := [.data, .pinned], laidTests := true, laidLooks := .later }
def LabelMatchesUptoCardSaid : Prop := Claim7.holds Tryd.pinned (.plain (OpenSpec.upto labelMatchesSpec)) labelMatchesUptoCard
end Rows
end Go.Proofs.YthabmbjjpgcceaaDoor
