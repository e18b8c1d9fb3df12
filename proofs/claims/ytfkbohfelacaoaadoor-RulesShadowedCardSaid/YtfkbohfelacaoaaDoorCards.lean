/-
  DERIVED. GIVEN WITH THE SEED: THE CARDS: each row of YtfkbohfelacaoaaDoorRows.lean that lists a variable, with what it lists TIED to the program's text (the seventh form; the later family's looks); each row that meets fmt, with fmt's text TOLD by the authors' own Lean function (tested against real Go, not proved from fmt's source: count such statements apart). THE CARD IS WHAT COUNTS. Prove the row's statement (the work); the ties are given (YtfkbohfelacaoaaDoorTie.lean); close each card by the builder's one call (the guide's Derived/Test/ToyasCard.lean, 'card_holds'). Laid BY PROGRAM, IN A SANDBOX (cutbox-door.mjs). By AI agents, Wed Nov 11 2026. No macro, syntax, notation, axiom, sorry.
-/
import Derived.Test.YtfkbohfelacaoaaDoorRows
import GoSem.ClaimSeven
namespace Go.Proofs.YtfkbohfelacaoaaDoor
namespace Rows

/-- THE TIED CARD OF 'airsharelaw9.RulesParse'. -/
def rulesParseCard : Claim7 := { stood := { row := rulesParseRow, standIns := [], harness := (true, "12496bdbf1cba1abc5af34b1de2758aa23d03098817124a9afa026ee1e0194e7"), looks := true }, kinds := [], alts := [], laidByText := true, laidKinds := [.data, .data, .data, .sentinel, .sentinel], laidTests := true, laidLooks := .later }
def RulesParseCardSaid : Prop := Claim7.holds Tryd.pinned (.plain (OpenSpec.ofChange rulesParseSpec)) rulesParseCard

/-- THE TIED CARD OF 'airsharelaw9.RulesFormat'. -/
def rulesFormatCard : Claim7 := { stood := { row := rulesFormatRow, standIns := [], harness := (true, "12496bdbf1cba1abc5af34b1de2758aa23d03098817124a9afa026ee1e0194e7"), looks := true }, kinds := [], alts := [], laidByText := true, laidKinds := [.data, .data, .data, .sentinel, .sentinel], laidTests := true, laidLooks := .later }
def RulesFormatCardSaid : Prop := Claim7.holds Tryd.pinned (.plain (OpenSpec.ofChange rulesFormatSpec)) rulesFormatCard

/-- THE TIED CARD OF 'airsharelaw9.RulesClassify'. -/
def rulesClassifyCard : Claim7 := { stood := { row := rulesClassifyRow, standIns := [], harness := (true, "12496bdbf1cba1abc5af34b1de2758aa23d03098817124a9afa026ee1e0194e7"), looks := true }, kinds := [], alts := [], laidByText := true, laidKinds := [.data, .data, .data, .sentinel, .sentinel], laidTests := true, laidLooks := .later }
def RulesClassifyCardSaid : Prop := Claim7.holds Tryd.pinned (.plain (OpenSpec.ofChange rulesClassifySpec)) rulesClassifyCard

/-- THE TIED CARD OF 'airsharelaw9.RulesCover'. -/
def rulesCoverCard : Claim7 := { stood := { row := rulesCoverRow, standIns := [], harness := (true, "12496bdbf1cba1abc5af34b1de2758aa23d03098817124a9afa026ee1e0194e7"), looks := true }, kinds := [], alts := [], laidByText := true, laidKinds := [.data, .data, .data, .sentinel, .sentinel], laidTests := true, laidLooks := .later }
def RulesCoverCardSaid : Prop := Claim7.holds Tryd.pinned (.plain (OpenSpec.ofChange rulesCoverSpec)) rulesCoverCard

/-- THE TIED CARD OF 'airsharelaw9.RulesShadowed'. -/
def rulesShadowedCard : Claim7 := { stood := { row := rulesShadowedRow, standIns := [], harness := (true, "12496bdbf1cba1abc5af34b1de2758aa23d03098817124a9afa026ee1e0194e7"), looks := true }, kinds := [], alts := [], laidByText := true, laidKinds := [.data, .data, .data, .sentinel, .sentinel], laidTests := true, laidLooks := .later }
def RulesShadowedCardSaid : Prop := Claim7.holds Tryd.pinned (.plain (OpenSpec.ofChange rulesShadowedSpec)) rulesShadowedCard

/-- THE SECOND FORM's CARD OF 'airsharelaw9.RulesParse'. -/
def rulesParseUptoCard : Claim7 := { stood := { row := rulesParseUptoRow, standIns := [], harness := (true, "12496bdbf1cba1abc5af34b1de2758aa23d03098817124a9afa026ee1e0194e7"), looks := true }, kinds := [], alts := [], laidByText := true, laidKinds := [.data, .data, .data, .sentinel, .sentinel], laidTests := true, laidLooks := .later }
def RulesParseUptoCardSaid : Prop := Claim7.holds Tryd.pinned (.plain (OpenSpec.upto rulesParseSpec)) rulesParseUptoCard

/-- THE SECOND FORM's CARD OF 'airsharelaw9.RulesFormat'. -/
def rulesFormatUptoCard : Claim7 := { stood := { row := rulesFormatUptoRow, standIns := [], harness := (true, "12496bdbf1cba1abc5af34b1de2758aa23d03098817124a9afa026ee1e0194e7"), looks := true }, kinds := [], alts := [], laidByText := true, laidKinds := [.data, .data, .data, .sentinel, .sentinel], laidTests := true, laidLooks := .later }
def RulesFormatUptoCardSaid : Prop := Claim7.holds Tryd.pinned (.plain (OpenSpec.upto rulesFormatSpec)) rulesFormatUptoCard

/-- THE SECOND FORM's CARD OF 'airsharelaw9.RulesClassify'. -/
def rulesClassifyUptoCard : Claim7 := { stood := { row := rulesClassifyUptoRow, standIns := [], harness := (true, "12496bdbf1cba1abc5af34b1de2758aa23d03098817124a9afa026ee1e0194e7"), looks := true }, kinds := [], alts := [], laidByText := true, laidKinds := [.data, .data, .data, .sentinel, .sentinel], laidTests := true, laidLooks := .later }
def RulesClassifyUptoCardSaid : Prop := Claim7.holds Tryd.pinned (.plain (OpenSpec.upto rulesClassifySpec)) rulesClassifyUptoCard

/-- THE SECOND FORM's CARD OF 'airsharelaw9.RulesCover'. -/
def rulesCoverUptoCard : Claim7 := { stood := { row := rulesCoverUptoRow, standIns := [], harness := (true, "12496bdbf1cba1abc5af34b1de2758aa23d03098817124a9afa026ee1e0194e7"), looks := true }, kinds := [], alts := [], laidByText := true, laidKinds := [.data, .data, .data, .sentinel, .sentinel], laidTests := true, laidLooks := .later }
def RulesCoverUptoCardSaid : Prop := Claim7.holds Tryd.pinned (.plain (OpenSpec.upto rulesCoverSpec)) rulesCoverUptoCard

/-- THE SECOND FORM's CARD OF 'airsharelaw9.RulesShadowed'. -/
def rulesShadowedUptoCard : Claim7 := { stood := { row := rulesShadowedUptoRow, standIns := [], harness := (true, "12496bdbf1cba1abc5af34b1de2758aa23d03098817124a9afa026ee1e0194e7"), looks := true }, kinds := [], alts := [], laidByText := true, laidKinds := [.data, .data, .data, .sentinel, .sentinel], laidTests := true, laidLooks := .later }
def RulesShadowedUptoCardSaid : Prop := Claim7.holds Tryd.pinned (.plain (OpenSpec.upto rulesShadowedSpec)) rulesShadowedUptoCard
end Rows
end Go.Proofs.YtfkbohfelacaoaaDoor
