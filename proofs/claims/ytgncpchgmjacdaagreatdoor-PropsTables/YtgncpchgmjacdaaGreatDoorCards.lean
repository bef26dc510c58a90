/-
  DERIVED. GIVEN WITH THE SEED: THE CARDS: each row of YtgncpchgmjacdaaGreatDoorRows.lean that lists a variable, with what it lists TIED to the program's text (the seventh form; the later family's looks); each row that meets fmt, with fmt's text TOLD by the authors' own Lean function (tested against real Go, not proved from fmt's source: count such statements apart). THE CARD IS WHAT COUNTS. Prove the row's statement (the work); the ties are given (YtgncpchgmjacdaaGreatDoorTie.lean); close each card by the builder's one call (the guide's Derived/Test/ToyasCard.lean, 'card_holds'). Laid BY PROGRAM, IN A SANDBOX (cutbox-door.mjs). By AI agents, Wed Nov 11 2026. No macro, syntax, notation, axiom, sorry.
-/
import Derived.Test.YtgncpchgmjacdaaGreatDoorRows
import GoSem.ClaimSeven
namespace Go.Proofs.YtgncpchgmjacdaaGreatDoor
namespace Rows

/-- THE TIED CARD OF 'foolscaplaw04.PropsParses'. -/
def propsParsesCard : Claim7 := { stood := { row := propsParsesRow, standIns := [], harness := (true, "42c21e9fd1952ca8b111b6fd0934a9b039cd0e6d4d8253702dd88ed0e2b27ce3"), looks := true }, kinds := [], alts := [], laidByText := true, laidKinds := [.data, .handle, .pinned], laidTests := true, laidLooks := .later }
def PropsParsesCardSaid : Prop := Claim7.holds Tryz.pinned (.plain (OpenSpec.ofChange propsParsesSpec)) propsParsesCard

/-- THE TIED CARD OF 'foolscaplaw04.PropsBack'. -/
def propsBackCard : Claim7 := { stood := { row := propsBackRow, standIns := [], harness := (true, "42c21e9fd1952ca8b111b6fd0934a9b039cd0e6d4d8253702dd88ed0e2b27ce3"), looks := true }, kinds := [], alts := [], laidByText := true, laidKinds := [.data, .handle, .pinned], laidTests := true, laidLooks := .later }
def PropsBackCardSaid : Prop := Claim7.holds Tryz.pinned (.plain (OpenSpec.ofChange propsBackSpec)) propsBackCard

/-- THE TIED CARD OF 'foolscaplaw04.PropsTables'. -/
def propsTablesCard : Claim7 := { stood := { row := propsTablesRow, standIns := [], harness := (true, "42c21e9fd1952ca8b111b6fd0934a9b039cd0e6d4d8253702dd88ed0e2b27ce3"), looks := true }, kinds := [], alts := [], laidByText := true, laidKinds := [.data, .handle, .pinned], laidTests := true, laidLooks := .later }
def PropsTablesCardSaid : Prop := Claim7.holds Tryz.pinned (.plain (OpenSpec.ofChange propsTablesSpec)) propsTablesCard

/-- THE TIED CARD OF 'foolscaplaw05.RulesParses'. -/
def rulesParsesCard : Claim7 := { stood := { row := rulesParsesRow, standIns := [], harness := (true, "42c21e9fd1952ca8b111b6fd0934a9b039cd0e6d4d8253702dd88ed0e2b27ce3"), looks := true }, kinds := [], alts := [], laidByText := true, laidKinds := [.data, .handle, .pinned], laidTests := true, laidLooks := .later }
def RulesParsesCardSaid : Prop := Claim7.holds Tryz.pinned (.plain (OpenSpec.ofChange rulesParsesSpec)) rulesParsesCard

/-- THE TIED CARD OF 'foolscaplaw05.RulesFormats'. -/
def rulesFormatsCard : Claim7 := { stood := { row := rulesFormatsRow, standIns := [], harness := (true, "42c21e9fd1952ca8b111b6fd0934a9b039cd0e6d4d8253702dd88ed0e2b27ce3"), looks := true }, kinds := [], alts := [], laidByText := true, laidKinds := [.data, .handle, .pinned], laidTests := true, laidLooks := .later }
def RulesFormatsCardSaid : Prop := Claim7.holds Tryz.pinned (.plain (OpenSpec.ofChange rulesFormatsSpec)) rulesFormatsCard

/-- THE TIED CARD OF 'foolscaplaw05.RulesBack'. -/
def rulesBackCard : Claim7 := { stood := { row := rulesBackRow, standIns := [], harness := (true, "42c21e9fd1952ca8b111b6fd0934a9b039cd0e6d4d8253702dd88ed0e2b27ce3"), looks := true }, kinds := [], alts := [], laidByText := true, laidKinds := [.data, .handle, .pinned], laidTests := true, laidLooks := .later }
def RulesBackCardSaid : Prop := Claim7.holds Tryz.pinned (.plain (OpenSpec.ofChange rulesBackSpec)) rulesBackCard

/-- THE TIED CARD OF 'foolscaplaw05.RulesMany'. -/
def rulesManyCard : Claim7 := { stood := { row := rulesManyRow, standIns := [], harness := (true, "42c21e9fd1952ca8b111b6fd0934a9b039cd0e6d4d8253702dd88ed0e2b27ce3"), looks := true }, kinds := [], alts := [], laidByText := true, laidKinds := [.data, .handle, .pinned], laidTests := true, laidLooks := .later }
def RulesManyCardSaid : Prop := Claim7.holds Tryz.pinned (.plain (OpenSpec.ofChange rulesManySpec)) rulesManyCard

/-- THE TIED CARD OF 'foolscaplaw05.RulesDeep'. -/
def rulesDeepCard : Claim7 := { stood := { row := rulesDeepRow, standIns := [], harness := (true, "42c21e9fd1952ca8b111b6fd0934a9b039cd0e6d4d8253702dd88ed0e2b27ce3"), looks := true }, kinds := [], alts := [], laidByText := true, laidKinds := [.data, .handle, .pinned], laidTests := true, laidLooks := .later }
def RulesDeepCardSaid : Prop := Claim7.holds Tryz.pinned (.plain (OpenSpec.ofChange rulesDeepSpec)) rulesDeepCard

/-- THE TIED CARD OF 'foolscaplaw05.RulesSpaces'. -/
def rulesSpacesCard : Claim7 := { stood := { row := rulesSpacesRow, standIns := [], harness := (true, "42c21e9fd1952ca8b111b6fd0934a9b039cd0e6d4d8253702dd88ed0e2b27ce3"), looks := true }, kinds := [], alts := [], laidByText := true, laidKinds := [.data, .handle, .pinned], laidTests := true, laidLooks := .later }
def RulesSpacesCardSaid : Prop := Claim7.holds Tryz.pinned (.plain (OpenSpec.ofChange rulesSpacesSpec)) rulesSpacesCard

/-- THE TIED CARD OF 'foolscaplaw05.RulesSets'. -/
def rulesSetsCard : Claim7 := { stood := { row := rulesSetsRow, standIns := [], harness := (true, "42c21e9fd1952ca8b111b6fd0934a9b039cd0e6d4d8253702dd88ed0e2b27ce3"), looks := true }, kinds := [], alts := [], laidByText := true, laidKinds := [.data, .handle, .pinned], laidTests := true, laidLooks := .later }
def RulesSetsCardSaid : Prop := Claim7.holds Tryz.pinned (.plain (OpenSpec.ofChange rulesSetsSpec)) rulesSetsCard

/-- THE SECOND FORM's CARD OF 'foolscaplaw04.PropsParses'. -/
def propsParsesUptoCard : Claim7 := { stood := { row := propsParsesUptoRow, standIns := [], harness := (true, "42c21e9fd1952ca8b111b6fd0934a9b039cd0e6d4d8253702dd88ed0e2b27ce3"), looks := true }, kinds := [], alts := [], laidByText := true, laidKinds := [.data, .handle, .pinned], laidTests := true, laidLooks := .later }
def PropsParsesUptoCardSaid : Prop := Claim7.holds Tryz.pinned (.plain (OpenSpec.upto propsParsesSpec)) propsParsesUptoCard

/-- THE SECOND FORM's CARD OF 'foolscaplaw04.PropsBack'. -/
def propsBackUptoCard : Claim7 := { stood := { row := propsBackUptoRow, standIns := [], harness := (true, "42c21e9fd1952ca8b111b6fd0934a9b039cd0e6d4d8253702dd88ed0e2b27ce3"), looks := true }, kinds := [], alts := [], laidByText := true, laidKinds := [.data, .handle, .pinned], laidTests := true, laidLooks := .later }
def PropsBackUptoCardSaid : Prop := Claim7.holds Tryz.pinned (.plain (OpenSpec.upto propsBackSpec)) propsBackUptoCard

/-- THE SECOND FORM's CARD OF 'foolscaplaw04.PropsTables'. -/
def propsTablesUptoCard : Claim7 := { stood := { row := propsTablesUptoRow, standIns := [], harness := (true, "42c21e9fd1952ca8b111b6fd0934a9b039cd0e6d4d8253702dd88ed0e2b27ce3"), looks := true }, kinds := [], alts := [], laidByText := true, laidKinds := [.data, .handle, .pinned], laidTests := true, laidLooks := .later }
def PropsTablesUptoCardSaid : Prop := Claim7.holds Tryz.pinned (.plain (OpenSpec.upto propsTablesSpec)) propsTablesUptoCard

/-- THE SECOND FORM's CARD OF 'foolscaplaw05.RulesParses'. -/
def rulesParsesUptoCard : Claim7 := { stood := { row := rulesParsesUptoRow, standIns := [], harness := (true, "42c21e9fd1952ca8b111b6fd0934a9b039cd0e6d4d8253702dd88ed0e2b27ce3"), looks := true }, kinds := [], alts := [], laidByText := true, laidKinds := [.data, .handle, .pinned], laidTests := true, laidLooks := .later }
def RulesParsesUptoCardSaid : Prop := Claim7.holds Tryz.pinned (.plain (OpenSpec.upto rulesParsesSpec)) rulesParsesUptoCard

/-- THE SECOND FORM's CARD OF 'foolscaplaw05.RulesFormats'. -/
def rulesFormatsUptoCard : Claim7 := { stood := { row := rulesFormatsUptoRow, standIns := [], harness := (true, "42c21e9fd1952ca8b111b6fd0934a9b039cd0e6d4d8253702dd88ed0e2b27ce3"), looks := true }, kinds := [], alts := [], laidByText := true, laidKinds := [.data, .handle, .pinned], laidTests := true, laidLooks := .later }
def RulesFormatsUptoCardSaid : Prop := Claim7.holds Tryz.pinned (.plain (OpenSpec.upto rulesFormatsSpec)) rulesFormatsUptoCard

/-- THE SECOND FORM's CARD OF 'foolscaplaw05.RulesBack'. -/
def rulesBackUptoCard : Claim7 := { stood := { row := rulesBackUptoRow, standIns := [], harness := (true, "42c21e9fd1952ca8b111b6fd0934a9b039cd0e6d4d8253702dd88ed0e2b27ce3"), looks := true }, kinds := [], alts := [], laidByText := true, laidKinds := [.data, .handle, .pinned], laidTests := true, laidLooks := .later }
def RulesBackUptoCardSaid : Prop := Claim7.holds Tryz.pinned (.plain (OpenSpec.upto rulesBackSpec)) rulesBackUptoCard

/-- THE SECOND FORM's CARD OF 'foolscaplaw05.RulesMany'. -/
def rulesManyUptoCard : Claim7 := { stood := { row := rulesManyUptoRow, standIns := [], harness := (true, "42c21e9fd1952ca8b111b6fd0934a9b039cd0e6d4d8253702dd88ed0e2b27ce3"), looks := true }, kinds := [], alts := [], laidByText := true, laidKinds := [.data, .handle, .pinned], laidTests := true, laidLooks := .later }
def RulesManyUptoCardSaid : Prop := Claim7.holds Tryz.pinned (.plain (OpenSpec.upto rulesManySpec)) rulesManyUptoCard

/-- THE SECOND FORM's CARD OF 'foolscaplaw05.RulesDeep'. -/
def rulesDeepUptoCard : Claim7 := { stood := { row := rulesDeepUptoRow, standIns := [], harness := (true, "42c21e9fd1952ca8b111b6fd0934a9b039cd0e6d4d8253702dd88ed0e2b27ce3"), looks := true }, kinds := [], alts := [], laidByText := true, laidKinds := [.data, .handle, .pinned], laidTests := true, laidLooks := .later }
def RulesDeepUptoCardSaid : Prop := Claim7.holds Tryz.pinned (.plain (OpenSpec.upto rulesDeepSpec)) rulesDeepUptoCard

/-- THE SECOND FORM's CARD OF 'foolscaplaw05.RulesSpaces'. -/
def rulesSpacesUptoCard : Claim7 := { stood := { row := rulesSpacesUptoRow, standIns := [], harness := (true, "42c21e9fd1952ca8b111b6fd0934a9b039cd0e6d4d8253702dd88ed0e2b27ce3"), looks := true }, kinds := [], alts := [], laidByText := true, laidKinds := [.data, .handle, .pinned], laidTests := true, laidLooks := .later }
def RulesSpacesUptoCardSaid : Prop := Claim7.holds Tryz.pinned (.plain (OpenSpec.upto rulesSpacesSpec)) rulesSpacesUptoCard

/-- THE SECOND FORM's CARD OF 'foolscaplaw05.RulesSets'. -/
def rulesSetsUptoCard : Claim7 := { stood := { row := rulesSetsUptoRow, standIns := [], harness := (true, "42c21e9fd1952ca8b111b6fd0934a9b039cd0e6d4d8253702dd88ed0e2b27ce3"), looks := true }, kinds := [], alts := [], laidByText := true, laidKinds := [.data, .handle, .pinned], laidTests := true, laidLooks := .later }
def RulesSetsUptoCardSaid : Prop := Claim7.holds Tryz.pinned (.plain (OpenSpec.upto rulesSetsSpec)) rulesSetsUptoCard
end Rows
end Go.Proofs.YtgncpchgmjacdaaGreatDoor
