/-
  DERIVED. GIVEN WITH THE SEED: THE CARDS: each row of YteinegfbpfhflaaGreatDoorRows.lean that lists a variable, with what it lists TIED to the program's text (the seventh form; the later family's looks); each row that meets fmt, with fmt's text TOLD by the authors' own Lean function (tested against real Go, not proved from fmt's source: count such statements apart). THE CARD IS WHAT COUNTS. Prove the row's statement (the work); the ties are given (YteinegfbpfhflaaGreatDoorTie.lean); close each card by the builder's one call (the guide's Derived/Test/ToyasCard.lean, 'card_holds'). Laid BY PROGRAM, IN A SANDBOX (cutbox-door.mjs). By AI agents, Wed Nov 11 2026. No macro, syntax, notation, axiom, sorry.
-/
import Derived.Test.YteinegfbpfhflaaGreatDoorRows
import GoSem.ClaimSeven
namespace Go.Proofs.YteinegfbpfhflaaGreatDoor
namespace Rows

/-- THE TIED CARD OF 'apostillelaw08.ParseReads'. -/
def parseReadsCard : Claim7 := { stood := { row := parseReadsRow, standIns := [], harness := (true, "4a99b4170acee9623b20adfb3add74d3e1c627c4e87ea27c00a248d4dbc63f3f"), looks := false }, kinds := [], alts := [], laidByText := true, laidKinds := [.data, .data, .data, .data, .data, .pinned, .pinned], laidTests := true, laidLooks := .later }
def ParseReadsCardSaid : Prop := Claim7.holds Tryz.pinned (.plain (OpenSpec.ofChange parseReadsSpec)) parseReadsCard

/-- THE TIED CARD OF 'apostillelaw08.ParseLines'. -/
def parseLinesCard : Claim7 := { stood := { row := parseLinesRow, standIns := [], harness := (true, "4a99b4170acee9623b20adfb3add74d3e1c627c4e87ea27c00a248d4dbc63f3f"), looks := false }, kinds := [], alts := [], laidByText := true, laidKinds := [.data, .data, .data, .data, .data, .pinned, .pinned], laidTests := true, laidLooks := .later }
def ParseLinesCardSaid : Prop := Claim7.holds Tryz.pinned (.plain (OpenSpec.ofChange parseLinesSpec)) parseLinesCard

/-- THE TIED CARD OF 'apostillelaw08.ParseTypes'. -/
def parseTypesCard : Claim7 := { stood := { row := parseTypesRow, standIns := [], harness := (true, "4a99b4170acee9623b20adfb3add74d3e1c627c4e87ea27c00a248d4dbc63f3f"), looks := false }, kinds := [], alts := [], laidByText := true, laidKinds := [.data, .data, .data, .data, .data, .pinned, .pinned], laidTests := true, laidLooks := .later }
def ParseTypesCardSaid : Prop := Claim7.holds Tryz.pinned (.plain (OpenSpec.ofChange parseTypesSpec)) parseTypesCard

/-- THE TIED CARD OF 'apostillelaw08.ParseLimits'. -/
def parseLimitsCard : Claim7 := { stood := { row := parseLimitsRow, standIns := [], harness := (true, "4a99b4170acee9623b20adfb3add74d3e1c627c4e87ea27c00a248d4dbc63f3f"), looks := false }, kinds := [], alts := [], laidByText := true, laidKinds := [.data, .data, .data, .data, .data, .pinned, .pinned], laidTests := true, laidLooks := .later }
def ParseLimitsCardSaid : Prop := Claim7.holds Tryz.pinned (.plain (OpenSpec.ofChange parseLimitsSpec)) parseLimitsCard

/-- THE TIED CARD OF 'apostillelaw08.ParseAround'. -/
def parseAroundCard : Claim7 := { stood := { row := parseAroundRow, standIns := [], harness := (true, "4a99b4170acee9623b20adfb3add74d3e1c627c4e87ea27c00a248d4dbc63f3f"), looks := false }, kinds := [], alts := [], laidByText := true, laidKinds := [.data, .data, .data, .data, .data, .pinned, .pinned], laidTests := true, laidLooks := .later }
def ParseAroundCardSaid : Prop := Claim7.holds Tryz.pinned (.plain (OpenSpec.ofChange parseAroundSpec)) parseAroundCard

/-- THE TIED CARD OF 'apostillelaw09.SpaceScopes'. -/
def spaceScopesCard : Claim7 := { stood := { row := spaceScopesRow, standIns := [], harness := (true, "4a99b4170acee9623b20adfb3add74d3e1c627c4e87ea27c00a248d4dbc63f3f"), looks := false }, kinds := [], alts := [], laidByText := true, laidKinds := [.data, .data, .data, .data, .data, .pinned, .pinned], laidTests := true, laidLooks := .later }
def SpaceScopesCardSaid : Prop := Claim7.holds Tryz.pinned (.plain (OpenSpec.ofChange spaceScopesSpec)) spaceScopesCard

/-- THE TIED CARD OF 'apostillelaw09.SpaceSorts'. -/
def spaceSortsCard : Claim7 := { stood := { row := spaceSortsRow, standIns := [], harness := (true, "4a99b4170acee9623b20adfb3add74d3e1c627c4e87ea27c00a248d4dbc63f3f"), looks := false }, kinds := [], alts := [], laidByText := true, laidKinds := [.data, .data, .data, .data, .data, .pinned, .pinned], laidTests := true, laidLooks := .later }
def SpaceSortsCardSaid : Prop := Claim7.holds Tryz.pinned (.plain (OpenSpec.ofChange spaceSortsSpec)) spaceSortsCard

/-- THE TIED CARD OF 'apostillelaw09.SpaceBelow'. -/
def spaceBelowCard : Claim7 := { stood := { row := spaceBelowRow, standIns := [], harness := (true, "4a99b4170acee9623b20adfb3add74d3e1c627c4e87ea27c00a248d4dbc63f3f"), looks := false }, kinds := [], alts := [], laidByText := true, laidKinds := [.data, .data, .data, .data, .data, .pinned, .pinned], laidTests := true, laidLooks := .later }
def SpaceBelowCardSaid : Prop := Claim7.holds Tryz.pinned (.plain (OpenSpec.ofChange spaceBelowSpec)) spaceBelowCard

/-- THE SECOND FORM's CARD OF 'apostillelaw08.ParseReads'. -/
def parseReadsUptoCard : Claim7 := { stood := { row := parseReadsUptoRow, standIns := [], harness := (true, "4a99b4170acee9623b20adfb3add74d3e1c627c4e87ea27c00a248d4dbc63f3f"), looks := false }, kinds := [], alts := [], laidByText := true, laidKinds := [.data, .data, .data, .data, .data, .pinned, .pinned], laidTests := true, laidLooks := .later }
def ParseReadsUptoCardSaid : Prop := Claim7.holds Tryz.pinned (.plain (OpenSpec.upto parseReadsSpec)) parseReadsUptoCard

/-- THE SECOND FORM's CARD OF 'apostillelaw08.ParseLines'. -/
def parseLinesUptoCard : Claim7 := { stood := { row := parseLinesUptoRow, standIns := [], harness := (true, "4a99b4170acee9623b20adfb3add74d3e1c627c4e87ea27c00a248d4dbc63f3f"), looks := false }, kinds := [], alts := [], laidByText := true, laidKinds := [.data, .data, .data, .data, .data, .pinned, .pinned], laidTests := true, laidLooks := .later }
def ParseLinesUptoCardSaid : Prop := Claim7.holds Tryz.pinned (.plain (OpenSpec.upto parseLinesSpec)) parseLinesUptoCard

/-- THE SECOND FORM's CARD OF 'apostillelaw08.ParseTypes'. -/
def parseTypesUptoCard : Claim7 := { stood := { row := parseTypesUptoRow, standIns := [], harness := (true, "4a99b4170acee9623b20adfb3add74d3e1c627c4e87ea27c00a248d4dbc63f3f"), looks := false }, kinds := [], alts := [], laidByText := true, laidKinds := [.data, .data, .data, .data, .data, .pinned, .pinned], laidTests := true, laidLooks := .later }
def ParseTypesUptoCardSaid : Prop := Claim7.holds Tryz.pinned (.plain (OpenSpec.upto parseTypesSpec)) parseTypesUptoCard

/-- THE SECOND FORM's CARD OF 'apostillelaw08.ParseLimits'. -/
def parseLimitsUptoCard : Claim7 := { stood := { row := parseLimitsUptoRow, standIns := [], harness := (true, "4a99b4170acee9623b20adfb3add74d3e1c627c4e87ea27c00a248d4dbc63f3f"), looks := false }, kinds := [], alts := [], laidByText := true, laidKinds := [.data, .data, .data, .data, .data, .pinned, .pinned], laidTests := true, laidLooks := .later }
def ParseLimitsUptoCardSaid : Prop := Claim7.holds Tryz.pinned (.plain (OpenSpec.upto parseLimitsSpec)) parseLimitsUptoCard

/-- THE SECOND FORM's CARD OF 'apostillelaw08.ParseAround'. -/
def parseAroundUptoCard : Claim7 := { stood := { row := parseAroundUptoRow, standIns := [], harness := (true, "4a99b4170acee9623b20adfb3add74d3e1c627c4e87ea27c00a248d4dbc63f3f"), looks := false }, kinds := [], alts := [], laidByText := true, laidKinds := [.data, .data, .data, .data, .data, .pinned, .pinned], laidTests := true, laidLooks := .later }
def ParseAroundUptoCardSaid : Prop := Claim7.holds Tryz.pinned (.plain (OpenSpec.upto parseAroundSpec)) parseAroundUptoCard

/-- THE SECOND FORM's CARD OF 'apostillelaw09.SpaceScopes'. -/
def spaceScopesUptoCard : Claim7 := { stood := { row := spaceScopesUptoRow, standIns := [], harness := (true, "4a99b4170acee9623b20adfb3add74d3e1c627c4e87ea27c00a248d4dbc63f3f"), looks := false }, kinds := [], alts := [], laidByText := true, laidKinds := [.data, .data, .data, .data, .data, .pinned, .pinned], laidTests := true, laidLooks := .later }
def SpaceScopesUptoCardSaid : Prop := Claim7.holds Tryz.pinned (.plain (OpenSpec.upto spaceScopesSpec)) spaceScopesUptoCard

/-- THE SECOND FORM's CARD OF 'apostillelaw09.SpaceSorts'. -/
def spaceSortsUptoCard : Claim7 := { stood := { row := spaceSortsUptoRow, standIns := [], harness := (true, "4a99b4170acee9623b20adfb3add74d3e1c627c4e87ea27c00a248d4dbc63f3f"), looks := false }, kinds := [], alts := [], laidByText := true, laidKinds := [.data, .data, .data, .data, .data, .pinned, .pinned], laidTests := true, laidLooks := .later }
def SpaceSortsUptoCardSaid : Prop := Claim7.holds Tryz.pinned (.plain (OpenSpec.upto spaceSortsSpec)) spaceSortsUptoCard

/-- THE SECOND FORM's CARD OF 'apostillelaw09.SpaceBelow'. -/
def spaceBelowUptoCard : Claim7 := { stood := { row := spaceBelowUptoRow, standIns := [], harness := (true, "4a99b4170acee9623b20adfb3add74d3e1c627c4e87ea27c00a248d4dbc63f3f"), looks := false }, kinds := [], alts := [], laidByText := true, laidKinds := [.data, .data, .data, .data, .data, .pinned, .pinned], laidTests := true, laidLooks := .later }
def SpaceBelowUptoCardSaid : Prop := Claim7.holds Tryz.pinned (.plain (OpenSpec.upto spaceBelowSpec)) spaceBelowUptoCard
end Rows
end Go.Proofs.YteinegfbpfhflaaGreatDoor
