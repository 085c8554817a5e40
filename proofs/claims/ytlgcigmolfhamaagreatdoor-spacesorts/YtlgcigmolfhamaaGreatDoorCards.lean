/-
  DERIVED. GIVEN WITH THE SEED: THE CARDS: each row of YtlgcigmolfhamaaGreatDoorRows.lean that lists a variable, with what it lists TIED to the program's text (the seventh form; the later family's looks); each row that meets fmt, with fmt's text TOLD by the authors' own Lean function (tested against real Go, not proved from fmt's source: count such statements apart). THE CARD IS WHAT COUNTS. Prove the row's statement (the work); the ties are given (YtlgcigmolfhamaaGreatDoorTie.lean); close each card by the builder's one call (the guide's Derived/Test/ToyasCard.lean, 'card_holds'). Laid BY PROGRAM, IN A SANDBOX (cutbox-door.mjs). By AI agents, Wed Nov 11 2026. No macro, syntax, notation, axiom, sorry.
-/
import Derived.Test.YtlgcigmolfhamaaGreatDoorRows
import GoSem.ClaimSeven
namespace Go.Proofs.YtlgcigmolfhamaaGreatDoor
namespace Rows

/-- THE TIED CARD OF 'apostillelaw09.SpaceScopes'. -/
def spaceScopesCard : Claim7 := { stood := { row := spaceScopesRow, standIns := [], harness := (true, "d375dccdcdb49f5777b2970e2c8f2730532fd68d8d70427fe6c3667d6c3376e8"), looks := false }, kinds := [], alts := [], laidByText := true, laidKinds := [.data, .data, .data, .data, .data, .pinned, .pinned], laidTests := true, laidLooks := .later }
def SpaceScopesCardSaid : Prop := Claim7.holds Tryz.pinned (.plain (OpenSpec.ofChange spaceScopesSpec)) spaceScopesCard

/-- THE TIED CARD OF 'apostillelaw09.SpaceSorts'. -/
def spaceSortsCard : Claim7 := { stood := { row := spaceSortsRow, standIns := [], harness := (true, "d375dccdcdb49f5777b2970e2c8f2730532fd68d8d70427fe6c3667d6c3376e8"), looks := false }, kinds := [], alts := [], laidByText := true, laidKinds := [.data, .data, .data, .data, .data, .pinned, .pinned], laidTests := true, laidLooks := .later }
def SpaceSortsCardSaid : Prop := Claim7.holds Tryz.pinned (.plain (OpenSpec.ofChange spaceSortsSpec)) spaceSortsCard

/-- THE TIED CARD OF 'apostillelaw09.SpaceBelow'. -/
def spaceBelowCard : Claim7 := { stood := { row := spaceBelowRow, standIns := [], harness := (true, "d375dccdcdb49f5777b2970e2c8f2730532fd68d8d70427fe6c3667d6c3376e8"), looks := false }, kinds := [], alts := [], laidByText := true, laidKinds := [.data, .data, .data, .data, .data, .pinned, .pinned], laidTests := true, laidLooks := .later }
def SpaceBelowCardSaid : Prop := Claim7.holds Tryz.pinned (.plain (OpenSpec.ofChange spaceBelowSpec)) spaceBelowCard

/-- THE TIED CARD OF 'apostillelaw10.PointTells'. -/
def pointTellsCard : Claim7 := { stood := { row := pointTellsRow, standIns := [], harness := (true, "d375dccdcdb49f5777b2970e2c8f2730532fd68d8d70427fe6c3667d6c3376e8"), looks := false }, kinds := [], alts := [], laidByText := true, laidKinds := [.data, .data, .data, .data, .data, .pinned, .pinned], laidTests := true, laidLooks := .later }
def PointTellsCardSaid : Prop := Claim7.holds Tryz.pinned (.plain (OpenSpec.ofChange pointTellsSpec)) pointTellsCard

/-- THE TIED CARD OF 'apostillelaw10.PointParts'. -/
def pointPartsCard : Claim7 := { stood := { row := pointPartsRow, standIns := [], harness := (true, "d375dccdcdb49f5777b2970e2c8f2730532fd68d8d70427fe6c3667d6c3376e8"), looks := false }, kinds := [], alts := [], laidByText := true, laidKinds := [.data, .data, .data, .data, .data, .pinned, .pinned], laidTests := true, laidLooks := .later }
def PointPartsCardSaid : Prop := Claim7.holds Tryz.pinned (.plain (OpenSpec.ofChange pointPartsSpec)) pointPartsCard

/-- THE TIED CARD OF 'apostillelaw10.PointOrders'. -/
def pointOrdersCard : Claim7 := { stood := { row := pointOrdersRow, standIns := [], harness := (true, "d375dccdcdb49f5777b2970e2c8f2730532fd68d8d70427fe6c3667d6c3376e8"), looks := false }, kinds := [], alts := [], laidByText := true, laidKinds := [.data, .data, .data, .data, .data, .pinned, .pinned], laidTests := true, laidLooks := .later }
def PointOrdersCardSaid : Prop := Claim7.holds Tryz.pinned (.plain (OpenSpec.ofChange pointOrdersSpec)) pointOrdersCard

/-- THE TIED CARD OF 'apostillelaw10.PointTexts'. -/
def pointTextsCard : Claim7 := { stood := { row := pointTextsRow, standIns := [], harness := (true, "d375dccdcdb49f5777b2970e2c8f2730532fd68d8d70427fe6c3667d6c3376e8"), looks := false }, kinds := [], alts := [], laidByText := true, laidKinds := [.data, .data, .data, .data, .data, .pinned, .pinned], laidTests := true, laidLooks := .later }
def PointTextsCardSaid : Prop := Claim7.holds Tryz.pinned (.plain (OpenSpec.ofChange pointTextsSpec)) pointTextsCard

/-- THE SECOND FORM's CARD OF 'apostillelaw09.SpaceScopes'. -/
def spaceScopesUptoCard : Claim7 := { stood := { row := spaceScopesUptoRow, standIns := [], harness := (true, "d375dccdcdb49f5777b2970e2c8f2730532fd68d8d70427fe6c3667d6c3376e8"), looks := false }, kinds := [], alts := [], laidByText := true, laidKinds := [.data, .data, .data, .data, .data, .pinned, .pinned], laidTests := true, laidLooks := .later }
def SpaceScopesUptoCardSaid : Prop := Claim7.holds Tryz.pinned (.plain (OpenSpec.upto spaceScopesSpec)) spaceScopesUptoCard

/-- THE SECOND FORM's CARD OF 'apostillelaw09.SpaceSorts'. -/
def spaceSortsUptoCard : Claim7 := { stood := { row := spaceSortsUptoRow, standIns := [], harness := (true, "d375dccdcdb49f5777b2970e2c8f2730532fd68d8d70427fe6c3667d6c3376e8"), looks := false }, kinds := [], alts := [], laidByText := true, laidKinds := [.data, .data, .data, .data, .data, .pinned, .pinned], laidTests := true, laidLooks := .later }
def SpaceSortsUptoCardSaid : Prop := Claim7.holds Tryz.pinned (.plain (OpenSpec.upto spaceSortsSpec)) spaceSortsUptoCard

/-- THE SECOND FORM's CARD OF 'apostillelaw09.SpaceBelow'. -/
def spaceBelowUptoCard : Claim7 := { stood := { row := spaceBelowUptoRow, standIns := [], harness := (true, "d375dccdcdb49f5777b2970e2c8f2730532fd68d8d70427fe6c3667d6c3376e8"), looks := false }, kinds := [], alts := [], laidByText := true, laidKinds := [.data, .data, .data, .data, .data, .pinned, .pinned], laidTests := true, laidLooks := .later }
def SpaceBelowUptoCardSaid : Prop := Claim7.holds Tryz.pinned (.plain (OpenSpec.upto spaceBelowSpec)) spaceBelowUptoCard

/-- THE SECOND FORM's CARD OF 'apostillelaw10.PointTells'. -/
def pointTellsUptoCard : Claim7 := { stood := { row := pointTellsUptoRow, standIns := [], harness := (true, "d375dccdcdb49f5777b2970e2c8f2730532fd68d8d70427fe6c3667d6c3376e8"), looks := false }, kinds := [], alts := [], laidByText := true, laidKinds := [.data, .data, .data, .data, .data, .pinned, .pinned], laidTests := true, laidLooks := .later }
def PointTellsUptoCardSaid : Prop := Claim7.holds Tryz.pinned (.plain (OpenSpec.upto pointTellsSpec)) pointTellsUptoCard

/-- THE SECOND FORM's CARD OF 'apostillelaw10.PointParts'. -/
def pointPartsUptoCard : Claim7 := { stood := { row := pointPartsUptoRow, standIns := [], harness := (true, "d375dccdcdb49f5777b2970e2c8f2730532fd68d8d70427fe6c3667d6c3376e8"), looks := false }, kinds := [], alts := [], laidByText := true, laidKinds := [.data, .data, .data, .data, .data, .pinned, .pinned], laidTests := true, laidLooks := .later }
def PointPartsUptoCardSaid : Prop := Claim7.holds Tryz.pinned (.plain (OpenSpec.upto pointPartsSpec)) pointPartsUptoCard

/-- THE SECOND FORM's CARD OF 'apostillelaw10.PointOrders'. -/
def pointOrdersUptoCard : Claim7 := { stood := { row := pointOrdersUptoRow, standIns := [], harness := (true, "d375dccdcdb49f5777b2970e2c8f2730532fd68d8d70427fe6c3667d6c3376e8"), looks := false }, kinds := [], alts := [], laidByText := true, laidKinds := [.data, .data, .data, .data, .data, .pinned, .pinned], laidTests := true, laidLooks := .later }
def PointOrdersUptoCardSaid : Prop := Claim7.holds Tryz.pinned (.plain (OpenSpec.upto pointOrdersSpec)) pointOrdersUptoCard

/-- THE SECOND FORM's CARD OF 'apostillelaw10.PointTexts'. -/
def pointTextsUptoCard : Claim7 := { stood := { row := pointTextsUptoRow, standIns := [], harness := (true, "d375dccdcdb49f5777b2970e2c8f2730532fd68d8d70427fe6c3667d6c3376e8"), looks := false }, kinds := [], alts := [], laidByText := true, laidKinds := [.data, .data, .data, .data, .data, .pinned, .pinned], laidTests := true, laidLooks := .later }
def PointTextsUptoCardSaid : Prop := Claim7.holds Tryz.pinned (.plain (OpenSpec.upto pointTextsSpec)) pointTextsUptoCard
end Rows
end Go.Proofs.YtlgcigmolfhamaaGreatDoor
