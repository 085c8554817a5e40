/-
  DERIVED. GIVEN WITH THE SEED: THE CARDS: each row of YtlndjmpopoihnaaDoorRows.lean that lists a variable, with what it lists TIED to the program's text (the seventh form; the later family's looks); each row that meets fmt, with fmt's text TOLD by the authors' own Lean function (tested against real Go, not proved from fmt's source: count such statements apart). THE CARD IS WHAT COUNTS. Prove the row's statement (the work); the ties are given (YtlndjmpopoihnaaDoorTie.lean); close each card by the builder's one call (the guide's Derived/Test/ToyasCard.lean, 'card_holds'). Laid BY PROGRAM, IN A SANDBOX (cutbox-door.mjs). By AI agents, Wed Nov 11 2026. No macro, syntax, notation, axiom, sorry.
-/
import Derived.Test.YtlndjmpopoihnaaDoorRows
import GoSem.ClaimSeven
namespace Go.Proofs.YtlndjmpopoihnaaDoor
namespace Rows

/-- THE TIED CARD OF 'apostillelaw03.MacSums'. -/
def macSumsCard : Claim7 := { stood := { row := macSumsRow, standIns := [], harness := (true, "c7716c6c59fab11beb39950e3b834762ed4483812e235959ed56aa5378f8ead0"), looks := false }, kinds := [], alts := [], laidByText := true, laidKinds := [.data, .data], laidTests := true, laidLooks := .later }
def MacSumsCardSaid : Prop := Claim7.holds Tryd.pinned (.plain (OpenSpec.ofChange macSumsSpec)) macSumsCard

/-- THE TIED CARD OF 'apostillelaw03.MacKeys'. -/
def macKeysCard : Claim7 := { stood := { row := macKeysRow, standIns := [], harness := (true, "c7716c6c59fab11beb39950e3b834762ed4483812e235959ed56aa5378f8ead0"), looks := false }, kinds := [], alts := [], laidByText := true, laidKinds := [.data, .data], laidTests := true, laidLooks := .later }
def MacKeysCardSaid : Prop := Claim7.holds Tryd.pinned (.plain (OpenSpec.ofChange macKeysSpec)) macKeysCard

/-- THE TIED CARD OF 'apostillelaw03.MacEquals'. -/
def macEqualsCard : Claim7 := { stood := { row := macEqualsRow, standIns := [], harness := (true, "c7716c6c59fab11beb39950e3b834762ed4483812e235959ed56aa5378f8ead0"), looks := false }, kinds := [], alts := [], laidByText := true, laidKinds := [.data, .data], laidTests := true, laidLooks := .later }
def MacEqualsCardSaid : Prop := Claim7.holds Tryd.pinned (.plain (OpenSpec.ofChange macEqualsSpec)) macEqualsCard

/-- THE TIED CARD OF 'apostillelaw03.MacNests'. -/
def macNestsCard : Claim7 := { stood := { row := macNestsRow, standIns := [], harness := (true, "c7716c6c59fab11beb39950e3b834762ed4483812e235959ed56aa5378f8ead0"), looks := false }, kinds := [], alts := [], laidByText := true, laidKinds := [.data, .data], laidTests := true, laidLooks := .later }
def MacNestsCardSaid : Prop := Claim7.holds Tryd.pinned (.plain (OpenSpec.ofChange macNestsSpec)) macNestsCard

/-- THE SECOND FORM's CARD OF 'apostillelaw03.MacSums'. -/
def macSumsUptoCard : Claim7 := { stood := { row := macSumsUptoRow, standIns := [], harness := (true, "c7716c6c59fab11beb39950e3b834762ed4483812e235959ed56aa5378f8ead0"), looks := false }, kinds := [], alts := [], laidByText := true, laidKinds := [.data, .data], laidTests := true, laidLooks := .later }
def MacSumsUptoCardSaid : Prop := Claim7.holds Tryd.pinned (.plain (OpenSpec.upto macSumsSpec)) macSumsUptoCard

/-- THE SECOND FORM's CARD OF 'apostillelaw03.MacKeys'. -/
def macKeysUptoCard : Claim7 := { stood := { row := macKeysUptoRow, standIns := [], harness := (true, "c7716c6c59fab11beb39950e3b834762ed4483812e235959ed56aa5378f8ead0"), looks := false }, kinds := [], alts := [], laidByText := true, laidKinds := [.data, .data], laidTests := true, laidLooks := .later }
def MacKeysUptoCardSaid : Prop := Claim7.holds Tryd.pinned (.plain (OpenSpec.upto macKeysSpec)) macKeysUptoCard

/-- THE SECOND FORM's CARD OF 'apostillelaw03.MacEquals'. -/
def macEqualsUptoCard : Claim7 := { stood := { row := macEqualsUptoRow, standIns := [], harness := (true, "c7716c6c59fab11beb39950e3b834762ed4483812e235959ed56aa5378f8ead0"), looks := false }, kinds := [], alts := [], laidByText := true, laidKinds := [.data, .data], laidTests := true, laidLooks := .later }
def MacEqualsUptoCardSaid : Prop := Claim7.holds Tryd.pinned (.plain (OpenSpec.upto macEqualsSpec)) macEqualsUptoCard

/-- THE SECOND FORM's CARD OF 'apostillelaw03.MacNests'. -/
def macNestsUptoCard : Claim7 := { stood := { row := macNestsUptoRow, standIns := [], harness := (true, "c7716c6c59fab11beb39950e3b834762ed4483812e235959ed56aa5378f8ead0"), looks := false }, kinds := [], alts := [], laidByText := true, laidKinds := [.data, .data], laidTests := true, laidLooks := .later }
def MacNestsUptoCardSaid : Prop := Claim7.holds Tryd.pinned (.plain (OpenSpec.upto macNestsSpec)) macNestsUptoCard
end Rows
end Go.Proofs.YtlndjmpopoihnaaDoor
