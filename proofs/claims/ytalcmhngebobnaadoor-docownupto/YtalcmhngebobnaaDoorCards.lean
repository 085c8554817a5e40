/-
  DERIVED. GIVEN WITH THE SEED: THE CARDS: each row of YtalcmhngebobnaaDoorRows.lean that lists a variable, with what it lists TIED to the program's text (the seventh form; the later family's looks); each row that meets fmt, with fmt's text TOLD by the authors' own Lean function (tested against real Go, not proved from fmt's source: count such statements apart). THE CARD IS WHAT COUNTS. Prove the row's statement (the work); the ties are given (YtalcmhngebobnaaDoorTie.lean); close each card by the builder's one call (the guide's Derived/Test/ToyasCard.lean, 'card_holds'). Laid BY PROGRAM, IN A SANDBOX (cutbox-door.mjs). By AI agents, Wed Nov 11 2026. No macro, syntax, notation, axiom, sorry.
-/
import Derived.Test.YtalcmhngebobnaaDoorRows
import GoSem.ClaimSeven
namespace Go.Proofs.YtalcmhngebobnaaDoor
namespace Rows

/-- THE TIED CARD OF 'apostillelaw07.DocOwn'. -/
def docOwnCard : Claim7 := { stood := { row := docOwnRow, standIns := [], harness := (true, "e76bb0830103afcd9826a2f868779afe0d875597dc8675eb9ab14ba8385baaba"), looks := false }, kinds := [], alts := [], laidByText := true, laidKinds := [.data, .data, .data, .data, .data, .pinned, .pinned], laidTests := true, laidLooks := .later }
def DocOwnCardSaid : Prop := Claim7.holds Tryd.pinned (.plain (OpenSpec.ofChange docOwnSpec)) docOwnCard

/-- THE SECOND FORM's CARD OF 'apostillelaw07.DocOwn'. -/
def docOwnUptoCard : Claim7 := { stood := { row := docOwnUptoRow, standIns := [], harness := (true, "e76bb0830103afcd9826a2f868779afe0d875597dc8675eb9ab14ba8385baaba"), looks := false }, kinds := [], alts := [], laidByText := true, laidKinds := [.data, .data, .data, .data, .data, .pinned, .pinned], laidTests := true, laidLooks := .later }
def DocOwnUptoCardSaid : Prop := Claim7.holds Tryd.pinned (.plain (OpenSpec.upto docOwnSpec)) docOwnUptoCard
end Rows
end Go.Proofs.YtalcmhngebobnaaDoor
