/-
  DERIVED. GIVEN WITH THE SEED: THE CARDS: each row of YthgffefdgjglmaaDoorRows.lean that lists a variable, with what it lists TIED to the program's text (the seventh form; the later family's looks); each row that meets fmt, with fmt's text TOLD by the authors' own Lean function (tested against real Go, not proved from fmt's source: count such statements apart). THE CARD IS WHAT COUNTS. Prove the row's statement (the work); the ties are given (YthgffefdgjglmaaDoorTie.lean); close each card by the builder's one call (the guide's Derived/Test/ToyasCard.lean, 'card_holds'). Laid BY PROGRAM, IN A SANDBOX (cutbox-door.mjs). By AI agents, Wed Nov 11 2026. No macro, syntax, notation, axiom, sorry.
-/
import Derived.Test.YthgffefdgjglmaaDoorRows
import GoSem.ClaimSeven
namespace Go.Proofs.YthgffefdgjglmaaDoor
namespace Rows

/-- THE TIED CARD OF 'apostillelaw05.NameStands'. -/
def nameStandsCard : Claim7 := { stood := { row := nameStandsRow, standIns := [], harness := (true, "fd1cbee0e6d12f66c96153750f4c282b1d3cd0543dc716ae27e1b9d4e9c2a319"), looks := false }, kinds := [], alts := [], laidByText := true, laidKinds := [.data, .data, .data, .pinned], laidTests := true, laidLooks := .later }
def NameStandsCardSaid : Prop := Claim7.holds Tryd.pinned (.plain (OpenSpec.ofChange nameStandsSpec)) nameStandsCard

/-- THE TIED CARD OF 'apostillelaw05.NameIs'. -/
def nameIsCard : Claim7 := { stood := { row := nameIsRow, standIns := [], harness := (true, "fd1cbee0e6d12f66c96153750f4c282b1d3cd0543dc716ae27e1b9d4e9c2a319"), looks := false }, kinds := [], alts := [], laidByText := true, laidKinds := [.data, .data, .data, .pinned], laidTests := true, laidLooks := .later }
def NameIsCardSaid : Prop := Claim7.holds Tryd.pinned (.plain (OpenSpec.ofChange nameIsSpec)) nameIsCard

/-- THE TIED CARD OF 'apostillelaw05.NameJoins'. -/
def nameJoinsCard : Claim7 := { stood := { row := nameJoinsRow, standIns := [], harness := (true, "fd1cbee0e6d12f66c96153750f4c282b1d3cd0543dc716ae27e1b9d4e9c2a319"), looks := false }, kinds := [], alts := [], laidByText := true, laidKinds := [.data, .data, .data, .pinned], laidTests := true, laidLooks := .later }
def NameJoinsCardSaid : Prop := Claim7.holds Tryd.pinned (.plain (OpenSpec.ofChange nameJoinsSpec)) nameJoinsCard

/-- THE TIED CARD OF 'apostillelaw05.NameTrims'. -/
def nameTrimsCard : Claim7 := { stood := { row := nameTrimsRow, standIns := [], harness := (true, "fd1cbee0e6d12f66c96153750f4c282b1d3cd0543dc716ae27e1b9d4e9c2a319"), looks := false }, kinds := [], alts := [], laidByText := true, laidKinds := [.data, .data, .data, .pinned], laidTests := true, laidLooks := .later }
def NameTrimsCardSaid : Prop := Claim7.holds Tryd.pinned (.plain (OpenSpec.ofChange nameTrimsSpec)) nameTrimsCard

/-- THE TIED CARD OF 'apostillelaw05.NameShorter'. -/
def nameShorterCard : Claim7 := { stood := { row := nameShorterRow, standIns := [], harness := (true, "fd1cbee0e6d12f66c96153750f4c282b1d3cd0543dc716ae27e1b9d4e9c2a319"), looks := false }, kinds := [], alts := [], laidByText := true, laidKinds := [.data, .data, .data, .pinned], laidTests := true, laidLooks := .later }
def NameShorterCardSaid : Prop := Claim7.holds Tryd.pinned (.plain (OpenSpec.ofChange nameShorterSpec)) nameShorterCard

/-- THE SECOND FORM's CARD OF 'apostillelaw05.NameStands'. -/
def nameStandsUptoCard : Claim7 := { stood := { row := nameStandsUptoRow, standIns := [], harness := (true, "fd1cbee0e6d12f66c96153750f4c282b1d3cd0543dc716ae27e1b9d4e9c2a319"), looks := false }, kinds := [], alts := [], laidByText := true, laidKinds := [.data, .data, .data, .pinned], laidTests := true, laidLooks := .later }
def NameStandsUptoCardSaid : Prop := Claim7.holds Tryd.pinned (.plain (OpenSpec.upto nameStandsSpec)) nameStandsUptoCard

/-- THE SECOND FORM's CARD OF 'apostillelaw05.NameIs'. -/
def nameIsUptoCard : Claim7 := { stood := { row := nameIsUptoRow, standIns := [], harness := (true, "fd1cbee0e6d12f66c96153750f4c282b1d3cd0543dc716ae27e1b9d4e9c2a319"), looks := false }, kinds := [], alts := [], laidByText := true, laidKinds := [.data, .data, .data, .pinned], laidTests := true, laidLooks := .later }
def NameIsUptoCardSaid : Prop := Claim7.holds Tryd.pinned (.plain (OpenSpec.upto nameIsSpec)) nameIsUptoCard

/-- THE SECOND FORM's CARD OF 'apostillelaw05.NameJoins'. -/
def nameJoinsUptoCard : Claim7 := { stood := { row := nameJoinsUptoRow, standIns := [], harness := (true, "fd1cbee0e6d12f66c96153750f4c282b1d3cd0543dc716ae27e1b9d4e9c2a319"), looks := false }, kinds := [], alts := [], laidByText := true, laidKinds := [.data, .data, .data, .pinned], laidTests := true, laidLooks := .later }
def NameJoinsUptoCardSaid : Prop := Claim7.holds Tryd.pinned (.plain (OpenSpec.upto nameJoinsSpec)) nameJoinsUptoCard

/-- THE SECOND FORM's CARD OF 'apostillelaw05.NameTrims'. -/
def nameTrimsUptoCard : Claim7 := { stood := { row := nameTrimsUptoRow, standIns := [], harness := (true, "fd1cbee0e6d12f66c96153750f4c282b1d3cd0543dc716ae27e1b9d4e9c2a319"), looks := false }, kinds := [], alts := [], laidByText := true, laidKinds := [.data, .data, .data, .pinned], laidTests := true, laidLooks := .later }
def NameTrimsUptoCardSaid : Prop := Claim7.holds Tryd.pinned (.plain (OpenSpec.upto nameTrimsSpec)) nameTrimsUptoCard

/-- THE SECOND FORM's CARD OF 'apostillelaw05.NameShorter'. -/
def nameShorterUptoCard : Claim7 := { stood := { row := nameShorterUptoRow, standIns := [], harness := (true, "fd1cbee0e6d12f66c96153750f4c282b1d3cd0543dc716ae27e1b9d4e9c2a319"), looks := false }, kinds := [], alts := [], laidByText := true, laidKinds := [.data, .data, .data, .pinned], laidTests := true, laidLooks := .later }
def NameShorterUptoCardSaid : Prop := Claim7.holds Tryd.pinned (.plain (OpenSpec.upto nameShorterSpec)) nameShorterUptoCard
end Rows
end Go.Proofs.YthgffefdgjglmaaDoor
