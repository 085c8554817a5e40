/-
  What tells of a document's type isn't a document, wherever it stands ahead of the element (ParseTypes). Conditions: the seven tables of the row lie as the program's text lays them; of internal/bytealg.MaxLen nothing is asked but that it is a number.
-/
import Derived.Test.YteinegfbpfhflaaGreatDoorKLawTypes
import Derived.Test.YteinegfbpfhflaaGreatDoorTie
import Derived.Test.YteinegfbpfhflaaGreatDoorCards
import Derived.SevenTiedAt
namespace Go.Proofs.YteinegfbpfhflaaGreatDoor
open Go
theorem parseTypes_holds:Rows.ParseTypesCardSaid :=
 Claim7.holds_tied_plain_at .later [] [.data,.data,.data,.data,.data,.pinned,.pinned] true (true,"4a99b4170acee9623b20adfb3add74d3e1c627c4e87ea27c00a248d4dbc63f3f") false
  ParseTypes.holds (fun _ h=>by cases h) (by kernel_rfl) (fun _ h=>by cases h) parseTypes_row_tie rfl ⟨rfl,rfl⟩ (by kernel_rfl) rfl
  (fun f fn hf D1=>by
    obtain rfl:f = 5:=Option.some.inj ((show Tryz.prog.funcNamed "apostille/apostillelaw08.ParseTypes" = some 5 by kernel_rfl).symm.trans hf) |>.symm
    obtain rfl:fn = Tryz.f5:=(Option.some.inj (Tryz.func5.symm.trans D1)).symm
    exact⟨by kernel_rfl,fun j t ht=>by
     rw[Tryz.params5]at ht;have hm:t∈[22,5]:=by simpa using Array.mem_of_getElem? ht
     have D0:([22,5].all fun u => !Tryz.prog.wantsStandIn u)=true:=by kernel_rfl
     exact(show Tryz.prog.wantsStandIn t=false by simpa using o9.1 D0 t hm)⟩)
  (by kernel_rfl)
end Go.Proofs.YteinegfbpfhflaaGreatDoor
