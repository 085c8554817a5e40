/-
  Blanks, comments and instructions around the element are as many nodes; the element stays as it is (ParseAround). Conditions: the seven tables of the row lie as the program's text lays them; of internal/bytealg.MaxLen nothing is asked but that it is a number.
-/
import Derived.Test.YteinegfbpfhflaaGreatDoorKLawAround
import Derived.Test.YteinegfbpfhflaaGreatDoorTie
import Derived.Test.YteinegfbpfhflaaGreatDoorCards
import Derived.SevenTiedAt
namespace Go.Proofs.YteinegfbpfhflaaGreatDoor
open Go
theorem parseAround_holds:Rows.ParseAroundCardSaid :=
 Claim7.holds_tied_plain_at .later [] [.data,.data,.data,.data,.data,.pinned,.pinned] true (true,"4a99b4170acee9623b20adfb3add74d3e1c627c4e87ea27c00a248d4dbc63f3f") false
  ParseAround.holds (fun _ h=>by cases h) (by kernel_rfl) (fun _ h=>by cases h) parseAround_row_tie rfl ⟨rfl,rfl⟩ (by kernel_rfl) rfl
  (fun f fn hf D1=>by
    obtain rfl:f = 7:=Option.some.inj ((show Tryz.prog.funcNamed "apostille/apostillelaw08.ParseAround" = some 7 by kernel_rfl).symm.trans hf) |>.symm
    obtain rfl:fn = Tryz.f7:=(Option.some.inj (Tryz.func7.symm.trans D1)).symm
    exact⟨by kernel_rfl,fun j t ht=>by
     rw[Tryz.params7]at ht;have hm:t∈[22,5,5]:=by simpa using Array.mem_of_getElem? ht
     have D0:([22,5,5].all fun u => !Tryz.prog.wantsStandIn u)=true:=by kernel_rfl
     exact(show Tryz.prog.wantsStandIn t=false by simpa using o9.1 D0 t hm)⟩)
  (by kernel_rfl)
end Go.Proofs.YteinegfbpfhflaaGreatDoor
