/-
  How lines end makes no difference (ParseLines). Conditions: the seven tables of the row lie as the program's text lays them; of internal/bytealg.MaxLen nothing is asked but that it is a number.
-/
import Derived.Test.YteinegfbpfhflaaGreatDoorKLawLines
import Derived.Test.YteinegfbpfhflaaGreatDoorTie
import Derived.Test.YteinegfbpfhflaaGreatDoorCards
import Derived.SevenTiedAt
namespace Go.Proofs.YteinegfbpfhflaaGreatDoor
open Go
theorem parseLines_holds:Rows.ParseLinesCardSaid :=
 Claim7.holds_tied_plain_at .later [] [.data,.data,.data,.data,.data,.pinned,.pinned] true (true,"4a99b4170acee9623b20adfb3add74d3e1c627c4e87ea27c00a248d4dbc63f3f") false
  ParseLines.holds (fun _ h=>by cases h) (by kernel_rfl) (fun _ h=>by cases h) parseLines_row_tie rfl ⟨rfl,rfl⟩ (by kernel_rfl) rfl
  (fun f fn hf D1=>by
    obtain rfl:f = 4:=Option.some.inj ((show Tryz.prog.funcNamed "apostille/apostillelaw08.ParseLines" = some 4 by kernel_rfl).symm.trans hf) |>.symm
    obtain rfl:fn = Tryz.f4:=(Option.some.inj (Tryz.func4.symm.trans D1)).symm
    exact⟨by kernel_rfl,fun j t ht=>by
     rw[Tryz.params4]at ht;have hm:t∈[22,4]:=by simpa using Array.mem_of_getElem? ht
     have D0:([22,4].all fun u => !Tryz.prog.wantsStandIn u)=true:=by kernel_rfl
     exact(show Tryz.prog.wantsStandIn t=false by simpa using o9.1 D0 t hm)⟩)
  (by kernel_rfl)
end Go.Proofs.YteinegfbpfhflaaGreatDoor
