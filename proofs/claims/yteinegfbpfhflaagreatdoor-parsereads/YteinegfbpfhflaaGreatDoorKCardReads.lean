/-
  Any bytes are the document that the document says, or none, and why (ParseReads). Conditions: the seven tables of the row lie as the program's text lays them; of internal/bytealg.MaxLen nothing is asked but that it is a number.
-/
import Derived.Test.YteinegfbpfhflaaGreatDoorKLawReads
import Derived.Test.YteinegfbpfhflaaGreatDoorTie
import Derived.Test.YteinegfbpfhflaaGreatDoorCards
import Derived.SevenTiedAt
namespace Go.Proofs.YteinegfbpfhflaaGreatDoor
open Go
theorem parseReads_holds:Rows.ParseReadsCardSaid :=
 Claim7.holds_tied_plain_at .later [] [.data,.data,.data,.data,.data,.pinned,.pinned] true (true,"4a99b4170acee9623b20adfb3add74d3e1c627c4e87ea27c00a248d4dbc63f3f") false
  ParseReads.holds (fun _ h=>by cases h) (by kernel_rfl) (fun _ h=>by cases h) parseReads_row_tie rfl ⟨rfl,rfl⟩ (by kernel_rfl) rfl
  (fun f fn hf D1=>by
    obtain rfl:f = 3:=Option.some.inj ((show Tryz.prog.funcNamed "apostille/apostillelaw08.ParseReads" = some 3 by kernel_rfl).symm.trans hf) |>.symm
    obtain rfl:fn = Tryz.f3:=(Option.some.inj (Tryz.func3.symm.trans D1)).symm
    exact⟨by kernel_rfl,fun j t ht=>by
     rw[Tryz.params3]at ht;have hm:t∈[22]:=by simpa using Array.mem_of_getElem? ht
     have D0:([22].all fun u => !Tryz.prog.wantsStandIn u)=true:=by kernel_rfl
     exact(show Tryz.prog.wantsStandIn t=false by simpa using o9.1 D0 t hm)⟩)
  (by kernel_rfl)
end Go.Proofs.YteinegfbpfhflaaGreatDoor
