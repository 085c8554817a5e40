/-
  Declarations in order are what the document says; the list stays (SpaceSorts), where what comes in is of bulk at most 1048576. Conditions: the arguments are of bulk at most 1048576 (the second form); the seven tables of the row lie as the program's text lays them; of internal/bytealg.MaxLen nothing is asked but that it is a number.
-/
import Derived.Test.YtlgcigmolfhamaaGreatDoorKLawSorts
import Derived.Test.YtlgcigmolfhamaaGreatDoorTie
import Derived.Test.YtlgcigmolfhamaaGreatDoorCards
import Derived.SevenTiedAt
namespace Go.Proofs.YtlgcigmolfhamaaGreatDoor
open Go
theorem spaceSorts_holds:Rows.SpaceSortsUptoCardSaid :=
 Claim7.holds_tied_plain_at .later [] [.data,.data,.data,.data,.data,.pinned,.pinned] true (true,"d375dccdcdb49f5777b2970e2c8f2730532fd68d8d70427fe6c3667d6c3376e8") false
  SpaceSorts.holds (fun _ h=>by cases h) (by kernel_rfl) (fun _ h=>by cases h) spaceSortsUpto_row_tie rfl ⟨rfl,rfl⟩ (by kernel_rfl) rfl
  (fun f fn hf D1=>by
    obtain rfl:f = 4:=Option.some.inj ((show Tryz.prog.funcNamed "apostille/apostillelaw09.SpaceSorts" = some 4 by kernel_rfl).symm.trans hf) |>.symm
    obtain rfl:fn = Tryz.f4:=(Option.some.inj (Tryz.func4.symm.trans D1)).symm
    exact⟨by kernel_rfl,fun j t ht=>by
     rw[Tryz.params4]at ht;have hm:t∈[31]:=by simpa using Array.mem_of_getElem? ht
     have D0:([31].all fun u => !Tryz.prog.wantsStandIn u)=true:=by kernel_rfl
     exact(show Tryz.prog.wantsStandIn t=false by simpa using o9.1 D0 t hm)⟩)
  (by kernel_rfl)
end Go.Proofs.YtlgcigmolfhamaaGreatDoor
