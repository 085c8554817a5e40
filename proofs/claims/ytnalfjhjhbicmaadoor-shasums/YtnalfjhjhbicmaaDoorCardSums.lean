/-
  For every slice of bytes, wherever it is parted: the sum is what the document says, and its digits are (ShaSums). Conditions: the two tables of package sha lie as the program's text lays them.
-/
import Derived.Test.YtnalfjhjhbicmaaDoorLawSums
import Derived.Test.YtnalfjhjhbicmaaDoorTie
import Derived.Test.YtnalfjhjhbicmaaDoorCards
import Derived.SevenTiedAt
namespace Go.Proofs.YtnalfjhjhbicmaaDoor
open Go
theorem shaSums_holds : Rows.ShaSumsCardSaid :=
  Claim7.holds_tied_plain_at .later [] [.data, .data] true (true, "a7fd3c701bac0d7adf4d14ad0d14c72ef0041e9b8f2da593ba26132fb0a0dce3") false
    ShaSums.holds (fun _ h => by cases h) (by kernel_rfl) (fun _ h => by cases h) shaSums_row_tie rfl ⟨rfl, rfl⟩ (by kernel_rfl) rfl
    (fun f fn hf hfn => by
      obtain rfl : f = 3 := Option.some.inj ((show Tryd.prog.funcNamed "apostille/apostillelaw02.ShaSums" = some 3 by kernel_rfl).symm.trans hf) |>.symm
      obtain rfl : fn = Tryd.f3 := (Option.some.inj (Tryd.func3.symm.trans hfn)).symm
      exact ⟨by kernel_rfl, fun j t ht => by
        rw [Tryd.params3] at ht
        have hm : t ∈ [22, 23, 23] := by simpa using Array.mem_of_getElem? ht
        have hall : ([22, 23, 23].all fun u => !Tryd.prog.wantsStandIn u) = true := by kernel_rfl
        exact (show Tryd.prog.wantsStandIn t = false by simpa using List.all_eq_true.1 hall t hm)⟩)
    (by kernel_rfl)
end Go.Proofs.YtnalfjhjhbicmaaDoor
