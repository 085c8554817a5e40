/-
  For every key, every slice of bytes and any number of noughts: a long key does as its sum does, a shorter one as itself with noughts behind it (MacKeys). Conditions: the two tables of package sha lie as the program's text lays them.
-/
import Derived.Test.YtlndjmpopoihnaaDoorLawKeys
import Derived.Test.YtlndjmpopoihnaaDoorTie
import Derived.Test.YtlndjmpopoihnaaDoorCards
import Derived.SevenTiedAt
namespace Go.Proofs.YtlndjmpopoihnaaDoor
open Go
theorem macKeys_holds : Rows.MacKeysCardSaid :=
  Claim7.holds_tied_plain_at .later [] [.data, .data] true (true, "c7716c6c59fab11beb39950e3b834762ed4483812e235959ed56aa5378f8ead0") false
    MacKeys.holds (fun _ h => by cases h) (by kernel_rfl) (fun _ h => by cases h) macKeys_row_tie rfl ⟨rfl, rfl⟩ (by kernel_rfl) rfl
    (fun f fn hf hfn => by
      obtain rfl : f = 4 := Option.some.inj ((show Tryd.prog.funcNamed "apostille/apostillelaw03.MacKeys" = some 4 by kernel_rfl).symm.trans hf) |>.symm
      obtain rfl : fn = Tryd.f4 := (Option.some.inj (Tryd.func4.symm.trans hfn)).symm
      exact ⟨by kernel_rfl, fun j t ht => by
        rw [Tryd.params4] at ht
        have hm : t ∈ [22, 22, 5] := by simpa using Array.mem_of_getElem? ht
        have hall : ([22, 22, 5].all fun u => !Tryd.prog.wantsStandIn u) = true := by kernel_rfl
        exact (show Tryd.prog.wantsStandIn t = false by simpa using List.all_eq_true.1 hall t hm)⟩)
    (by kernel_rfl)
end Go.Proofs.YtlndjmpopoihnaaDoor
