/-
  For every number, byte and list of numbers: characters' bytes, cut within a character, are none's (UtfCuts). Conditions: the two tables of unicode/utf8 lie as the program's text lays them.
-/
import Derived.Test.YtboanbnpahejeaaDoorLawCuts
import Derived.Test.YtboanbnpahejeaaDoorTie
import Derived.Test.YtboanbnpahejeaaDoorCards
import Derived.SevenTiedAt
namespace Go.Proofs.YtboanbnpahejeaaDoor
open Go
theorem utfCuts_holds : Rows.UtfCutsCardSaid :=
  Claim7.holds_tied_plain_at .later [] [.data, .pinned] true (true, "2d807af20239c3813a64e71093490151605850b3c4b6f3ac26966f2d6e9d7835") false
    UtfCuts.holds (fun _ h => by cases h) (by kernel_rfl) (fun _ h => by cases h) utfCuts_row_tie rfl ⟨rfl, rfl⟩ (by kernel_rfl) rfl
    (fun f fn hf hfn => by
      obtain rfl : f = 7 := Option.some.inj ((show Tryd.prog.funcNamed "apostille/apostillelaw01.UtfCuts" = some 7 by kernel_rfl).symm.trans hf) |>.symm
      obtain rfl : fn = Tryd.f7 := (Option.some.inj (Tryd.func7.symm.trans hfn)).symm
      exact ⟨by kernel_rfl, fun j t ht => by
        rw [Tryd.params7] at ht
        have hm : t ∈ [21, 5, 24] := by simpa using Array.mem_of_getElem? ht
        have hall : ([21, 5, 24].all fun u => !Tryd.prog.wantsStandIn u) = true := by kernel_rfl
        exact (show Tryd.prog.wantsStandIn t = false by simpa using List.all_eq_true.1 hall t hm)⟩)
    (by kernel_rfl)
end Go.Proofs.YtboanbnpahejeaaDoor
