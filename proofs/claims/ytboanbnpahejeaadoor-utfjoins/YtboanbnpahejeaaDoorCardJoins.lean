/-
  For every two slices of bytes: bytes of characters, one behind the other, are those of all (UtfJoins). Conditions: the two tables of unicode/utf8 lie as the program's text lays them.
-/
import Derived.Test.YtboanbnpahejeaaDoorLawJoins
import Derived.Test.YtboanbnpahejeaaDoorTie
import Derived.Test.YtboanbnpahejeaaDoorCards
import Derived.SevenTiedAt
namespace Go.Proofs.YtboanbnpahejeaaDoor
open Go
theorem utfJoins_holds : Rows.UtfJoinsCardSaid :=
  Claim7.holds_tied_plain_at .later [] [.data, .pinned] true (true, "2d807af20239c3813a64e71093490151605850b3c4b6f3ac26966f2d6e9d7835") false
    UtfJoins.holds (fun _ h => by cases h) (by kernel_rfl) (fun _ h => by cases h) utfJoins_row_tie rfl ⟨rfl, rfl⟩ (by kernel_rfl) rfl
    (fun f fn hf hfn => by
      obtain rfl : f = 6 := Option.some.inj ((show Tryd.prog.funcNamed "apostille/apostillelaw01.UtfJoins" = some 6 by kernel_rfl).symm.trans hf) |>.symm
      obtain rfl : fn = Tryd.f6 := (Option.some.inj (Tryd.func6.symm.trans hfn)).symm
      exact ⟨by kernel_rfl, fun j t ht => by
        rw [Tryd.params6] at ht
        have hm : t ∈ [22, 22] := by simpa using Array.mem_of_getElem? ht
        have hall : ([22, 22].all fun u => !Tryd.prog.wantsStandIn u) = true := by kernel_rfl
        exact (show Tryd.prog.wantsStandIn t = false by simpa using List.all_eq_true.1 hall t hm)⟩)
    (by kernel_rfl)
end Go.Proofs.YtboanbnpahejeaaDoor
