/-
  For every slice of bytes: whether they are characters' bytes, which characters, and whether they may stand in a document, is what the document says (UtfReads). Conditions: the two tables of unicode/utf8 lie as the program's text lays them.
-/
import Derived.Test.YtboanbnpahejeaaDoorLawReads
import Derived.Test.YtboanbnpahejeaaDoorTie
import Derived.Test.YtboanbnpahejeaaDoorCards
import Derived.SevenTiedAt
namespace Go.Proofs.YtboanbnpahejeaaDoor
open Go
theorem utfReads_holds : Rows.UtfReadsCardSaid :=
  Claim7.holds_tied_plain_at .later [] [.data, .pinned] true (true, "2d807af20239c3813a64e71093490151605850b3c4b6f3ac26966f2d6e9d7835") false
    UtfReads.holds (fun _ h => by cases h) (by kernel_rfl) (fun _ h => by cases h) utfReads_row_tie rfl ⟨rfl, rfl⟩ (by kernel_rfl) rfl
    (fun f fn hf hfn => by
      obtain rfl : f = 3 := Option.some.inj ((show Tryd.prog.funcNamed "apostille/apostillelaw01.UtfReads" = some 3 by kernel_rfl).symm.trans hf) |>.symm
      obtain rfl : fn = Tryd.f3 := (Option.some.inj (Tryd.func3.symm.trans hfn)).symm
      exact ⟨by kernel_rfl, fun j t ht => by
        rw [Tryd.params3] at ht
        have hm : t ∈ [22] := by simpa using Array.mem_of_getElem? ht
        have hall : ([22].all fun u => !Tryd.prog.wantsStandIn u) = true := by kernel_rfl
        exact (show Tryd.prog.wantsStandIn t = false by simpa using List.all_eq_true.1 hall t hm)⟩)
    (by kernel_rfl)
end Go.Proofs.YtboanbnpahejeaaDoor
