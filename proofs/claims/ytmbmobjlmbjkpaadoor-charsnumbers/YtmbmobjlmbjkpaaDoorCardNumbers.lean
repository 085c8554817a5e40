/-
  For every number: a reference by it, decimal or not, is that character, if it may stand in a document; else there is none (CharsNumbers). Conditions: unicode/utf8's two tables lie as the program's text lays them; of internal/bytealg.MaxLen nothing is asked but that it is a number.
-/
import Derived.Test.YtmbmobjlmbjkpaaDoorLawNumbers
import Derived.Test.YtmbmobjlmbjkpaaDoorTie
import Derived.Test.YtmbmobjlmbjkpaaDoorCards
import Derived.SevenTiedAt
namespace Go.Proofs.YtmbmobjlmbjkpaaDoor
open Go
theorem charsNumbers_holds : Rows.CharsNumbersCardSaid :=
  Claim7.holds_tied_plain_at .later [] [.data, .pinned] true (true, "793a3174f7c2bce4a4dae8fd68fc9fcca5bacbad9998e02c2c04389a18e8d00e") false
    CharsNumbers.holds (fun _ h => by cases h) (by kernel_rfl) (fun _ h => by cases h) charsNumbers_row_tie rfl ⟨rfl, rfl⟩ (by kernel_rfl) rfl
    (fun f fn hf hfn => by
      obtain rfl : f = 6 := Option.some.inj ((show Tryd.prog.funcNamed "apostille/apostillelaw06.CharsNumbers" = some 6 by kernel_rfl).symm.trans hf) |>.symm
      obtain rfl : fn = Tryd.f6 := (Option.some.inj (Tryd.func6.symm.trans hfn)).symm
      exact ⟨by kernel_rfl, fun j t ht => by
        rw [Tryd.params6] at ht
        have hm : t ∈ [21, 5] := by simpa using Array.mem_of_getElem? ht
        have hall : ([21, 5].all fun u => !Tryd.prog.wantsStandIn u) = true := by kernel_rfl
        exact (show Tryd.prog.wantsStandIn t = false by simpa using List.all_eq_true.1 hall t hm)⟩)
    (by kernel_rfl)
end Go.Proofs.YtmbmobjlmbjkpaaDoor
