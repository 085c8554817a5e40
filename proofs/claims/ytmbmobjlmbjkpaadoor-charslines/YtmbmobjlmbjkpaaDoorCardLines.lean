/-
  For every text: with its lines ended it is what the document says, and no byte D is left (CharsLines). Conditions: unicode/utf8's two tables lie as the program's text lays them; of internal/bytealg.MaxLen nothing is asked but that it is a number.
-/
import Derived.Test.YtmbmobjlmbjkpaaDoorLawLines
import Derived.Test.YtmbmobjlmbjkpaaDoorTie
import Derived.Test.YtmbmobjlmbjkpaaDoorCards
import Derived.SevenTiedAt
namespace Go.Proofs.YtmbmobjlmbjkpaaDoor
open Go
theorem charsLines_holds : Rows.CharsLinesCardSaid :=
  Claim7.holds_tied_plain_at .later [] [.data, .pinned] true (true, "793a3174f7c2bce4a4dae8fd68fc9fcca5bacbad9998e02c2c04389a18e8d00e") false
    CharsLines.holds (fun _ h => by cases h) (by kernel_rfl) (fun _ h => by cases h) charsLines_row_tie rfl ⟨rfl, rfl⟩ (by kernel_rfl) rfl
    (fun f fn hf hfn => by
      obtain rfl : f = 3 := Option.some.inj ((show Tryd.prog.funcNamed "apostille/apostillelaw06.CharsLines" = some 3 by kernel_rfl).symm.trans hf) |>.symm
      obtain rfl : fn = Tryd.f3 := (Option.some.inj (Tryd.func3.symm.trans hfn)).symm
      exact ⟨by kernel_rfl, fun j t ht => by
        rw [Tryd.params3] at ht
        have hm : t ∈ [9] := by simpa using Array.mem_of_getElem? ht
        have hall : ([9].all fun u => !Tryd.prog.wantsStandIn u) = true := by kernel_rfl
        exact (show Tryd.prog.wantsStandIn t = false by simpa using List.all_eq_true.1 hall t hm)⟩)
    (by kernel_rfl)
end Go.Proofs.YtmbmobjlmbjkpaaDoor
