/-
  For every text and every byte: the text without the blanks at its ends, and whether the byte is a blank, is what the document says (NameTrims). Conditions: package name's two tables and unicode/utf8's two lie as the program's text lays them.
-/
import Derived.Test.YthgffefdgjglmaaDoorLawTrims
import Derived.Test.YthgffefdgjglmaaDoorTie
import Derived.Test.YthgffefdgjglmaaDoorCards
import Derived.SevenTiedAt
namespace Go.Proofs.YthgffefdgjglmaaDoor
open Go
theorem nameTrims_holds : Rows.NameTrimsCardSaid :=
  Claim7.holds_tied_plain_at .later [] [.data, .data, .data, .pinned] true (true, "fd1cbee0e6d12f66c96153750f4c282b1d3cd0543dc716ae27e1b9d4e9c2a319") false
    NameTrims.holds (fun _ h => by cases h) (by kernel_rfl) (fun _ h => by cases h) nameTrims_row_tie rfl ⟨rfl, rfl⟩ (by kernel_rfl) rfl
    (fun f fn hf hfn => by
      obtain rfl : f = 6 := Option.some.inj ((show Tryd.prog.funcNamed "apostille/apostillelaw05.NameTrims" = some 6 by kernel_rfl).symm.trans hf) |>.symm
      obtain rfl : fn = Tryd.f6 := (Option.some.inj (Tryd.func6.symm.trans hfn)).symm
      exact ⟨by kernel_rfl, fun j t ht => by
        rw [Tryd.params6] at ht
        have hm : t ∈ [9, 5] := by simpa using Array.mem_of_getElem? ht
        have hall : ([9, 5].all fun u => !Tryd.prog.wantsStandIn u) = true := by kernel_rfl
        exact (show Tryd.prog.wantsStandIn t = false by simpa using List.all_eq_true.1 hall t hm)⟩)
    (by kernel_rfl)
end Go.Proofs.YthgffefdgjglmaaDoor
