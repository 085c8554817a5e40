/-
  For every text: whether it is a name, or a full one, and its parts, is what the document says (NameIs). Conditions: package name's two tables and unicode/utf8's two lie as the program's text lays them.
-/
import Derived.Test.YthgffefdgjglmaaDoorLawIs
import Derived.Test.YthgffefdgjglmaaDoorTie
import Derived.Test.YthgffefdgjglmaaDoorCards
import Derived.SevenTiedAt
namespace Go.Proofs.YthgffefdgjglmaaDoor
open Go
theorem nameIs_holds : Rows.NameIsCardSaid :=
  Claim7.holds_tied_plain_at .later [] [.data, .data, .data, .pinned] true (true, "fd1cbee0e6d12f66c96153750f4c282b1d3cd0543dc716ae27e1b9d4e9c2a319") false
    NameIs.holds (fun _ h => by cases h) (by kernel_rfl) (fun _ h => by cases h) nameIs_row_tie rfl ⟨rfl, rfl⟩ (by kernel_rfl) rfl
    (fun f fn hf hfn => by
      obtain rfl : f = 4 := Option.some.inj ((show Tryd.prog.funcNamed "apostille/apostillelaw05.NameIs" = some 4 by kernel_rfl).symm.trans hf) |>.symm
      obtain rfl : fn = Tryd.f4 := (Option.some.inj (Tryd.func4.symm.trans hfn)).symm
      exact ⟨by kernel_rfl, fun j t ht => by
        rw [Tryd.params4] at ht
        have hm : t ∈ [9] := by simpa using Array.mem_of_getElem? ht
        have hall : ([9].all fun u => !Tryd.prog.wantsStandIn u) = true := by kernel_rfl
        exact (show Tryd.prog.wantsStandIn t = false by simpa using List.all_eq_true.1 hall t hm)⟩)
    (by kernel_rfl)
end Go.Proofs.YthgffefdgjglmaaDoor
