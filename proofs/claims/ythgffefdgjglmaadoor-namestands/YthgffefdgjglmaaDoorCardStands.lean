/-
  For every number: which characters may begin a name, and stand in one, is what the document says (NameStands). Conditions: package name's two tables and unicode/utf8's two lie as the program's text lays them.
-/
import Derived.Test.YthgffefdgjglmaaDoorLawStands
import Derived.Test.YthgffefdgjglmaaDoorTie
import Derived.Test.YthgffefdgjglmaaDoorCards
import Derived.SevenTiedAt
namespace Go.Proofs.YthgffefdgjglmaaDoor
open Go
theorem nameStands_holds : Rows.NameStandsCardSaid :=
  Claim7.holds_tied_plain_at .later [] [.data, .data, .data, .pinned] true (true, "fd1cbee0e6d12f66c96153750f4c282b1d3cd0543dc716ae27e1b9d4e9c2a319") false
    NameStands.holds (fun _ h => by cases h) (by kernel_rfl) (fun _ h => by cases h) nameStands_row_tie rfl ⟨rfl, rfl⟩ (by kernel_rfl) rfl
    (fun f fn hf hfn => by
      obtain rfl : f = 3 := Option.some.inj ((show Tryd.prog.funcNamed "apostille/apostillelaw05.NameStands" = some 3 by kernel_rfl).symm.trans hf) |>.symm
      obtain rfl : fn = Tryd.f3 := (Option.some.inj (Tryd.func3.symm.trans hfn)).symm
      exact ⟨by kernel_rfl, fun j t ht => by
        rw [Tryd.params3] at ht
        have hm : t ∈ [21] := by simpa using Array.mem_of_getElem? ht
        have hall : ([21].all fun u => !Tryd.prog.wantsStandIn u) = true := by kernel_rfl
        exact (show Tryd.prog.wantsStandIn t = false by simpa using List.all_eq_true.1 hall t hm)⟩)
    (by kernel_rfl)
end Go.Proofs.YthgffefdgjglmaaDoor
