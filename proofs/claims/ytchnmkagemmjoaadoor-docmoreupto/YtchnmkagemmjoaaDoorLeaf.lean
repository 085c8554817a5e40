/-
  The plain test on numbers: which are characters. Conditions: none.
-/
import Derived.Test.YtchnmkagemmjoaaDoorProg
import Derived.Test.YtchnmkagemmjoaaDoorPure
import Derived.WalkKit
import Derived.Deep.QuietTactic
import Derived.BigQuiet
namespace Go.Proofs.YtchnmkagemmjoaaDoor
open Go.RowKit
set_option maxHeartbeats 400000
theorem char_any (r : Int) (w : World) : Calls Tryd.prog 72 #[.int .i32 r] w fun e w' => e = .returned (.bool (chB r)) ∧ w = w' := by
  go_enter Tryd.func72, Tryd.ntmps72
  go_wp2
  all_goals
    go_ret
    refine ⟨ret_bool ?_, rfl⟩
    rw [Bool.eq_iff_iff]
    simp [chB]
    try omega
end Go.Proofs.YtchnmkagemmjoaaDoor
