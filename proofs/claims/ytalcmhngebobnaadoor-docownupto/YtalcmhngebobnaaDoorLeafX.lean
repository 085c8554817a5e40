/-
  The plain tests on numbers: which characters may stand in a document. Conditions: none.
-/
import Derived.Test.YtalcmhngebobnaaDoorLeaf
namespace Go.Proofs.YtalcmhngebobnaaDoor
open Go.RowKit
set_option maxHeartbeats 400000
theorem xml_any (r : Int) (w : World) : Calls Tryd.prog 57 #[.int .i32 r] w fun e w' => e = .returned (.bool (xmlB r)) ∧ w = w' := by
  go_enter Tryd.func57, Tryd.ntmps57
  go_wp2
  all_goals
    go_ret
    refine ⟨ret_bool ?_, rfl⟩
    simp only [beq_iff_eq, beq_eq_false_iff_ne, ne_eq] at *
    rw [Bool.eq_iff_iff]
    simp [xmlB]
    try omega
end Go.Proofs.YtalcmhngebobnaaDoor
