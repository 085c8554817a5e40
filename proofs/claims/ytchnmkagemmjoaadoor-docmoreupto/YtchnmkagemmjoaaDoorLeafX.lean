/-
  The plain tests on numbers: which characters may stand in a document. Conditions: none.
-/
import Derived.Test.YtchnmkagemmjoaaDoorLeaf
namespace Go.Proofs.YtchnmkagemmjoaaDoor
open Go.RowKit
set_option maxHeartbeats 400000
theorem xml_any (r : Int) (w : World) : Calls Tryd.prog 92 #[.int .i32 r] w fun e w' => e = .returned (.bool (xmlB r)) ∧ w = w' := by
  go_enter Tryd.func92, Tryd.ntmps92
  go_wp2
  all_goals
    go_ret
    refine ⟨ret_bool ?_, rfl⟩
    simp only [beq_iff_eq, beq_eq_false_iff_ne, ne_eq] at *
    rw [Bool.eq_iff_iff]
    simp [xmlB]
    try omega
theorem refXml_any (r : Int) (w : World) : Calls Tryd.prog 98 #[.int .i32 r] w fun e w' => e = .returned (.bool (xmlB r)) ∧ w = w' := by
  go_enter Tryd.func98, Tryd.ntmps98
  go_wp2_with (go_at_call 72; refine (char_any _ _).mono ?_; rintro e w' ⟨rfl, rfl⟩)
  all_goals
    go_ret
    refine ⟨ret_bool ?_, rfl⟩
    rw [Bool.eq_iff_iff]
    simp only [chB, decide_eq_true_eq] at *
    simp [xmlB]
    try omega
end Go.Proofs.YtchnmkagemmjoaaDoor
