/-
  The plain tests on numbers: what each of them returns. Conditions: none.
-/
import Derived.Test.YtmbmobjlmbjkpaaDoorProg
import Derived.Test.YtmbmobjlmbjkpaaDoorPure
import Derived.WalkKit
import Derived.Deep.QuietTactic
import Derived.BigQuiet
namespace Go.Proofs.YtmbmobjlmbjkpaaDoor
open Go.RowKit
set_option maxHeartbeats 400000
theorem char_any (r : Int) (w : World) : Calls Tryd.prog 20 #[.int .i32 r] w fun e w' => e = .returned (.bool (chB r)) ∧ w = w' := by
  go_enter Tryd.func20, Tryd.ntmps20
  go_wp2
  all_goals
    go_ret
    refine ⟨ret_bool ?_, rfl⟩
    rw [Bool.eq_iff_iff]
    simp [chB]
    try omega
theorem validRune_any (r : Int) (w : World) : Calls Tryd.prog 44 #[.int .i32 r] w fun e w' => e = .returned (.bool (chB r)) ∧ w = w' := by
  go_enter Tryd.func44, Tryd.ntmps44
  go_wp2
  all_goals
    go_ret
    refine ⟨ret_bool ?_, rfl⟩
    rw [Bool.eq_iff_iff]
    simp [chB]
    try omega
theorem xml_any (r : Int) (w : World) : Calls Tryd.prog 29 #[.int .i32 r] w fun e w' => e = .returned (.bool (xmlB r)) ∧ w = w' := by
  go_enter Tryd.func29, Tryd.ntmps29
  go_wp2
  all_goals
    go_ret
    refine ⟨ret_bool ?_, rfl⟩
    simp only [beq_iff_eq, beq_eq_false_iff_ne, ne_eq] at *
    rw [Bool.eq_iff_iff]
    simp [xmlB]
    try omega
theorem refXml_any (r : Int) (w : World) : Calls Tryd.prog 14 #[.int .i32 r] w fun e w' => e = .returned (.bool (xmlB r)) ∧ w = w' := by
  go_enter Tryd.func14, Tryd.ntmps14
  go_wp2_with (go_at_call 20; refine (char_any _ _).mono ?_; rintro e w' ⟨rfl, rfl⟩)
  all_goals
    go_ret
    refine ⟨ret_bool ?_, rfl⟩
    rw [Bool.eq_iff_iff]
    simp only [chB, decide_eq_true_eq] at *
    simp [xmlB]
    try omega
end Go.Proofs.YtmbmobjlmbjkpaaDoor
