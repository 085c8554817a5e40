/-
  NameStands walked. Conditions: the tables lie as they are laid.
-/
import Derived.Test.YthgffefdgjglmaaDoorNAwake
namespace Go.Proofs.YthgffefdgjglmaaDoor
open Go.RowKit
set_option linter.unusedVariables false
set_option maxHeartbeats 2000000 in
theorem stands_law (r : Int) (w : World) (hT : NTabs w) : Calls Tryd.prog 3 #[.int .i32 r] w fun e w' => e = .returned (.bool true) ∧ Below w.heap.size w w' := by
  have h5 := hT.five
  have HT := Lib.hid hT
  have HA := Lib.hid (awake_any w hT)
  obtain ⟨B, hB⟩ : ∃ B, begB r = B := ⟨_, rfl⟩
  obtain ⟨C, hC⟩ : ∃ C, staB r = C := ⟨_, rfl⟩
  have H1 : Hid (∀ W, NTabs W → Calls Tryd.prog 9 #[.int .i32 r] W fun e w' => e = .returned (.bool B) ∧ Below W.heap.size W w') := fun W h => by rw [← hB]; exact begins_any r W h
  have H2 : Hid (∀ W, Calls Tryd.prog 10 #[.int .i32 r] W fun e w' => e = .returned (.bool B) ∧ w' = W) := fun W => by rw [← hB]; exact refBegins_any r W
  have H3 : Hid (∀ W, NTabs W → Calls Tryd.prog 11 #[.int .i32 r] W fun e w' => e = .returned (.bool C) ∧ Below W.heap.size W w') := fun W h => by rw [← hC]; exact stands_any r W h
  have H4 : Hid (∀ W, Calls Tryd.prog 12 #[.int .i32 r] W fun e w' => e = .returned (.bool C) ∧ w' = W) := fun W => by rw [← hC]; exact refStands_any r W
  have hBB : (B == B) = true := by simp
  have hCC : (C == C) = true := by simp
  clear hT hB hC
  go_enter Tryd.func3, Tryd.ntmps3
  go_wp2_with fail
  refine HA.out.mono ?_
  rintro e w1 ⟨rfl, hb1⟩
  go_wp2_with fail
  refine (H1.out w1 (HT.out.below h5 hb1)).mono ?_
  rintro e w2 ⟨rfl, hb2⟩
  have hbw := hb1.trans (hb2.mono hb1.size)
  clear hb1 hb2
  go_wp2_with fail
  refine (H2.out w2).mono ?_
  rintro e w3 ⟨rfl, hw⟩
  rw [hw]
  clear hw
  go_wp2_with fail
  refine (H3.out w2 (HT.out.below h5 hbw)).mono ?_
  rintro e w4 ⟨rfl, hb4⟩
  have hbx := hbw.trans (hb4.mono hbw.size)
  clear hbw hb4
  go_wp2_with fail
  refine (H4.out w4).mono ?_
  rintro e w5 ⟨rfl, hw⟩
  rw [hw]
  go_wp2
  go_ret
  exact ⟨rfl, hbx⟩
end Go.Proofs.YthgffefdgjglmaaDoor
