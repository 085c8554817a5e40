/-
  The document's own tests on characters of names, and the tests on blanks, the document's and the program's. Conditions: none.
-/
import Derived.Test.YtchnmkagemmjoaaDoorNPure
import Derived.Test.YtchnmkagemmjoaaDoorOwn
namespace Go.Proofs.YtchnmkagemmjoaaDoor
open Go.RowKit
set_option linter.unusedVariables false
set_option maxHeartbeats 1000000
/-- A number lies between two. -/
def btw (r a b : Int) : Bool := decide (a ≤ r ∧ r ≤ b)
theorem between_any (r a b : Int) (w : World) : Calls Tryd.prog 74 #[.int .i32 r, .int .i32 a, .int .i32 b] w fun e w' => e = .returned (.bool (btw r a b)) ∧ w' = w := by
  by_cases h1 : a ≤ r <;> by_cases h2 : r ≤ b
  all_goals
    go_enter Tryd.func74, Tryd.ntmps74
    go_wp2
    go_ret
    exact ⟨ret_bool (by simp [btw]; try omega), rfl⟩
theorem between_val {r a b : Int} {B : Bool} (h : btw r a b = B) (w : World) : Calls Tryd.prog 74 #[.int .i32 r, .int .i32 a, .int .i32 b] w fun e w' => e = .returned (.bool B) ∧ w' = w := by
  rw [← h]; exact between_any r a b w
/-- A blank's number. -/
def blkZ (z : Int) : Bool := decide (z = 32 ∨ z = 9 ∨ z = 10 ∨ z = 13)
theorem blkZ_of (c : UInt8) : blkZ (c.toNat : Int) = blk c := by
  have h : ∀ n < 256, blkZ (((UInt8.ofNat n).toNat : Nat) : Int) = blk (UInt8.ofNat n) := by decide +kernel
  have := h c.toNat c.toNat_lt
  rwa [UInt8.ofNat_toNat] at this
theorem blank_any (z : Int) (w : World) : Calls Tryd.prog 85 #[.int .u8 z] w fun e w' => e = .returned (.bool (blkZ z)) ∧ w' = w := by
  go_enter Tryd.func85, Tryd.ntmps85
  go_wp2
  all_goals
    go_ret
    refine ⟨ret_bool ?_, rfl⟩
    rw [Bool.eq_iff_iff]
    simp [blkZ]
    try omega
theorem refBlank_any (z : Int) (w : World) : Calls Tryd.prog 70 #[.int .u8 z] w fun e w' => e = .returned (.bool (blkZ z)) ∧ w' = w := by
  go_enter Tryd.func70, Tryd.ntmps70
  go_wp2
  all_goals
    go_ret
    refine ⟨ret_bool ?_, rfl⟩
    rw [Bool.eq_iff_iff]
    simp [blkZ]
    try omega
theorem refBegins_any (r : Int) (w : World) : Calls Tryd.prog 52 #[.int .i32 r] w fun e w' => e = .returned (.bool (begB r)) ∧ w' = w := by
  go_enter Tryd.func52, Tryd.ntmps52
  go_wp2_with (go_at_call 74; refine (between_any _ _ _ _).mono ?_; rintro e w' ⟨rfl, rfl⟩)
  all_goals
    go_ret
    refine ⟨ret_bool ?_, rfl⟩
    try simp only [btw, decide_eq_true_eq] at *
    rw [Bool.eq_iff_iff]
    simp [begB]
    try omega
theorem refStands_any (r : Int) (w : World) : Calls Tryd.prog 53 #[.int .i32 r] w fun e w' => e = .returned (.bool (staB r)) ∧ w' = w := by
  have H := Lib.hid (refBegins_any r)
  obtain ⟨B, hB⟩ : ∃ B, begB r = B := ⟨_, rfl⟩
  rw [hB] at H
  have HB := Lib.hid hB; clear hB
  go_enter Tryd.func53, Tryd.ntmps53
  go_wp2_with (first | (go_at_call 74; refine (between_any _ _ _ _).mono ?_; rintro e w' ⟨rfl, rfl⟩) | (go_at_call 52; refine (H.out _).mono ?_; rintro e w' ⟨rfl, rfl⟩))
  all_goals
    go_ret
    refine ⟨ret_bool ?_, rfl⟩
    try simp only [btw, decide_eq_true_eq] at *
    rw [Bool.eq_iff_iff, sta_iff, HB.out]
    simp [*]
    try omega
end Go.Proofs.YtchnmkagemmjoaaDoor
