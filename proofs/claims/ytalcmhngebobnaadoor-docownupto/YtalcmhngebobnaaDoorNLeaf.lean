/-
  The document's own tests on characters of names, and the tests on blanks, the document's and the program's. Conditions: none.
-/
import Derived.Test.YtalcmhngebobnaaDoorNPure
import Derived.Test.YtalcmhngebobnaaDoorOwn
namespace Go.Proofs.YtalcmhngebobnaaDoor
open Go.RowKit
set_option linter.unusedVariables false
set_option maxHeartbeats 1000000
/-- A number lies between two. -/
def btw (r a b : Int) : Bool := decide (a ≤ r ∧ r ≤ b)
/-- A blank's number. -/
def blkZ (z : Int) : Bool := decide (z = 32 ∨ z = 9 ∨ z = 10 ∨ z = 13)
theorem blkZ_of (c : UInt8) : blkZ (c.toNat : Int) = blk c := by
  have h : ∀ n < 256, blkZ (((UInt8.ofNat n).toNat : Nat) : Int) = blk (UInt8.ofNat n) := by decide +kernel
  have := h c.toNat c.toNat_lt
  rwa [UInt8.ofNat_toNat] at this
theorem blank_any (z : Int) (w : World) : Calls Tryd.prog 51 #[.int .u8 z] w fun e w' => e = .returned (.bool (blkZ z)) ∧ w' = w := by
  go_enter Tryd.func51, Tryd.ntmps51
  go_wp2
  all_goals
    go_ret
    refine ⟨ret_bool ?_, rfl⟩
    rw [Bool.eq_iff_iff]
    simp [blkZ]
    try omega
end Go.Proofs.YtalcmhngebobnaaDoor
