/-
  The document's own answer for one character's bytes, and how long a character is by its first byte. Conditions: the number is a character.
-/
import Derived.Test.YtalcmhngebobnaaDoorOwn
namespace Go.Proofs.YtalcmhngebobnaaDoor
open Go.RowKit
/-- How long a character is that begins so. -/
def longN (b : Nat) : Nat := if b < 128 then 1 else if 192 ≤ b ∧ b < 224 then 2 else if 224 ≤ b ∧ b < 240 then 3 else 4
end Go.Proofs.YtalcmhngebobnaaDoor
