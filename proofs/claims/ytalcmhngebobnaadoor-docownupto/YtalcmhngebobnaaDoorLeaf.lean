/-
  The plain test on numbers: which are characters. Conditions: none.
-/
import Derived.Test.YtalcmhngebobnaaDoorProg
import Derived.Test.YtalcmhngebobnaaDoorPure
import Derived.WalkKit
import Derived.Deep.QuietTactic
import Derived.BigQuiet
namespace Go.Proofs.YtalcmhngebobnaaDoor
open Go.RowKit
set_option maxHeartbeats 400000
end Go.Proofs.YtalcmhngebobnaaDoor
