/-
  What a byte is in memory. Conditions: none.
-/
import Derived.Test.YthgffefdgjglmaaDoorLeaf
import Derived.WalkKit
namespace Go.Proofs.YthgffefdgjglmaaDoor
open Go.RowKit
theorem byteInfo : (Tryd.prog.info? 5).map (fun i => (i.zero, i.size, i.bytes)) = some (some (.int .u8 0), 1, 1) := by kernel_rfl
end Go.Proofs.YthgffefdgjglmaaDoor
