/-
  A character's bytes, somewhere in a text, are read as it. Conditions: none.
-/
import Derived.Test.YtmbmobjlmbjkpaaDoorRefChars
import Derived.Test.YtmbmobjlmbjkpaaDoorBase
import Derived.Laws.IdiomStrings
namespace Go.Proofs.YtmbmobjlmbjkpaaDoor
open Go.RowKit
theorem decode_in (l1 : List Int) (r : Int) (l2 : List Int) (hr : chB r = true) (s : ByteArray) (hs : s.data.toList = encBs l1 ++ (encB r ++ encBs l2)) :
    Utf8.decode s (encBs l1).length = (r.toNat, (encB r).length) := by
  rw [← Lib.decodeL_drop, hs, List.drop_left, dec_enc hr]
end Go.Proofs.YtmbmobjlmbjkpaaDoor
