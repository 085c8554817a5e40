/-
  utf.Valid. Conditions: the two tables of unicode/utf8 lie as they are laid.
-/
import Derived.Test.YtalcmhngebobnaaDoorValid
import Derived.Test.YtalcmhngebobnaaDoorOwn
namespace Go.Proofs.YtalcmhngebobnaaDoor
open Go.RowKit
theorem uvalid_any (A : Option Addr) (c : Nat) (bs : List UInt8) (w : World) (hT : Tabs w) (hl : Lies w w.heap.size A (u8c bs)) (hc : bs.length ≤ c) (hcm : c ≤ 9223372036854775807) :
    Calls Tryd.prog 56 #[.slice A bs.length c] w fun e w' => e = .returned (.bool (Lib.validD bs)) ∧ Below w.heap.size w w' := by
  have H := Lib.hid (valid_any A c bs w hT hl hc hcm)
  clear hl hT
  go_enter Tryd.func56, Tryd.ntmps56
  go_wp2_with (go_at_call 62; refine H.out.mono ?_; rintro e w' ⟨rfl, hb⟩)
  go_ret
  exact ⟨rfl, hb⟩
end Go.Proofs.YtalcmhngebobnaaDoor
