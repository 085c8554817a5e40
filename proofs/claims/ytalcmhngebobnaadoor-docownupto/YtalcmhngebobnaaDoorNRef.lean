/-
  The document's own answers on names: how long a text is one, whether it is one, a full name's parts. Conditions: the text is not too long.
-/
import Derived.Test.YtalcmhngebobnaaDoorNIs
namespace Go.Proofs.YtalcmhngebobnaaDoor
open Go.RowKit
set_option linter.unusedVariables false
/-- What is answered: how long the longest name is that a text begins with. -/
def LongAns (S : ByteArray) (e : Ending) : Prop := ∃ l rest, Run S.data.toList l rest ∧ e = .returned (.int .i64 ((encBs l).length : Nat))
/-- What holds at each round's head. -/
def LRel (w : World) (S : ByteArray) (i : Value) (wr : World) : Prop := ∃ (k : Nat) (l : List Int) (rest : List UInt8), i = .int .i64 k ∧ (encBs l).length = k ∧ nmL l = true ∧ S.data.toList = encBs l ++ rest ∧ Below w.heap.size w wr
theorem run_stop {s rest x : List UInt8} {l : List Int} {r : Int} (e : s = encBs l ++ rest) (hl : nmL l = true) (hr : chB r = true) (hx : rest = encB r ++ x) (hg : goes l r = false) : Run s l rest :=
  ⟨e, hl, fun r' x' hr' e' => by
    obtain ⟨rfl, _⟩ := encB_inj hr hr' (hx.symm.trans e')
    exact hg⟩
theorem run_none {s rest : List UInt8} {l : List Int} (e : s = encBs l ++ rest) (hl : nmL l = true) (hb : ¬ Begins rest) : Run s l rest :=
  ⟨e, hl, fun r x hr hx => absurd ⟨r, x, hr, hx⟩ hb⟩
theorem begins_nil : ¬ Begins [] := by
  rintro ⟨r, x, _, e⟩
  have := congrArg List.length e
  have hp := encB_pos r
  rw [List.length_append] at this; simp at this
  omega
theorem goes_cons {l : List Int} (h : l ≠ []) (r : Int) : goes l r = staB r := by
  cases l with
  | nil => exact absurd rfl h
  | cons _ _ => rfl
theorem nonempty_tests {S : ByteArray} (h : S.data.toList ≠ []) : (S.toList == []) = false ∧ S.toList.isEmpty = false := by
  rw [Lib.toList_data]
  refine ⟨by simpa using h, by simpa using h⟩
end Go.Proofs.YtalcmhngebobnaaDoor
