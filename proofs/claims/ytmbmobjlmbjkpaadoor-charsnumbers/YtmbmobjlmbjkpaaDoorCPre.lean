/-
  A text without what it begins with: strings.CutPrefix. Conditions: none.
-/
import Derived.Test.YtmbmobjlmbjkpaaDoorCText
import Derived.Shelf.Small.Wraps
namespace Go.Proofs.YtmbmobjlmbjkpaaDoor
open Go.RowKit Go.Shelf
set_option linter.unusedVariables false
/-- Where the library's functions and types lie in this program. -/
def renP : Ren := {
  f := fun x => match x with | 103 => 32 | 206 => 50 | 210 => 42 | n => n
  t := fun x => match x with | 9 => 9 | 3 => 3 | 4 => 4 | 24 => 25 | n => n
  g := fun x => x }
theorem laysP : Lays.n103 Tryd.prog renP := { mixed := rfl, f103 := Tryd.func32.trans (congrArg some rfl), f206 := Tryd.func50.trans (congrArg some rfl), f210 := Tryd.func42.trans (congrArg some rfl), t3 := Tryd.underlying3, a3 := Tryd.isAgg3, z3 := Tryd.sizeOf3, v3 := Tryd.zeroValue3, t4 := Tryd.underlying4, a4 := Tryd.isAgg4, z4 := Tryd.sizeOf4, v4 := Tryd.zeroValue4, t9 := Tryd.underlying9, a9 := Tryd.isAgg9, z9 := Tryd.sizeOf9, v9 := Tryd.zeroValue9, t24 := Tryd.underlying25, a24 := Tryd.isAgg25, z24 := Tryd.sizeOf25, v24 := Tryd.zeroValue25 }
/-- It begins so. -/
theorem pre_hit (S R p : ByteArray) (h : S.data.toList = p.data.toList ++ R.data.toList) (w : World) : Calls Tryd.prog 32 #[.string S, .string p] w fun e w' => e = .returned (.tuple #[.string R, .bool true]) ∧ w' = w := by
  have hp : Lib.hasPrefix S.data.toList p.data.toList = true := by
    unfold Lib.hasPrefix
    rw [List.isPrefixOf_iff_prefix, h]; exact List.prefix_append _ _
  have h1 := Any.strings_CutPrefix laysP S p w
  have e1 : (⟨(Lib.trimPrefix S.data.toList p.data.toList).toArray⟩ : ByteArray) = R := by
    unfold Lib.trimPrefix
    rw [if_pos hp, h, List.drop_left, ba_of]
  rw [hp, e1] at h1
  exact h1
/-- It begins otherwise. -/
theorem pre_miss (S p : ByteArray) (h : ¬ ∃ r, S.data.toList = p.data.toList ++ r) (w : World) : Calls Tryd.prog 32 #[.string S, .string p] w fun e w' => e = .returned (.tuple #[.string S, .bool false]) ∧ w' = w := by
  have hp : Lib.hasPrefix S.data.toList p.data.toList = false := by
    cases hq : Lib.hasPrefix S.data.toList p.data.toList with
    | false => rfl
    | true =>
      unfold Lib.hasPrefix at hq
      rw [List.isPrefixOf_iff_prefix] at hq
      obtain ⟨r, hr⟩ := hq
      exact absurd ⟨r, hr.symm⟩ h
  have h1 := Any.strings_CutPrefix laysP S p w
  have e1 : (⟨(Lib.trimPrefix S.data.toList p.data.toList).toArray⟩ : ByteArray) = S := by
    unfold Lib.trimPrefix
    rw [hp, if_neg (by simp), ba_of]
  rw [hp, e1] at h1
  exact h1
end Go.Proofs.YtmbmobjlmbjkpaaDoor
