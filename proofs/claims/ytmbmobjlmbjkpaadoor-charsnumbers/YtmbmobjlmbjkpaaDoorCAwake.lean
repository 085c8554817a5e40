/-
  The laws' own look whether the program does anything. Conditions: the tables lie as they are laid, internal/bytealg.MaxLen holds some number.
-/
import Derived.Test.YtmbmobjlmbjkpaaDoorCCont
import Derived.Test.YtmbmobjlmbjkpaaDoorCLines
namespace Go.Proofs.YtmbmobjlmbjkpaaDoor
open Go.RowKit
set_option linter.unusedVariables false
theorem cont_a : contL [97, 38, 35, 120, 52, 49, 59, 38, 108, 116, 59] = some [97, 65, 60] := by
  have he : ¬ ends [97, 38, 35, 120, 52, 49, 59, 38, 108, 116, 59] := fun h => by
    have := (index_iff _).2 h
    revert this
    decide
  rw [cont_rep he, rep_txt (txt_plain (by decide))]
  decide
theorem lines_a : linesL [97, 13, 10, 98, 13] = [97, 10, 98, 10] := by decide
/-- What is answered is told by what is to be answered. -/
theorem Ans.form (o : Option (List UInt8)) : ∃ (Y : ByteArray) (B : Bool), ∀ e, Ans o e → e = .returned (.tuple #[.string Y, .bool B]) := by
  cases o with
  | none => exact ⟨⟨#[]⟩, false, fun e h => by
      rcases h with ⟨Y, h, _⟩ | ⟨_, rfl⟩
      · cases h
      · rfl⟩
  | some l => exact ⟨⟨l.toArray⟩, true, fun e h => by
      rcases h with ⟨Y, h, rfl⟩ | ⟨h, _⟩
      · injection h with h
        rw [h, ba_of]
      · cases h⟩
theorem Ans.some_form {l : List UInt8} {Y : ByteArray} {e : Ending} (h : Ans (some l) e) (hY : Y.data.toList = l) : e = .returned (.tuple #[.string Y, .bool true]) := by
  rcases h with ⟨Z, h, rfl⟩ | ⟨h, _⟩
  · injection h with h
    rw [ba_ext (hY.trans h)]
  · cases h
theorem Ans.none_form {e : Ending} (h : Ans none e) : e = .returned (.tuple #[.string ⟨#[]⟩, .bool false]) := by
  rcases h with ⟨Z, h, rfl⟩ | ⟨_, rfl⟩
  · cases h
  · rfl
set_option maxHeartbeats 2000000 in
theorem awake_any (w : World) (hW : Wd w) : Calls Tryd.prog 7 #[] w fun e w' => e = .returned (.bool true) ∧ Below w.heap.size w w' := by
  have HC : Hid (Calls Tryd.prog 10 #[.string ⟨#[97, 38, 35, 120, 52, 49, 59, 38, 108, 116, 59]⟩] w fun e w' => e = .returned (.tuple #[.string ⟨#[97, 65, 60]⟩, .bool true]) ∧ Below w.heap.size w w') := by
    refine (content_any ⟨#[97, 38, 35, 120, 52, 49, 59, 38, 108, 116, 59]⟩ (by show 11 ≤ 100000; omega) w hW).mono ?_
    rintro e w' ⟨h, hb⟩
    rw [show contL (⟨#[97, 38, 35, 120, 52, 49, 59, 38, 108, 116, 59]⟩ : ByteArray).data.toList = some [97, 65, 60] from cont_a] at h
    exact ⟨h.some_form rfl, hb⟩
  have HL : Hid (∀ w, Calls Tryd.prog 8 #[.string ⟨#[97, 13, 10, 98, 13]⟩] w fun e w' => e = .returned (.string ⟨#[97, 10, 98, 10]⟩) ∧ Below w.heap.size w w') := fun w => by
    have h := lines_any ⟨#[97, 13, 10, 98, 13]⟩ (by show 5 ≤ 100000; omega) w
    rw [show linesL (⟨#[97, 13, 10, 98, 13]⟩ : ByteArray).data.toList = [97, 10, 98, 10] from lines_a] at h
    exact h
  clear hW
  go_enter Tryd.func7, Tryd.ntmps7
  go_wp2_with fail
  refine HC.out.mono ?_
  rintro e w1 ⟨rfl, hb1⟩
  go_wp2_with fail
  refine (HL.out w1).mono ?_
  rintro e w2 ⟨rfl, hb2⟩
  go_wp2
  go_ret
  exact ⟨rfl, hb1.trans (hb2.mono hb1.size)⟩
end Go.Proofs.YtmbmobjlmbjkpaaDoor
