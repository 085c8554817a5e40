/-
  CharsLines walked. Conditions: the tables lie as they are laid, internal/bytealg.MaxLen holds some number.
-/
import Derived.Test.YtmbmobjlmbjkpaaDoorCAwake
namespace Go.Proofs.YtmbmobjlmbjkpaaDoor
open Go.RowKit
set_option linter.unusedVariables false
set_option maxHeartbeats 2000000 in
theorem lines_law (S : ByteArray) (w : World) (hW : Wd w) : Calls Tryd.prog 3 #[.string S] w fun e w' => e = .returned (.bool true) ∧ Below w.heap.size w w' := by
  have HW := Lib.hid hW
  have HA := Lib.hid (awake_any w hW)
  clear hW
  by_cases hn : 1000 < S.size
  · have hz : (1000 : Int) < (S.size : Int) := by omega
    go_enter Tryd.func3, Tryd.ntmps3
    go_wp2_with fail
    refine HA.out.mono ?_
    rintro e w1 ⟨rfl, hb1⟩
    go_wp2_with fail
    refine (awake_any w1 (HW.out.later hb1)).mono ?_
    rintro e w2 ⟨rfl, hb2⟩
    go_wp2
    go_ret
    exact ⟨rfl, hb1.trans (hb2.mono hb1.size)⟩
  · have hz : ¬ (1000 : Int) < (S.size : Int) := by omega
    have hz1 := decide_eq_false hz
    obtain ⟨T, hT⟩ : ∃ T : ByteArray, ⟨(linesL S.data.toList).toArray⟩ = T := ⟨_, rfl⟩
    have H1 := Lib.hid (lines_any S (by omega))
    have H2 := Lib.hid (refLines_any S (by omega))
    rw [hT] at H1 H2
    have hTl : T.data.toList = linesL S.data.toList := by rw [← hT]
    have hTs : T.size ≤ 1000 := by
      rw [ba_size, hTl]
      have := lines_le S.data.toList
      rw [← ba_size] at this
      omega
    have H3 : Hid (∀ w, Calls Tryd.prog 8 #[.string T] w fun e w' => e = .returned (.string T) ∧ Below w.heap.size w w') := fun w => by
      have h := lines_any T (by omega) w
      have e : (⟨(linesL T.data.toList).toArray⟩ : ByteArray) = T := by rw [hTl, lines_lines, ← hTl, ba_of]
      rwa [e] at h
    clear hT hTl
    go_enter Tryd.func3, Tryd.ntmps3
    go_wp2_with fail
    refine HA.out.mono ?_
    rintro e w1 ⟨rfl, hb1⟩
    go_wp2_with fail
    refine (H1.out w1).mono ?_
    rintro e w2 ⟨rfl, hb2⟩
    have hbx := hb1.trans (hb2.mono hb1.size)
    clear hb1 hb2
    go_wp2_with fail
    refine (H2.out w2).mono ?_
    rintro e w3 ⟨rfl, hb3⟩
    have hby := hbx.trans (hb3.mono hbx.size)
    clear hbx hb3
    go_wp2_with fail
    refine (H3.out w3).mono ?_
    rintro e w4 ⟨rfl, hb4⟩
    go_wp2
    go_ret
    exact ⟨rfl, hby.trans (hb4.mono hby.size)⟩
end Go.Proofs.YtmbmobjlmbjkpaaDoor
