/-
  CharsReads walked. Conditions: the tables lie as they are laid, internal/bytealg.MaxLen holds some number.
-/
import Derived.Test.YtmbmobjlmbjkpaaDoorCAwake
namespace Go.Proofs.YtmbmobjlmbjkpaaDoor
open Go.RowKit
set_option linter.unusedVariables false
set_option maxHeartbeats 2000000 in
theorem reads_law (S : ByteArray) (w : World) (hW : Wd w) : Calls Tryd.prog 4 #[.string S] w fun e w' => e = .returned (.bool true) ∧ Below w.heap.size w w' := by
  have HW := Lib.hid hW
  have HA := Lib.hid (awake_any w hW)
  clear hW
  by_cases hn : 1000 < S.size
  · have hz : (1000 : Int) < (S.size : Int) := by omega
    go_enter Tryd.func4, Tryd.ntmps4
    go_wp2_with fail
    refine HA.out.mono ?_
    rintro e w1 ⟨rfl, hb1⟩
    go_wp2_with fail
    refine (awake_any w1 (HW.out.later hb1)).mono ?_
    rintro e w2 ⟨rfl, hb2⟩
    go_wp2
    go_ret
    exact ⟨rfl, hb1.trans (hb2.mono hb1.size)⟩
  · have hz : ¬ (1000 : Int) < (S.size : Int) := by omega
    have hz1 := decide_eq_false hz
    obtain ⟨Y, B, hYB⟩ := Ans.form (contL S.data.toList)
    obtain ⟨Z, C, hZC⟩ := Ans.form (valL S.data.toList)
    have H1 : Hid (∀ W, Wd W → Calls Tryd.prog 10 #[.string S] W fun e w' => e = .returned (.tuple #[.string Y, .bool B]) ∧ Below W.heap.size W w') := fun W h => (content_any S (by omega) W h).mono fun e w' ⟨h1, h2⟩ => ⟨hYB e h1, h2⟩
    have H2 : Hid (∀ W, Wd W → Calls Tryd.prog 11 #[.string S] W fun e w' => e = .returned (.tuple #[.string Z, .bool C]) ∧ Below W.heap.size W w') := fun W h => (value_any S (by omega) W h).mono fun e w' ⟨h1, h2⟩ => ⟨hZC e h1, h2⟩
    have H3 : Hid (∀ W, Calls Tryd.prog 12 #[.string S] W fun e w' => e = .returned (.tuple #[.string Y, .bool B]) ∧ Below W.heap.size W w') := fun W => (refContent_any S (by omega) W).mono fun e w' ⟨h1, h2⟩ => ⟨hYB e h1, h2⟩
    have H4 : Hid (∀ W, Calls Tryd.prog 13 #[.string S] W fun e w' => e = .returned (.tuple #[.string Z, .bool C]) ∧ Below W.heap.size W w') := fun W => (refValue_any S (by omega) W).mono fun e w' ⟨h1, h2⟩ => ⟨hZC e h1, h2⟩
    have hBB : (B == B) = true := by simp
    have hCC : (C == C) = true := by simp
    clear hYB hZC
    go_enter Tryd.func4, Tryd.ntmps4
    go_wp2_with fail
    refine HA.out.mono ?_
    rintro e w1 ⟨rfl, hb1⟩
    go_wp2_with fail
    refine (H1.out w1 (HW.out.later hb1)).mono ?_
    rintro e w2 ⟨rfl, hb2⟩
    have hbx := hb1.trans (hb2.mono hb1.size)
    clear hb1 hb2
    go_wp2_with fail
    refine (H2.out w2 (HW.out.later hbx)).mono ?_
    rintro e w3 ⟨rfl, hb3⟩
    have hby := hbx.trans (hb3.mono hbx.size)
    clear hbx hb3
    go_wp2_with fail
    refine (H3.out w3).mono ?_
    rintro e w4 ⟨rfl, hb4⟩
    have hbz := hby.trans (hb4.mono hby.size)
    clear hby hb4
    go_wp2_with fail
    refine (H4.out w4).mono ?_
    rintro e w5 ⟨rfl, hb5⟩
    have hbu := hbz.trans (hb5.mono hbz.size)
    clear hbz hb5
    go_wp2
    go_ret
    exact ⟨rfl, hbu⟩
end Go.Proofs.YtmbmobjlmbjkpaaDoor
