/-
  NameTrims walked. Conditions: the tables lie as they are laid.
-/
import Derived.Test.YthgffefdgjglmaaDoorNAwake
namespace Go.Proofs.YthgffefdgjglmaaDoor
open Go.RowKit
set_option linter.unusedVariables false
theorem trimS_trimS (S : ByteArray) : trimS (trimS S) = trimS S := ba_ext (by rw [trimS_list, trimS_list, trim_trim])
set_option maxHeartbeats 2000000 in
theorem trims_law (S : ByteArray) (c : Int) (w : World) (hT : NTabs w) : Calls Tryd.prog 6 #[.string S, .int .u8 c] w fun e w' => e = .returned (.bool true) ∧ Below w.heap.size w w' := by
  have h5 := hT.five
  have HT := Lib.hid hT
  have HA := Lib.hid (awake_any w hT)
  clear hT
  by_cases hn : 500 < S.size
  · have hz : (500 : Int) < (S.size : Int) := by omega
    go_enter Tryd.func6, Tryd.ntmps6
    go_wp2_with fail
    refine HA.out.mono ?_
    rintro e w1 ⟨rfl, hb1⟩
    go_wp2_with fail
    refine (awake_any w1 (HT.out.below h5 hb1)).mono ?_
    rintro e w2 ⟨rfl, hb2⟩
    go_wp2
    go_ret
    exact ⟨rfl, hb1.trans (hb2.mono hb1.size)⟩
  · have hz : ¬ (500 : Int) < (S.size : Int) := by omega
    have hz1 := decide_eq_false hz
    obtain ⟨R, hR⟩ : ∃ R, trimS S = R := ⟨_, rfl⟩
    have hRs : R.size ≤ 500 := by rw [← hR]; have := trim_le S; omega
    obtain ⟨B, hB⟩ : ∃ B, blkZ c = B := ⟨_, rfl⟩
    have H1 : Hid (∀ W, Calls Tryd.prog 17 #[.string S] W fun e w' => e = .returned (.string R) ∧ Below W.heap.size W w') := fun W => by rw [← hR]; exact trim_any S (by omega) W
    have H2 : Hid (∀ W, Calls Tryd.prog 18 #[.string S] W fun e w' => e = .returned (.string R) ∧ Below W.heap.size W w') := fun W => by rw [← hR]; exact refTrim_any S (by omega) W
    have H3 : Hid (∀ W, Calls Tryd.prog 17 #[.string R] W fun e w' => e = .returned (.string R) ∧ Below W.heap.size W w') := fun W => by
      have h := trim_any R (by omega) W
      rwa [← hR, trimS_trimS, hR] at h
    have H4 : Hid (∀ W, Calls Tryd.prog 19 #[.int .u8 c] W fun e w' => e = .returned (.bool B) ∧ w' = W) := fun W => by rw [← hB]; exact blank_any c W
    have H5 : Hid (∀ W, Calls Tryd.prog 20 #[.int .u8 c] W fun e w' => e = .returned (.bool B) ∧ w' = W) := fun W => by rw [← hB]; exact refBlank_any c W
    have hBB : (B == B) = true := by simp
    clear hR hRs hB
    go_enter Tryd.func6, Tryd.ntmps6
    go_wp2_with fail
    refine HA.out.mono ?_
    rintro e w1 ⟨rfl, hb1⟩
    go_wp2_with fail
    refine (H1.out w1).mono ?_
    rintro e w2 ⟨rfl, hb2⟩
    have hbw := hb1.trans (hb2.mono hb1.size)
    clear hb1 hb2
    go_wp2_with fail
    refine (H2.out w2).mono ?_
    rintro e w3 ⟨rfl, hb3⟩
    have hbx := hbw.trans (hb3.mono hbw.size)
    clear hbw hb3
    go_wp2_with fail
    refine (H3.out w3).mono ?_
    rintro e w4 ⟨rfl, hb4⟩
    have hby := hbx.trans (hb4.mono hbx.size)
    clear hbx hb4
    go_wp2_with fail
    refine (H4.out w4).mono ?_
    rintro e w5 ⟨rfl, hw⟩
    rw [hw]
    clear hw
    go_wp2_with fail
    refine (H5.out w4).mono ?_
    rintro e w5 ⟨rfl, hw⟩
    rw [hw]
    go_wp2
    go_ret
    exact ⟨rfl, hby⟩
end Go.Proofs.YthgffefdgjglmaaDoor
