/-
  NameIs walked. Conditions: the tables lie as they are laid.
-/
import Derived.Test.YthgffefdgjglmaaDoorNAwake
namespace Go.Proofs.YthgffefdgjglmaaDoor
open Go.RowKit
set_option linter.unusedVariables false
set_option maxHeartbeats 2000000 in
theorem is_law (S : ByteArray) (w : World) (hT : NTabs w) : Calls Tryd.prog 4 #[.string S] w fun e w' => e = .returned (.bool true) ∧ Below w.heap.size w w' := by
  have h5 := hT.five
  have HT := Lib.hid hT
  have HA := Lib.hid (awake_any w hT)
  clear hT
  by_cases hn : 500 < S.size
  · have hz : (500 : Int) < (S.size : Int) := by omega
    go_enter Tryd.func4, Tryd.ntmps4
    go_wp2_with fail
    refine HA.out.mono ?_
    rintro e w1 ⟨rfl, hb1⟩
    go_wp2_with fail
    refine (awake_any w1 (HT.out.below h5 hb1)).mono ?_
    rintro e w2 ⟨rfl, hb2⟩
    go_wp2
    go_ret
    exact ⟨rfl, hb1.trans (hb2.mono hb1.size)⟩
  · have hz : ¬ (500 : Int) < (S.size : Int) := by omega
    have hz1 := decide_eq_false hz
    have hlen : S.size ≤ 100000 := by omega
    obtain ⟨B, hB⟩ : ∃ B, nmB S.data.toList = B := ⟨_, rfl⟩
    have H1 : Hid (∀ W, NTabs W → Calls Tryd.prog 13 #[.string S] W fun e w' => SplitAns S e ∧ Below W.heap.size W w') := fun W h => split_any S hlen W h
    have H2 : Hid (∀ W, Calls Tryd.prog 14 #[.string S] W fun e w' => SplitAns S e ∧ Below W.heap.size W w') := fun W => refSplit_any S hlen W
    have H3 : Hid (∀ W, NTabs W → Calls Tryd.prog 15 #[.string S] W fun e w' => e = .returned (.bool B) ∧ Below W.heap.size W w') := fun W h => by rw [← hB]; exact is_any S hlen W h
    have H4 : Hid (∀ W, Calls Tryd.prog 16 #[.string S] W fun e w' => e = .returned (.bool B) ∧ Below W.heap.size W w') := fun W => by rw [← hB]; exact refIs_any S hlen W
    have hBB : (B == B) = true := by simp
    clear hB
    go_enter Tryd.func4, Tryd.ntmps4
    go_wp2_with fail
    refine HA.out.mono ?_
    rintro e w1 ⟨rfl, hb1⟩
    go_wp2_with fail
    refine (H1.out w1 (HT.out.below h5 hb1)).mono ?_
    rintro e w2 ⟨hsp, hb2⟩
    have hbw := hb1.trans (hb2.mono hb1.size)
    clear hb1 hb2
    rcases hsp with ⟨P, L, hf, _, _, rfl⟩ | ⟨hno, rfl⟩
    · have HF := Lib.hid hf
      clear hf
      go_wp2_with fail
      refine (H2.out w2).mono ?_
      rintro e w3 ⟨⟨P', L', hf', _, _, rfl⟩ | ⟨hno, _⟩, hb3⟩
      · obtain ⟨rfl, rfl⟩ := full_same HF.out hf'
        have hbx := hbw.trans (hb3.mono hbw.size)
        clear hbw hb3 hf' HF
        go_wp2_with fail
        refine (H3.out w3 (HT.out.below h5 hbx)).mono ?_
        rintro e w4 ⟨rfl, hb4⟩
        have hby := hbx.trans (hb4.mono hbx.size)
        clear hbx hb4
        go_wp2_with fail
        refine (H4.out w4).mono ?_
        rintro e w5 ⟨rfl, hb5⟩
        have hbz := hby.trans (hb5.mono hby.size)
        clear hby hb5
        go_wp2
        go_ret
        exact ⟨rfl, hbz⟩
      · exact absurd HF.out (hno _ _)
    · have HNO := Lib.hid hno
      clear hno
      go_wp2_with fail
      refine (H2.out w2).mono ?_
      rintro e w3 ⟨⟨P', L', hf', _, _, _⟩ | ⟨_, rfl⟩, hb3⟩
      · exact absurd hf' (HNO.out _ _)
      · have hbx := hbw.trans (hb3.mono hbw.size)
        clear hbw hb3 HNO
        go_wp2_with fail
        refine (H3.out w3 (HT.out.below h5 hbx)).mono ?_
        rintro e w4 ⟨rfl, hb4⟩
        have hby := hbx.trans (hb4.mono hbx.size)
        clear hbx hb4
        go_wp2_with fail
        refine (H4.out w4).mono ?_
        rintro e w5 ⟨rfl, hb5⟩
        have hbz := hby.trans (hb5.mono hby.size)
        clear hby hb5
        go_wp2
        go_ret
        exact ⟨rfl, hbz⟩
end Go.Proofs.YthgffefdgjglmaaDoor
