/-
  BaseDecodes walked: what a text is read as. Conditions: none.
-/
import Derived.Test.YthadagnebnakhaaBAwake
namespace Go.Proofs.Ythadagnebnakhaa
open Go.RowKit
set_option linter.unusedVariables false
theorem bytes_same (S : ByteArray) : (S.toList == S.toList) = true := by simp
set_option maxHeartbeats 2000000 in
theorem decodes_any (S : ByteArray) (w : World) :
    Calls Try.prog 4 #[.string S] w fun e w' => e = .returned (.bool true) ∧ Below w.heap.size w w' := by
  have HAW := Lib.hid awake_any
  obtain ⟨n, hN⟩ : ∃ n, S.size = n := ⟨_, rfl⟩
  by_cases hn : 400 < n
  · have hz : (400 : Int) < (n : Int) := by omega
    go_enter Try.func4, Try.ntmps4
    go_wp2_with fail
    refine (HAW.out w).mono ?_
    rintro e w1 ⟨rfl, hb1⟩
    go_wp2_with fail
    refine (HAW.out w1).mono ?_
    rintro e w2 ⟨rfl, hb2⟩
    go_wp2
    go_ret
    exact ⟨rfl, hb1.trans (hb2.mono hb1.size)⟩
  · have hz : ¬ (400 : Int) < (n : Int) := by omega
    have hz1 := decide_eq_false hz
    obtain ⟨s, hs⟩ : ∃ s : List UInt8, (⟨s.toArray⟩ : ByteArray) = S := ⟨S.data.toList, by simp⟩
    have hsl : s.length = n := by rw [← hN, ← hs]; rfl
    have HD : Hid (∀ W, Calls Try.prog 10 #[.string S] W fun e w' => DecAns W.heap.size s e w' ∧ Below W.heap.size W w') := fun W => by rw [← hs]; exact decode_any s W (by omega)
    have HR : Hid (∀ W, Calls Try.prog 12 #[.string S] W fun e w' => DecAns W.heap.size s e w' ∧ Below W.heap.size W w') := fun W => by rw [← hs]; exact refdec_any s W (by omega)
    clear hs hsl
    go_enter Try.func4, Try.ntmps4
    go_wp2_with fail
    refine (HAW.out w).mono ?_
    rintro e w1 ⟨rfl, hb1⟩
    go_wp2_with fail
    refine (HD.out w1).mono ?_
    rintro e w2 ⟨hd1, hb2⟩
    have hb12 := hb1.trans (hb2.mono hb1.size)
    rcases hd1 with ⟨b, v, hdb, rfl, hown⟩ | ⟨hdb, rfl⟩
    · obtain ⟨A1, cap1, hv, _, _, _, hli⟩ := own_full hown rfl
      subst hv
      have HL := Lib.hid hli
      have HDB := Lib.hid hdb
      clear hown hli hdb
      go_wp2_with fail
      refine (HR.out w2).mono ?_
      rintro e w3 ⟨hd2, hb3⟩
      have hb123 := hb12.trans (hb3.mono hb12.size)
      rcases hd2 with ⟨b2, v2, hdb2, rfl, hown2⟩ | ⟨hdb2, _⟩
      · rw [HDB.out] at hdb2
        injection hdb2 with hdb2
        subst hdb2
        obtain ⟨A2, cap2, hv2, _, _, _, hli2⟩ := own_full hown2 rfl
        subst hv2
        have hc1 := conv_lies cap1 (HL.out.below hb3 (Nat.le_refl _))
        have hc2 := conv_lies cap2 hli2
        generalize b.length = m at *
        generalize (⟨b.toArray⟩ : ByteArray) = E at *
        clear hown2 hli2 HL HDB HD HR HAW
        go_wp2
        go_ret
        exact ⟨rfl, hb123⟩
      · rw [HDB.out] at hdb2; cases hdb2
    · have HDB := Lib.hid hdb
      clear hdb
      go_wp2_with fail
      refine (HR.out w2).mono ?_
      rintro e w3 ⟨hd2, hb3⟩
      have hb123 := hb12.trans (hb3.mono hb12.size)
      rcases hd2 with ⟨b2, v2, hdb2, _⟩ | ⟨_, rfl⟩
      · rw [HDB.out] at hdb2; cases hdb2
      · have hc1 := conv_lies (w := w3) (A := none) (bs := []) 0 (fun h => absurd rfl h)
        change (convert 22 9 (.slice none 0 0)).run Try.prog w3 = .ok (.string ⟨#[]⟩) w3 at hc1
        clear HDB HD HR HAW
        go_wp2
        go_ret
        exact ⟨rfl, hb123⟩
end Go.Proofs.Ythadagnebnakhaa
