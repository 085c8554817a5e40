/-
  NameJoins walked. Conditions: the tables lie as they are laid; each text is one that a machine holds.
-/
import Derived.Test.YthgffefdgjglmaaDoorNAwake
namespace Go.Proofs.YthgffefdgjglmaaDoor
open Go.RowKit
set_option linter.unusedVariables false
theorem ba_add (A B : ByteArray) : (A ++ B).data.toList = A.data.toList ++ B.data.toList := by simp
theorem ba_add_size (A B : ByteArray) : (A ++ B).size = A.size + B.size := by rw [ba_size, ba_add, List.length_append, ← ba_size, ← ba_size]
theorem reach_size {S : ByteArray} (h : S.data.toList.length ≤ reachBytes) : S.size ≤ 140737488355328 := by
  rw [ba_size]; unfold reachBytes at h; omega
/-- Two names with a colon between are a full name, of them. -/
theorem full_two {A B : ByteArray} (ha : nmB A.data.toList = true) (hb : nmB B.data.toList = true) : Full (A ++ ⟨#[58]⟩ ++ B).data.toList A.data.toList B.data.toList :=
  .inr ⟨nmB_iff.1 ha, nmB_iff.1 hb, by rw [ba_add, ba_add]; simp⟩
theorem full_none (A B C : ByteArray) (p l : List UInt8) : ¬ Full (A ++ ⟨#[58]⟩ ++ B ++ ⟨#[58]⟩ ++ C).data.toList p l := by
  have e : (A ++ ⟨#[58]⟩ ++ B ++ ⟨#[58]⟩ ++ C).data.toList = A.data.toList ++ 58 :: (B.data.toList ++ 58 :: C.data.toList) := by
    rw [ba_add, ba_add, ba_add, ba_add]; simp
  rw [e]; exact full_three
set_option maxHeartbeats 4000000 in
theorem joins_law (A B C : ByteArray) (hA : A.size ≤ 140737488355328) (hB : B.size ≤ 140737488355328) (hC : C.size ≤ 140737488355328) (w : World) (hT : NTabs w) :
    Calls Tryd.prog 5 #[.string A, .string B, .string C] w fun e w' => e = .returned (.bool true) ∧ Below w.heap.size w w' := by
  have h5 := hT.five
  have HT := Lib.hid hT
  have HA := Lib.hid (awake_any w hT)
  clear hT
  by_cases hn : 300 < A.size + B.size + C.size
  · have hz : (300 : Int) < (A.size : Int) + (B.size : Int) + (C.size : Int) := by omega
    go_enter Tryd.func5, Tryd.ntmps5
    go_wp2_with fail
    refine HA.out.mono ?_
    rintro e w1 ⟨rfl, hb1⟩
    go_wp2_with fail
    refine (awake_any w1 (HT.out.below h5 hb1)).mono ?_
    rintro e w2 ⟨rfl, hb2⟩
    go_wp2
    go_ret
    exact ⟨rfl, hb1.trans (hb2.mono hb1.size)⟩
  · have hz : ¬ (300 : Int) < (A.size : Int) + (B.size : Int) + (C.size : Int) := by omega
    have hz1 := decide_eq_false hz
    obtain ⟨S2, hS2⟩ : ∃ S2, A ++ ⟨#[58]⟩ ++ B = S2 := ⟨_, rfl⟩
    obtain ⟨S3, hS3⟩ : ∃ S3, S2 ++ ⟨#[58]⟩ ++ C = S3 := ⟨_, rfl⟩
    have l2 : S2.size = A.size + 1 + B.size := by rw [← hS2, ba_add_size, ba_add_size]; rfl
    have l3 : S3.size = S2.size + 1 + C.size := by rw [← hS3, ba_add_size, ba_add_size]; rfl
    have H2 : Hid (∀ W, NTabs W → Calls Tryd.prog 13 #[.string S2] W fun e w' => SplitAns S2 e ∧ Below W.heap.size W w') := fun W h => split_any S2 (by omega) W h
    have H3 : Hid (∀ W, NTabs W → Calls Tryd.prog 13 #[.string S3] W fun e w' => e = .returned (.tuple #[.string ⟨#[]⟩, .string ⟨#[]⟩, .bool false]) ∧ Below W.heap.size W w') := fun W h => by
      refine (split_any S3 (by omega) W h).mono ?_
      rintro e w' ⟨⟨P, L, hf, _⟩ | ⟨_, rfl⟩, hb⟩
      · rw [← hS3, ← hS2] at hf
        exact absurd hf (full_none A B C _ _)
      · exact ⟨rfl, hb⟩
    have HF : Hid (nmB A.data.toList = true → nmB B.data.toList = true → Full S2.data.toList A.data.toList B.data.toList) := fun h1 h2 => by rw [← hS2]; exact full_two h1 h2
    have HRA := Lib.hid (refIs_any A (by omega))
    have HRB := Lib.hid (refIs_any B (by omega))
    have m2 : S2.size ≤ 302 := by omega
    have m3 : S3.size ≤ 302 := by omega
    clear l2 l3
    go_enter Tryd.func5, Tryd.ntmps5
    go_wp2_with fail
    refine HA.out.mono ?_
    rintro e w1 ⟨rfl, hb1⟩
    go_wp2_with fail
    refine (H2.out w1 (HT.out.below h5 hb1)).mono ?_
    rintro e w2 ⟨hsp, hb2⟩
    have hbw := hb1.trans (hb2.mono hb1.size)
    clear hb1 hb2 H2
    rcases hsp with ⟨P, L, hf, _, _, rfl⟩ | ⟨hno, rfl⟩
    · have HP := Lib.hid hf
      clear hf
      go_wp2_with fail
      refine (H3.out w2 (HT.out.below h5 hbw)).mono ?_
      rintro e w3 ⟨rfl, hb3⟩
      have hbx := hbw.trans (hb3.mono hbw.size)
      clear hbw hb3 H3
      go_wp2_with fail
      refine (HRA.out w3).mono ?_
      rintro e w4 ⟨rfl, hb4⟩
      have hby := hbx.trans (hb4.mono hbx.size)
      clear hbx hb4
      cases hqa : nmB A.data.toList with
      | false =>
        go_wp2
        go_ret
        exact ⟨rfl, hby⟩
      | true =>
        have HQA := Lib.hid hqa
        clear hqa
        go_wp2_with fail
        refine (HRB.out w4).mono ?_
        rintro e w5 ⟨rfl, hb5⟩
        have hbz := hby.trans (hb5.mono hby.size)
        clear hby hb5
        cases hqb : nmB B.data.toList with
        | false =>
          go_wp2
          go_ret
          exact ⟨rfl, hbz⟩
        | true =>
          obtain ⟨rfl, rfl⟩ := full_same HP.out (HF.out HQA.out hqb)
          clear hqb HP HF HQA HRA HRB hS2 hS3
          go_wp2
          go_ret
          exact ⟨rfl, hbz⟩
    · have HNO := Lib.hid hno
      clear hno
      go_wp2_with fail
      refine (H3.out w2 (HT.out.below h5 hbw)).mono ?_
      rintro e w3 ⟨rfl, hb3⟩
      have hbx := hbw.trans (hb3.mono hbw.size)
      clear hbw hb3 H3
      go_wp2_with fail
      refine (HRA.out w3).mono ?_
      rintro e w4 ⟨rfl, hb4⟩
      have hby := hbx.trans (hb4.mono hbx.size)
      clear hbx hb4
      cases hqa : nmB A.data.toList with
      | false =>
        go_wp2
        go_ret
        exact ⟨rfl, hby⟩
      | true =>
        have HQA := Lib.hid hqa
        clear hqa
        go_wp2_with fail
        refine (HRB.out w4).mono ?_
        rintro e w5 ⟨rfl, hb5⟩
        have hbz := hby.trans (hb5.mono hby.size)
        clear hby hb5
        cases hqb : nmB B.data.toList with
        | false =>
          go_wp2
          go_ret
          exact ⟨rfl, hbz⟩
        | true => exact absurd (HF.out HQA.out hqb) (HNO.out _ _)
end Go.Proofs.YthgffefdgjglmaaDoor
