/-
  CharsParts walked. Conditions: the tables lie as they are laid, internal/bytealg.MaxLen holds some number; each text is one that a machine holds.
-/
import Derived.Test.YtmbmobjlmbjkpaaDoorCAwake
namespace Go.Proofs.YtmbmobjlmbjkpaaDoor
open Go.RowKit
set_option linter.unusedVariables false
theorem reach_size {S : ByteArray} (h : S.data.toList.length ≤ reachBytes) : S.size ≤ 140737488355328 := by
  rw [ba_size]; unfold reachBytes at h; omega
/-- With its references replaced a text is at most four times as long. -/
theorem expS_len {b : Bool} : ∀ {s : List UInt8} {st : Option (List UInt8)} {a : List UInt8}, expS b st s = some a → a.length ≤ 4 * s.length := by
  intro s
  induction s with
  | nil =>
    intro st a h
    cases st with
    | none => injection h with h; subst h; simp
    | some p => cases h
  | cons c r ih =>
    intro st a h
    rw [List.length_cons]
    cases st with
    | none =>
      rw [expS] at h
      split at h
      · cases h
      · split at h
        · have := ih h; omega
        · cases hx : expS b none r with
          | none => rw [hx] at h; cases h
          | some x =>
            rw [hx] at h
            injection h with h
            subst h
            have := ih hx
            simp only [List.length_cons]; omega
    | some p =>
      rw [expS] at h
      split at h
      · cases hy : refL p with
        | none => rw [hy] at h; cases h
        | some y =>
          rw [hy] at h
          simp only at h
          cases hx : expS b none r with
          | none => rw [hx] at h; cases h
          | some x =>
            rw [hx] at h
            injection h with h
            subst h
            have := ih hx
            have := ref_len hy
            simp only [List.length_append]; omega
      · have := ih h; omega
theorem val_len {s a : List UInt8} (h : valL s = some a) : a.length ≤ 4 * s.length := by
  unfold valL at h
  split at h
  · exact expS_len h
  · cases h
set_option maxHeartbeats 4000000 in
theorem parts_law (S T : ByteArray) (hS : S.size ≤ 140737488355328) (hT : T.size ≤ 140737488355328) (w : World) (hW : Wd w) : Calls Tryd.prog 5 #[.string S, .string T] w fun e w' => e = .returned (.bool true) ∧ Below w.heap.size w w' := by
  have HW := Lib.hid hW
  have HA := Lib.hid (awake_any w hW)
  clear hW
  by_cases hn : 600 < S.size + T.size
  · have hz : (600 : Int) < (S.size : Int) + (T.size : Int) := by omega
    go_enter Tryd.func5, Tryd.ntmps5
    go_wp2_with fail
    refine HA.out.mono ?_
    rintro e w1 ⟨rfl, hb1⟩
    go_wp2_with fail
    refine (awake_any w1 (HW.out.later hb1)).mono ?_
    rintro e w2 ⟨rfl, hb2⟩
    go_wp2
    go_ret
    exact ⟨rfl, hb1.trans (hb2.mono hb1.size)⟩
  · have hz : ¬ (600 : Int) < (S.size : Int) + (T.size : Int) := by omega
    have hz1 := decide_eq_false hz
    have H1 : Hid (∀ W, Wd W → Calls Tryd.prog 11 #[.string S] W fun e w' => Ans (valL S.data.toList) e ∧ Below W.heap.size W w') := fun W h => value_any S (by omega) W h
    have H2 : Hid (∀ W, Wd W → Calls Tryd.prog 11 #[.string T] W fun e w' => Ans (valL T.data.toList) e ∧ Below W.heap.size W w') := fun W h => value_any T (by omega) W h
    go_enter Tryd.func5, Tryd.ntmps5
    go_wp2_with fail
    refine HA.out.mono ?_
    rintro e w1 ⟨rfl, hb1⟩
    go_wp2_with fail
    refine (H1.out w1 (HW.out.later hb1)).mono ?_
    rintro e w2 ⟨h1, hb2⟩
    have hbx := hb1.trans (hb2.mono hb1.size)
    clear hb1 hb2
    rcases h1 with ⟨Y, hY, rfl⟩ | ⟨_, rfl⟩
    · have HY := Lib.hid hY
      clear hY
      go_wp2_with fail
      refine (H2.out w2 (HW.out.later hbx)).mono ?_
      rintro e w3 ⟨h2, hb3⟩
      have hby := hbx.trans (hb3.mono hbx.size)
      clear hbx hb3
      rcases h2 with ⟨Z, hZ, rfl⟩ | ⟨_, rfl⟩
      · have hYs : Y.size ≤ 4000 := by have := val_len HY.out; rw [← ba_size, ← ba_size] at this; omega
        have hZs : Z.size ≤ 4000 := by have := val_len hZ; rw [← ba_size, ← ba_size] at this; omega
        obtain ⟨U, hU⟩ : ∃ U, S ++ T = U := ⟨_, rfl⟩
        obtain ⟨V, hV⟩ : ∃ V, Y ++ Z = V := ⟨_, rfl⟩
        have hUs : U.size ≤ 600 := by rw [← hU, ba_add_size]; omega
        have H3 : Hid (∀ W, Wd W → Calls Tryd.prog 11 #[.string U] W fun e w' => e = .returned (.tuple #[.string V, .bool true]) ∧ Below W.heap.size W w') := fun W h => by
          refine (value_any U (by omega) W h).mono ?_
          rintro e w' ⟨h1, h2⟩
          rw [← hU, ba_add, val_append HY.out hZ] at h1
          exact ⟨h1.some_form (by rw [← hV, ba_add]), h2⟩
        clear hZ
        go_wp2_with fail
        refine (H3.out w3 (HW.out.later hby)).mono ?_
        rintro e w4 ⟨rfl, hb4⟩
        have hbz := hby.trans (hb4.mono hby.size)
        clear hby hb4
        go_wp2
        go_ret
        exact ⟨rfl, hbz⟩
      · go_wp2
        go_ret
        exact ⟨rfl, hby⟩
    · go_wp2_with fail
      refine (H2.out w2 (HW.out.later hbx)).mono ?_
      rintro e w3 ⟨h2, hb3⟩
      have hby := hbx.trans (hb3.mono hbx.size)
      clear hbx hb3
      rcases h2 with ⟨Z, _, rfl⟩ | ⟨_, rfl⟩
      · go_wp2
        go_ret
        exact ⟨rfl, hby⟩
      · go_wp2
        go_ret
        exact ⟨rfl, hby⟩
end Go.Proofs.YtmbmobjlmbjkpaaDoor
