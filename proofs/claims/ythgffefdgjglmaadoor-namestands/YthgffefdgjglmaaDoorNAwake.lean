/-
  The laws' own look whether the program does anything. Conditions: the tables lie as they are laid.
-/
import Derived.Test.YthgffefdgjglmaaDoorNRef
namespace Go.Proofs.YthgffefdgjglmaaDoor
open Go.RowKit
set_option linter.unusedVariables false
theorem nm_ds : nm [100, 115] := ⟨[100, 115], by decide, by decide, by decide⟩
theorem nm_sig : nm [83, 105, 103, 110, 97, 116, 117, 114, 101] := ⟨[83, 105, 103, 110, 97, 116, 117, 114, 101], by decide, by decide, by decide⟩
theorem full_sig : Full [100, 115, 58, 83, 105, 103, 110, 97, 116, 117, 114, 101] [100, 115] [83, 105, 103, 110, 97, 116, 117, 114, 101] := .inr ⟨nm_ds, nm_sig, rfl⟩
theorem full_same {s : List UInt8} {P L P' L' : ByteArray} (h : Full s P.data.toList L.data.toList) (h' : Full s P'.data.toList L'.data.toList) : P = P' ∧ L = L' := by
  obtain ⟨e1, e2⟩ := h.uniq h'
  exact ⟨ba_ext e1, ba_ext e2⟩
theorem trim_a : trimS ⟨#[32, 97, 32]⟩ = ⟨#[97]⟩ := by
  have : trim [32, 97, 32] = [97] := by decide
  exact ba_ext (by rw [trimS_list]; exact this)
set_option maxHeartbeats 2000000 in
theorem awake_any (w : World) (hT : NTabs w) : Calls Tryd.prog 8 #[] w fun e w' => e = .returned (.bool true) ∧ Below w.heap.size w w' := by
  have HS := Lib.hid (split_any ⟨#[100, 115, 58, 83, 105, 103, 110, 97, 116, 117, 114, 101]⟩ (by show 12 ≤ 100000; omega) w hT)
  have HTR : Hid (∀ w, Calls Tryd.prog 17 #[.string ⟨#[32, 97, 32]⟩] w fun e w' => e = .returned (.string ⟨#[97]⟩) ∧ Below w.heap.size w w') := fun w => by
    rw [← trim_a]; exact trim_any _ (by show 3 ≤ 100000; omega) w
  have HBL : Hid (∀ w, Calls Tryd.prog 19 #[.int .u8 32] w fun e w' => e = .returned (.bool true) ∧ w' = w) := fun w => blank_any 32 w
  clear hT
  go_enter Tryd.func8, Tryd.ntmps8
  go_wp2_with fail
  refine HS.out.mono ?_
  rintro e w1 ⟨⟨P, L, hf, _, _, rfl⟩ | ⟨hno, _⟩, hb1⟩
  · obtain ⟨rfl, rfl⟩ := full_same (P' := ⟨#[100, 115]⟩) (L' := ⟨#[83, 105, 103, 110, 97, 116, 117, 114, 101]⟩) hf full_sig
    clear hf HS
    go_wp2_with fail
    refine (HTR.out w1).mono ?_
    rintro e w2 ⟨rfl, hb2⟩
    have hbw := hb1.trans (hb2.mono hb1.size)
    clear hb1 hb2 HTR
    go_wp2_with fail
    refine (HBL.out w2).mono ?_
    rintro e w3 ⟨rfl, hw⟩
    rw [hw]
    go_wp2
    go_ret
    exact ⟨rfl, hbw⟩
  · exact absurd full_sig (hno _ _)
end Go.Proofs.YthgffefdgjglmaaDoor
