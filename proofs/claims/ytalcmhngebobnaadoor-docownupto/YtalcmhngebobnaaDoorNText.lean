/-
  Texts: as bytes, at an index, in pieces; where a byte first stands; cut at a colon; copied. Conditions: none.
-/
import Derived.Test.YtalcmhngebobnaaDoorNTab
import Derived.Laws.Externs
import Derived.Laws.MakeOwn
import Derived.Laws.IdiomStrings
import Derived.Laws.AppendOwn
import Derived.Lib.Bytealg
import Derived.Lib.BufferWrite
import Derived.Lib.UnsafeStr
import Derived.Deep.Draws
import Derived.Deep.QuietTactic
import Derived.BigQuiet
import Derived.Deep.WholeRow
namespace Go.Proofs.YtalcmhngebobnaaDoor
open Go.RowKit
set_option linter.unusedVariables false
theorem ba_of (S : ByteArray) : (⟨S.data.toList.toArray⟩ : ByteArray) = S := by simp
theorem ba_ext {S R : ByteArray} (h : S.data.toList = R.data.toList) : S = R := by rw [← ba_of S, ← ba_of R, h]
theorem ba_cut (S : ByteArray) (a b : Nat) : (S.extract a b).data.toList = (S.data.toList.take b).drop a := by
  simp only [ByteArray.data_extract, Array.toList_extract, List.take_drop]
  by_cases h : a ≤ b
  · rw [Nat.add_sub_cancel' h]
  · rw [show b - a = 0 by omega, Nat.add_zero, List.drop_of_length_le (by rw [List.length_take]; omega), List.drop_of_length_le (by rw [List.length_take]; omega)]
theorem ba_size (S : ByteArray) : S.size = S.data.toList.length := Lib.size_eq S
/-- Two texts are told to be the same just if they are. -/
theorem text_beq (S R : ByteArray) : (S.toList == R.toList) = (S.data.toList == R.data.toList) := by rw [Lib.toList_data, Lib.toList_data]
/-- A text as bytes of its own. -/
theorem conv_text (S : ByteArray) (hS : S.size ≤ 2000000) (w : World) : ∃ (cap : Nat) (W : World), (convert 9 67 (.string S)).run Tryd.prog w = .ok (.slice (some ⟨w.heap.size, 0, none⟩) S.size cap) W ∧
    (∀ j (hj : j < S.data.toList.length), W.cell? ⟨w.heap.size, 0 + j, none⟩ = some (.int .u8 (S.data.toList[j].toNat : Int))) ∧ w.heap.size < W.heap.size ∧ Below w.heap.size w W ∧ S.size ≤ cap ∧ cap ≤ 9223372036854775807 := by
  refine ⟨_, _, run_bytes_of_string w 9 67 5 S Tryd.underlying9 Tryd.underlying67 Tryd.underlying5, ?_, by simp, ?_, grownCap_ge _ _ _ _, ?_⟩
  · intro j hj
    rw [Nat.zero_add]
    have hh := heap_alloc_last w.drew (.cells (bytesRow S (grownCap w S.size 0 5)) 5 ((bytesRow S (grownCap w S.size 0 5)).size, (bytesRow S (grownCap w S.size 0 5)).size + 1))
    rw [cell_of_row _ w.heap.size j _ _ _ hh, bytesRow_at _ _ j (by simpa using hj)]
    simp
  · exact ((Below.refl w.heap.size w).drew).alloc (Nat.le_refl _) _
  · have := grownCap_le_maxLen w S.size 0 5 (by unfold maxLen; omega)
    unfold maxLen at this; exact this
theorem index_str (S : ByteArray) {i : Nat} (h : i < S.data.toList.length) (w : World) : (Instr.index 9 (.string S) (.int .i64 (i : Int))).run Tryd.prog w = .ok (.int .u8 ((S.data.toList[i].toNat : Nat) : Int)) w := by
  have hs : i < S.size := by rw [ba_size]; exact h
  have e : S[i]? = some S.data.toList[i] := by
    rw [getElem?_pos S i hs]; rfl
  simp [Instr.index, asIntOf, run_underlying Tryd.underlying9, e]
theorem byteInfo' : (Tryd.prog.info? 5).map (fun i => (i.zero, i.size, i.bytes)) = some (some (.int .u8 0), 1, 1) := by kernel_rfl
set_option maxHeartbeats 4000000 in
/-- A copy of a text is the text; it lies in a block of its own, which is frozen. -/
theorem liteclone_any (S : ByteArray) (hlen : S.size ≤ 2000000) (w : World) : Calls Tryd.prog 40 #[.string S] w fun e w' => e = .returned (.string S) ∧ Below w.heap.size w w' := by
  by_cases h0 : S.size = 0
  · obtain rfl : S = ⟨#[]⟩ := ba_ext (List.eq_nil_of_length_eq_zero (by rw [← ba_size]; exact h0))
    go_enter Tryd.func40, Tryd.ntmps40
    go_wp2
    go_ret
    exact ⟨rfl, Below.refl _ _⟩
  · obtain ⟨i0, hi, hz0, hz1, hz2⟩ := info_parts byteInfo'
    have hone : (Tryd.prog.info? 5).map (·.size) = some 1 := by rw [hi]; simp [hz1]
    have hce : Tryd.prog.cellsOf 5 = 1 := by kernel_rfl
    obtain ⟨M, hM⟩ : ∃ M, M = madeCells (Value.int .u8 0).cells (((S.size : Nat) : Int).toNat * i0.size) := ⟨_, rfl⟩
    have hMs : M.size = S.size := by rw [hM, size_madeCells, hz1]; simp
    have hmk : ∀ W : World, (Instr.makeSlice 67 (.int .i64 (S.size : Int)) (.int .i64 (S.size : Int))).run Tryd.prog W = .ok (.slice (some ⟨W.heap.size, 0, none⟩) S.size S.size) (W.alloc (.cells M 5)) := fun W => by
      have h := run_make (P := Tryd.prog) W 67 5 i0 (.int .u8 0) Tryd.underlying67 hi hz0 .i64 .i64 (S.size : Int) (S.size : Int) (by omega) (by omega) (by rw [hz2]; omega) (by omega)
      rw [← hM] at h
      simpa using h
    clear hM
    have hcp := Lib.run_copy_row_string (P := Tryd.prog) (w.alloc (.cells M 5)) 67 9 3 5 w.heap.size 0 S.size S.size S M 5 Tryd.underlying67 hone (heap_alloc_last w _) (Nat.le_refl _) (by omega)
    have hrow : (M.toList.take 0 ++ Lib.byteCells S.data.toList ++ M.toList.drop (0 + S.size)).toArray = (Lib.byteCells S.data.toList).toArray := by
      rw [List.take_zero, List.nil_append, List.drop_of_length_le (by rw [Array.length_toList]; omega), List.append_nil]
    rw [hrow, World.setRow_alloc_new] at hcp
    obtain ⟨Y, hY⟩ : ∃ Y, (Lib.byteCells S.data.toList).toArray = Y := ⟨_, rfl⟩
    rw [hY] at hcp
    have hYl : Y.toList = Lib.byteCells S.data.toList := by rw [← hY]
    have hYs : Y.size = S.size := by rw [← Array.length_toList, hYl, Lib.byteCells_length, ← Lib.size_eq]
    have hne : S.data.toList ≠ [] := fun e => h0 (by rw [Lib.size_eq, e]; rfl)
    have hus := Lib.run_unsafeString_row (P := Tryd.prog) (w.alloc (.cells Y 5)) 73 3 9 5 Tryd.underlying73 hce w.heap.size Y.size (by unfold World.shape?; rw [heap_alloc_last]) S.data.toList hne (by rw [← Lib.size_eq]; omega) (by rw [← Lib.size_eq]; omega)
      (fun j x hx => Lib.cells_of_row (heap_alloc_last w _) Y.size j _ (by rw [List.take_of_length_le (by rw [Array.length_toList]; exact Nat.le_refl _), hYl]; simp [Lib.byteCells, hx]))
    rw [← Lib.size_eq] at hus
    have hSS : (⟨S.data.toList.toArray⟩ : ByteArray) = S := ba_of S
    rw [hSS] at hus
    clear hY hrow hSS hne hYl hYs hMs hone hce
    have hz : ((S.size : Int) == 0) = false := by rw [beq_eq_false_iff_ne]; omega
    go_enter Tryd.func40, Tryd.ntmps40
    go_wp2
    go_ret
    exact ⟨rfl, Lib.below_freeze ((Below.refl _ w).alloc (Nat.le_refl _) _) (p := ⟨w.heap.size, 0, none⟩) (Nat.le_refl _) _⟩
set_option maxHeartbeats 1000000 in
theorem clone_any (S : ByteArray) (hlen : S.size ≤ 2000000) (w : World) : Calls Tryd.prog 24 #[.string S] w fun e w' => e = .returned (.string S) ∧ Below w.heap.size w w' := by
  have HC := Lib.hid (liteclone_any S hlen w)
  go_enter Tryd.func24, Tryd.ntmps24
  go_wp2_with fail
  refine HC.out.mono ?_
  rintro e w' ⟨rfl, hb⟩
  go_wp2
  go_ret
  exact ⟨rfl, hb⟩
end Go.Proofs.YtalcmhngebobnaaDoor
