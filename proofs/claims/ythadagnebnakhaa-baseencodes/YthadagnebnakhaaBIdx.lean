/-
  strings.IndexByte: where a byte first stands in a text. Conditions: none.
-/
import Derived.Test.YthadagnebnakhaaBMem
import Derived.Test.YthadagnebnakhaaBPure
import Derived.Laws.Externs
import Derived.Lib.Bytealg
namespace Go.Proofs.Ythadagnebnakhaa
open Go.RowKit
set_option linter.unusedVariables false
theorem entry_index (s : ByteArray) (c : UInt8) (w : World) : (callFunc 20 #[.string s, .int .u8 (v8 c)]).run Try.prog w = .ok (.value (.int .i64 (Lib.indexByte s.data.toList c))) w := by
  rw [run_callFunc_extern (e := Extern.BytealgIndexByte.indexByte) Try.func20 (by kernel_rfl) (by kernel_rfl) (by kernel_rfl) (by kernel_rfl), Lib.run_indexByteString]
  simp [v8, Result.andThen]
set_option maxHeartbeats 1000000 in
theorem lite_any (s : ByteArray) (c : UInt8) (w : World) : Calls Try.prog 19 #[.string s, .int .u8 (v8 c)] w fun e w' => e = .returned (.int .i64 (Lib.indexByte s.data.toList c)) ∧ w = w' := by
  have hx := entry_index s c
  go_enter Try.func19, Try.ntmps19
  go_wp2
  go_ret
  exact ⟨rfl, rfl⟩
set_option maxHeartbeats 1000000 in
theorem index_any (s : ByteArray) (c : UInt8) (w : World) : Calls Try.prog 16 #[.string s, .int .u8 (v8 c)] w fun e w' => e = .returned (.int .i64 (Lib.indexByte s.data.toList c)) ∧ w = w' := by
  go_enter Try.func16, Try.ntmps16
  go_wp2_with fail
  refine (lite_any s c w).mono ?_
  rintro e w' ⟨rfl, rfl⟩
  go_wp2
  go_ret
  exact ⟨rfl, rfl⟩
def lets : ByteArray := { data := #[65, 66, 67, 68, 69, 70, 71, 72, 73, 74, 75, 76, 77, 78, 79, 80, 81, 82, 83, 84, 85, 86, 87, 88, 89, 90, 97, 98, 99, 100, 101, 102, 103, 104, 105, 106, 107, 108, 109, 110, 111, 112, 113, 114, 115, 116, 117, 118, 119, 120, 121, 122, 48, 49, 50, 51, 52, 53, 54, 55, 56, 57, 43, 47] }
def blks : ByteArray := { data := #[32, 9, 10, 13] }
/-- The number of a letter, as a number; -1: it is none. -/
def numI (c : UInt8) : Int := match num c with | none => -1 | some n => (n : Int)
theorem idx_lets_all : ∀ n < 256, Lib.indexByte lets.data.toList (UInt8.ofNat n) = numI (UInt8.ofNat n) := by decide +kernel
theorem idx_blks_all : ∀ n < 256, decide (0 ≤ Lib.indexByte blks.data.toList (UInt8.ofNat n)) = blank (UInt8.ofNat n) := by decide +kernel
theorem idx_lets (c : UInt8) : Lib.indexByte lets.data.toList c = numI c := by
  have := idx_lets_all c.toNat c.toNat_lt
  rwa [UInt8.ofNat_toNat] at this
theorem idx_blks (c : UInt8) : decide (0 ≤ Lib.indexByte blks.data.toList c) = blank c := by
  have := idx_blks_all c.toNat c.toNat_lt
  rwa [UInt8.ofNat_toNat] at this
theorem letters_any (c : UInt8) (w : World) : Calls Try.prog 16 #[.string { data := #[65, 66, 67, 68, 69, 70, 71, 72, 73, 74, 75, 76, 77, 78, 79, 80, 81, 82, 83, 84, 85, 86, 87, 88, 89, 90, 97, 98, 99, 100, 101, 102, 103, 104, 105, 106, 107, 108, 109, 110, 111, 112, 113, 114, 115, 116, 117, 118, 119, 120, 121, 122, 48, 49, 50, 51, 52, 53, 54, 55, 56, 57, 43, 47] }, .int .u8 (v8 c)] w fun e w' => e = .returned (.int .i64 (numI c)) ∧ w = w' := by
  rw [← idx_lets]; exact index_any lets c w
theorem blanks_any (c : UInt8) (w : World) : Calls Try.prog 16 #[.string { data := #[32, 9, 10, 13] }, .int .u8 (v8 c)] w fun e w' => (∃ z : Int, e = .returned (.int .i64 z) ∧ decide (0 ≤ z) = blank c) ∧ w = w' :=
  (index_any blks c w).mono fun e w' h => ⟨⟨_, h.1, idx_blks c⟩, h.2⟩
/-- The letter at a place of the program's own letters. -/
theorem lets_at_all : ∀ n < 64, lets.data[n]? = some (ltr n) := by decide +kernel
theorem index_str (l : List UInt8) (k : IntKind) {i : Nat} (h : i < l.length) (w : World) : (Instr.index 9 (.string ⟨l.toArray⟩) (.int k (i : Int))).run Try.prog w = .ok (.int .u8 (v8 (l.getD i 0))) w := by
  have e : (ByteArray.mk l.toArray)[i]? = some (l.getD i 0) := by
    rw [List.getD_eq_getElem?_getD, List.getElem?_eq_getElem h]
    exact getElem?_pos (ByteArray.mk l.toArray) i h
  simp [Instr.index, asIntOf, run_underlying Try.underlying9, e, v8]
theorem index_let {m : Nat} (h : m < 64) (w : World) : (Instr.index 9 (.string { data := #[65, 66, 67, 68, 69, 70, 71, 72, 73, 74, 75, 76, 77, 78, 79, 80, 81, 82, 83, 84, 85, 86, 87, 88, 89, 90, 97, 98, 99, 100, 101, 102, 103, 104, 105, 106, 107, 108, 109, 110, 111, 112, 113, 114, 115, 116, 117, 118, 119, 120, 121, 122, 48, 49, 50, 51, 52, 53, 54, 55, 56, 57, 43, 47] }) (.int .u64 (m : Int))).run Try.prog w = .ok (.int .u8 (v8 (ltr m))) w := by
  have e : (lets.data.toList).getD m 0 = ltr m := by
    have := lets_at_all m h
    rw [List.getD_eq_getElem?_getD, Array.getElem?_toList, this]; rfl
  rw [← e]
  exact index_str lets.data.toList .u64 h w
end Go.Proofs.Ythadagnebnakhaa
