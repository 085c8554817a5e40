/-
  Bytes that are made and copied. Conditions: none.
-/
import Derived.Test.YtlndjmpopoihnaaDoorSum
import Derived.Laws.CopyOwn
import Derived.Laws.MakeOwn
import Derived.Deep.QuietTactic
import Derived.BigQuiet
namespace Go.Proofs.YtlndjmpopoihnaaDoor
open Go.RowKit
set_option linter.unusedVariables false
theorem byteInfo : (Tryd.prog.info? 5).map (fun i => (i.zero, i.size, i.bytes)) = some (some (.int .u8 0), 1, 1) := by kernel_rfl
theorem make_bytes {n c : Nat} (hn : n ≤ c) (hc : c ≤ 100000) (w : World) : (Instr.makeSlice 22 (.int .i64 (n : Int)) (.int .i64 (c : Int))).run Tryd.prog w = .ok (.slice (some ⟨w.heap.size, 0, none⟩) n c) (w.alloc (.cells (List.replicate c (.int .u8 0)).toArray 5)) := by
  obtain ⟨i0, hi, hz0, hz1, hz2⟩ := info_parts byteInfo
  have hr := run_make (P := Tryd.prog) w 22 5 i0 (.int .u8 0) Tryd.underlying22 hi hz0 .i64 .i64 (n : Int) (c : Int) (by omega) (by omega) (by rw [hz2]; omega) (by omega)
  simp only [Int.toNat_natCast] at hr
  rw [hr, hz1, Nat.mul_one]
  congr 2
  congr 1
  apply Array.ext
  · simp [size_madeCells]
  · intro i h1 h2
    simp [madeCells, Value.cells]
    rw [Nat.mod_one]; rfl
theorem copy_new {A : Option Addr} {bs : List UInt8} {cap : Nat} (w : World) (Z : List Value) {n r : Nat} (hn : bs.length = n) (hZ : Z.length = n + r)
    (hA : bs ≠ [] → ∃ b o, A = some ⟨b, o, none⟩ ∧ (w.alloc (.cells Z.toArray 5)).rangeAt b o (u8c bs)) :
    (Builtin.copy_ #[22, 22] 3 #[.slice (some ⟨w.heap.size, 0, none⟩) n (n + r), .slice A n cap]).run Tryd.prog (w.alloc (.cells Z.toArray 5)) = .ok (.int .i64 (n : Int)) (w.alloc (.cells (u8c bs ++ Z.drop n).toArray 5)) := by
  by_cases hb : bs = []
  · subst hb
    obtain rfl : n = 0 := by simpa using hn.symm
    have := run_copy_none (P := Tryd.prog) (w.alloc (.cells Z.toArray 5)) 22 22 3 5 (some ⟨w.heap.size, 0, none⟩) A 0 (0 + r) 0 cap Tryd.underlying22 (by kernel_rfl) rfl
    rw [this]; rfl
  · obtain ⟨b, o, rfl, hr⟩ := hA hb
    have := run_copy_row (P := Tryd.prog) (w.alloc (.cells Z.toArray 5)) 22 22 3 5 w.heap.size 0 n (n + r) ⟨b, o, none⟩ n cap Z.toArray 5 (u8c bs) Tryd.underlying22 (by kernel_rfl) (heap_alloc_last _ _)
      (by rw [u8c_length, hn]; exact (Nat.min_self n).symm) (fun j v hv => by rw [Addr_add_none]; exact hr j v hv) (by rw [u8c_length, hn, List.size_toArray, hZ]; omega) (fun v hv => by simp [u8c] at hv; obtain ⟨z, _, rfl⟩ := hv; rfl)
    rw [this, World.setRow_alloc_new, u8c_length, hn]
    simp [goInt]
end Go.Proofs.YtlndjmpopoihnaaDoor
