/-
  A sum is the same as itself. Conditions: it has 32 bytes.
-/
import Derived.Test.YtlndjmpopoihnaaDoorHex
import Derived.ChangeKeysEq
import Derived.Laws.StructEq
namespace Go.Proofs.YtlndjmpopoihnaaDoor
open Go.RowKit
theorem part_byte (s : List UInt8) {i : Nat} (h : i < s.length) (w : World) : (part 5 (u8c s).toArray i).run Tryd.prog w = .ok (.int .u8 (v8 (s.getD i 0))) w := by
  have hv : (u8c s).toArray[i]? = some (.int .u8 (v8 (s.getD i 0))) := by rw [List.getElem?_toArray]; exact u8c_at h
  simp [part, hv]
theorem eqItems_same (s : List UInt8) (d : Nat) (w : World) : ∀ is : List Nat, (∀ i ∈ is, i < s.length) → (Op.eqItems (d + 1) 5 1 (u8c s).toArray (u8c s).toArray is).run Tryd.prog w = .ok true w
  | [], _ => by simp [Op.eqItems]
  | i :: is, h => by
    have ih := eqItems_same s d w is (fun j hj => h j (by simp [hj]))
    have hp := part_byte s (h i (by simp)) w
    simp only [Op.eqItems, Sem.run_bind, Nat.mul_one, hp, Result.andThen_ok, run_equalIn_int (P := Tryd.prog) w d 5 .u8 .u8 _ _ Tryd.underlying5]
    simp [ih]
theorem same_sum (s : List UInt8) (h : s.length = 32) (w : World) : (Op.equalIn 10000 25 (.agg (u8c s).toArray) (.agg (u8c s).toArray)).run Tryd.prog w = .ok true w := by
  have hi : ∃ i, Tryd.prog.info? 5 = some i := by
    cases hq : Tryd.prog.info? 5 with
    | none => 
      have : (Tryd.prog.info? 5).isSome = true := by kernel_rfl
      rw [hq] at this; cases this
    | some i => exact ⟨i, rfl⟩
  obtain ⟨i, hi⟩ := hi
  rw [run_equalIn_array w 9999 _ _ Tryd.underlying25 hi, show Tryd.prog.cellsOf 5 = 1 from by kernel_rfl]
  exact eqItems_same s 9998 w (List.range 32) (fun i hi => by rw [h]; simpa using hi)
theorem eqGuard25 : Tryd.prog.eqGuardType Tryd.prog.depth 25 = false := by kernel_rfl
theorem sha_length (l : List UInt8) : (sha l).length = 32 := rfl
end Go.Proofs.YtlndjmpopoihnaaDoor
