/-
  Slices of a slice, and what they hold. Conditions: none.
-/
import Derived.Test.YthadagnebnakhaaBAwake
namespace Go.Proofs.Ythadagnebnakhaa
open Go.RowKit
set_option linter.unusedVariables false
set_option linter.unusedSimpArgs false
/-- Slices of a slice. -/
theorem slice_to {A : Option Addr} {len cap m : Nat} (hm : m ≤ len) (hc : len ≤ cap) (W : World) : (Instr.slice 22 (.slice A len cap) none (some (.int .i64 (m : Int))) none).run Try.prog W = .ok (.slice A m cap) W := by
  have hs : ∀ w, (sizeOf 5).run Try.prog w = .ok 1 w := fun w => by kernel_rfl
  have h1 : (m : Int) ≤ (cap : Int) := by omega
  have h2 : m ≤ cap := by omega
  have hA : A.map (·.add 0) = A := by cases A <;> simp [Addr.add]
  simp [Instr.slice, run_underlying Try.underlying22, Instr.sliceBounds, Instr.sliceBound, asIntOf, hs, h2, hA]
theorem slice_from {A : Option Addr} {len cap n : Nat} (hn : n ≤ len) (W : World) : (Instr.slice 22 (.slice A len cap) (some (.int .i64 (n : Int))) none none).run Try.prog W = .ok (.slice (if cap = n then A else A.map (·.add n)) (len - n) (cap - n)) W := by
  have hs : ∀ w, (sizeOf 5).run Try.prog w = .ok 1 w := fun w => by kernel_rfl
  simp [Instr.slice, run_underlying Try.underlying22, Instr.sliceBounds, Instr.sliceBound, asIntOf, hs, hn]
theorem lies_cut {W : World} {A : Option Addr} {bs : List UInt8} {cap n k : Nat} (hk : n + k ≤ bs.length) (hc : bs.length ≤ cap) (hcm : cap ≤ 9223372036854775807)
    (hA : bs ≠ [] → ∃ b o, A = some ⟨b, o, none⟩ ∧ b < W.heap.size ∧ W.rangeAt b o (u8c bs)) : (⟨if cap = n then A else A.map (·.add n), (bs.drop n).take k, cap - n⟩ : Part).lies W := by
  have hl : ((bs.drop n).take k).length = k := by rw [List.length_take, List.length_drop]; omega
  refine ⟨by show ((bs.drop n).take k).length ≤ cap - n; rw [hl]; omega, by show cap - n ≤ _; omega, fun hne => ?_⟩
  have hk0 : 0 < k := by rw [← hl]; exact List.length_pos_iff.2 hne
  obtain ⟨b, o, e, hlt, hr⟩ := hA (fun h => by rw [h] at hk; simp at hk; omega)
  refine ⟨b, o + n, ?_, hlt, fun j v hv => ?_⟩
  · show (if cap = n then A else A.map (·.add n)) = _
    rw [if_neg (by omega), e]; simp [Addr_add_none]
  · have hj : j < k := by have := (List.getElem?_eq_some_iff.1 hv).1; rwa [u8c_length, hl] at this
    rw [Nat.add_assoc]
    refine hr (n + j) v ?_
    rw [← hv, u8c_at (by omega), u8c_at (by rw [hl]; exact hj), List.getD_eq_getElem?_getD, List.getD_eq_getElem?_getD, List.getElem?_take_of_lt hj, List.getElem?_drop]
theorem lies_to {W : World} {A : Option Addr} {bs : List UInt8} {cap n : Nat} (hn : n ≤ bs.length) (hc : bs.length ≤ cap) (hcm : cap ≤ 9223372036854775807) (hA : Lies W A bs) : (⟨A, bs.take n, cap⟩ : Part).lies W := by
  have l1 : (bs.take n).length = n := by rw [List.length_take]; omega
  refine ⟨by show (bs.take n).length ≤ cap; omega, hcm, fun hne => ?_⟩
  obtain ⟨b, o, e, hlt, hr⟩ := hA (fun h => hne (by show bs.take n = []; rw [h]; simp))
  refine ⟨b, o, e, hlt, fun j v hv => hr j v ?_⟩
  have hj : j < n := by have := (List.getElem?_eq_some_iff.1 hv).1; rwa [u8c_length, l1] at this
  rw [← hv, u8c_at (show j < bs.length by omega), u8c_at (show j < (bs.take n).length by rw [l1]; exact hj), List.getD_eq_getElem?_getD, List.getD_eq_getElem?_getD, List.getElem?_take_of_lt hj]
end Go.Proofs.Ythadagnebnakhaa
