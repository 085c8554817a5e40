/-
  Slices of a slice, and what a region keeps. Conditions: none.
-/
import Derived.Test.YtlndjmpopoihnaaDoorMkBytes
import Derived.Test.YtlndjmpopoihnaaDoorREq
namespace Go.Proofs.YtlndjmpopoihnaaDoor
open Go.RowKit
set_option linter.unusedVariables false
set_option linter.unusedSimpArgs false
theorem keepA {G : Nat} {l : List Value} {w6 W : World} (O : Obj) (h : W.rangeAt G 0 l ∧ Below w6.heap.size w6 W) (hG : G < w6.heap.size) : (W.alloc O).rangeAt G 0 l ∧ Below w6.heap.size w6 (W.alloc O) :=
  ⟨range_keep h.1 (Below.heap_alloc _ _ _ (Nat.lt_of_lt_of_le hG h.2.size)), h.2.alloc h.2.size O⟩
theorem keepD {G : Nat} {l : List Value} {w6 W : World} (h : W.rangeAt G 0 l ∧ Below w6.heap.size w6 W) : W.drew.rangeAt G 0 l ∧ Below w6.heap.size w6 W.drew := ⟨h.1, h.2.drew⟩
theorem keepC {G : Nat} {l : List Value} {w6 W W' : World} (h : W.rangeAt G 0 l ∧ Below w6.heap.size w6 W) (hb : Below W.heap.size W W') (hG : G < w6.heap.size) : W'.rangeAt G 0 l ∧ Below w6.heap.size w6 W' :=
  ⟨range_keep h.1 (hb.block G (Nat.lt_of_lt_of_le hG h.2.size)), h.2.trans (hb.mono h.2.size)⟩
/-- Slices of a slice. -/
theorem slice_to {A : Option Addr} {len cap m : Nat} (hm : m ≤ len) (hc : len ≤ cap) (W : World) : (Instr.slice 22 (.slice A len cap) none (some (.int .i64 (m : Int))) none).run Tryd.prog W = .ok (.slice A m cap) W := by
  have hs : ∀ w, (sizeOf 5).run Tryd.prog w = .ok 1 w := fun w => by kernel_rfl
  have h1 : (m : Int) ≤ (cap : Int) := by omega
  have h2 : m ≤ cap := by omega
  have hA : A.map (·.add 0) = A := by cases A <;> simp [Addr.add]
  simp [Instr.slice, run_underlying Tryd.underlying22, Instr.sliceBounds, Instr.sliceBound, asIntOf, hs, h2, hA]
theorem slice_in {A : Option Addr} {len cap n m : Nat} (hn : n ≤ m) (hm : m ≤ len) (hc : len ≤ cap) (W : World) : (Instr.slice 22 (.slice A len cap) (some (.int .i64 (n : Int))) (some (.int .i64 (m : Int))) none).run Tryd.prog W = .ok (.slice (if cap = n then A else A.map (·.add n)) (m - n) (cap - n)) W := by
  have hs : ∀ w, (sizeOf 5).run Tryd.prog w = .ok 1 w := fun w => by kernel_rfl
  have h2 : m ≤ cap := by omega
  simp [Instr.slice, run_underlying Tryd.underlying22, Instr.sliceBounds, Instr.sliceBound, asIntOf, hs, h2, hn]
theorem lies_cut {W : World} {A : Option Addr} {bs : List UInt8} {cap n k : Nat} (hk : n + k ≤ bs.length) (hc : bs.length ≤ cap) (hcm : cap ≤ 9223372036854775807)
    (hA : bs ≠ [] → ∃ b o, A = some ⟨b, o, none⟩ ∧ b < W.heap.size ∧ W.rangeAt b o (u8c bs)) : (⟨if cap = n then A else A.map (·.add n), (bs.drop n).take k, cap - n⟩ : Part).lies W := by
  have hl : ((bs.drop n).take k).length = k := by rw [List.length_take, List.length_drop]; omega
  refine ⟨by show ((bs.drop n).take k).length ≤ cap - n; rw [hl]; omega, by show cap - n ≤ _; omega, fun hne => ?_⟩
  have hk0 : 0 < k := by rw [← hl]; exact List.length_pos_iff.2 hne
  obtain ⟨b, o, e, hlt, hr⟩ := hA (fun h => by rw [h] at hk; simp at hk; omega)
  refine ⟨b, o + n, ?_, hlt, fun j v hv => ?_⟩
  · show (if cap = n then A else A.map (·.add n)) = _
    rw [if_neg (by omega), e]; simp [Addr_add_none]
  · have hj : j < k := by have := (List.getElem?_eq_some_iff.1 hv).1; rwa [u8c_length, hl] at this
    rw [Nat.add_assoc]
    refine hr (n + j) v ?_
    rw [← hv, u8c_at (by omega), u8c_at (by rw [hl]; exact hj), List.getD_eq_getElem?_getD, List.getD_eq_getElem?_getD, List.getElem?_take_of_lt hj, List.getElem?_drop]
end Go.Proofs.YtlndjmpopoihnaaDoor
