/-
  The cells of a sum on its way; the two tables. Conditions: none.
-/
import Derived.Test.YtlndjmpopoihnaaDoorMem
import Derived.Test.YtlndjmpopoihnaaDoorPureMore
import Derived.Test.YtlndjmpopoihnaaDoorProg
import Derived.Deep.MidRow
import Derived.Deep.QuietTactic
namespace Go.Proofs.YtlndjmpopoihnaaDoor
open Go.RowKit
/-- Eight words, a block of bytes, and how many bytes there were. -/
def cellsR (s : S8) (q : List UInt8) (n : Nat) : List Value := u32c (lst s) ++ (u8c q ++ [.int .u64 (n : Int)])
theorem cellsR_length {s : S8} {q : List UInt8} {n : Nat} (hq : q.length = 64) : (cellsR s q n).length = 73 := by
  simp [cellsR, u32c_length, u8c_length, lst, hq]
theorem cellsR_word (s : S8) (q : List UInt8) (n : Nat) {i : Nat} (h : i < 8) : (cellsR s q n)[i]? = some (.int .u32 (u ((lst s).getD i 0))) := by
  unfold cellsR
  rw [List.getElem?_append_left (by simpa [u32c_length, lst] using h), u32c_at (by simpa [lst] using h)]
theorem cellsR_byte (s : S8) {q : List UInt8} (n : Nat) {i : Nat} (h : i < q.length) : (cellsR s q n)[8 + i]? = some (.int .u8 (v8 (q.getD i 0))) := by
  unfold cellsR
  rw [List.getElem?_append_right (by simp [u32c_length, lst])]
  have e : 8 + i - (u32c (lst s)).length = i := by simp [u32c_length, lst]
  rw [e, List.getElem?_append_left (by rw [u8c_length]; exact h), u8c_at h]
theorem cellsR_len (s : S8) {q : List UInt8} (n : Nat) (hq : q.length = 64) : (cellsR s q n)[72]? = some (.int .u64 (n : Int)) := by
  unfold cellsR
  rw [List.getElem?_append_right (by simp [u32c_length, lst]), List.getElem?_append_right (by simp [u32c_length, u8c_length, lst, hq])]
  simp [u32c_length, u8c_length, lst, hq]
theorem range_block {w : World} {R : Nat} {s : S8} {q : List UInt8} {n : Nat} (h : Holds w R 47 (cellsR s q n)) : w.rangeAt R 8 (u8c q) := fun j v hv => by
  rw [h.cell]
  have hj : j < q.length := by
    have := (List.getElem?_eq_some_iff.1 hv).1
    rwa [u8c_length] at this
  rw [cellsR_byte s n hj, ← hv, u8c_at hj]
/-- The two tables lie as they were laid. -/
structure Tabs (w : World) : Prop where
  two : 2 ≤ w.heap.size
  start : w.rangeAt 0 0 (u32c (lst h0))
  steps : w.rangeAt 1 0 (u32c kl)
theorem range_keep {w w' : World} {b o : Nat} {cs : List Value} (h : w.rangeAt b o cs) (hb : w'.heap[b]? = w.heap[b]?) : w'.rangeAt b o cs := fun j v hv => by
  have := h j v hv
  rw [← this]
  exact World.cell?_of_block hb
theorem Tabs.below {w w' : World} {B : Nat} (h : Tabs w) (hb : Below B w w') (hB : 2 ≤ B) : Tabs w' :=
  ⟨Nat.le_trans h.two hb.size, range_keep h.start (hb.block 0 (by omega)), range_keep h.steps (hb.block 1 (by omega))⟩
theorem Tabs.one {w w' : World} {g : Nat} (h : Tabs w) (hb : w.grownBy w' (some g)) (hg : 2 ≤ g) : Tabs w' :=
  ⟨Nat.le_trans h.two hb.size, range_keep h.start (hb.block 0 (by have := h.two; omega) (fun e => by injection e; omega)), range_keep h.steps (hb.block 1 (by have := h.two; omega) (fun e => by injection e; omega))⟩
theorem Tabs.drewN {w : World} (h : Tabs w) (n : Nat) : Tabs (w.drewN n) := ⟨h.two, h.start, h.steps⟩
theorem kl_length : kl.length = 64 := rfl
theorem Tabs.step {w : World} (h : Tabs w) {k : Nat} (hk : k < 64) : w.cell? ⟨1, k, none⟩ = some (.int .u32 (u (K k))) := by
  have := h.steps k _ (u32c_at (by rw [kl_length]; exact hk))
  rwa [Nat.zero_add] at this
/-- A callee that does nothing but answer, in a region of reads. -/
theorem quiet_same {P : Program} {f : FuncId} {args : Array Value} {w : World} {n : Nat} {v : Value}
    (h : Calls P f args (w.drewN n) fun e w' => e = .returned v ∧ w.drewN n = w') : Calls P f args (w.drewN n) fun e w'' => e = .returned v ∧ ∃ m, w'' = w.drewN m :=
  h.mono fun _ _ ⟨he, hm⟩ => ⟨he, n, hm.symm⟩
end Go.Proofs.YtlndjmpopoihnaaDoor
