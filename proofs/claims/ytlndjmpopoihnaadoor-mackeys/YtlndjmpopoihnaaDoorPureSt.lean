/-
  Plain facts on a sum on its way: what it holds behind more bytes. Conditions: none.
-/
import Derived.Test.YtlndjmpopoihnaaDoorPureMore
namespace Go.Proofs.YtlndjmpopoihnaaDoor
/-- Behind these bytes: the words of the full blocks, and what is left in the last one. -/
structure St (bs : List UInt8) (s : S8) (q : List UInt8) : Prop where
  len : q.length = 64
  sum : s = blks bs (bs.length / 64)
  left : q.take (bs.length % 64) = bs.drop (64 * (bs.length / 64))
/-- The block behind some more bytes. -/
def over (q : List UInt8) (d : Nat) (x : List UInt8) : List UInt8 := q.take d ++ (x ++ q.drop (d + x.length))
theorem over_length {q : List UInt8} {d : Nat} {x : List UInt8} (hq : q.length = 64) (h : d + x.length ≤ 64) : (over q d x).length = 64 := by
  simp [over, hq]; omega
theorem St.start (q : List UInt8) (hq : q.length = 64) : St [] h0 q := ⟨hq, rfl, by simp⟩
theorem St.few {bs : List UInt8} {s : S8} {q x : List UInt8} (h : St bs s q) (hx : bs.length % 64 + x.length < 64) : St (bs ++ x) s (over q (bs.length % 64) x) := by
  have hl := h.len
  have e1 : (bs ++ x).length / 64 = bs.length / 64 := by rw [List.length_append]; omega
  have e2 : (bs ++ x).length % 64 = bs.length % 64 + x.length := by rw [List.length_append]; omega
  refine ⟨over_length hl (by omega), by rw [e1, blks_append _ _ _ (by omega)]; exact h.sum, ?_⟩
  rw [e1, e2, List.drop_append_of_le_length (by omega), ← h.left]
  unfold over
  rw [← List.append_assoc, List.take_append_of_le_length (by simp [hl]; omega), List.take_of_length_le (by simp [hl]; omega)]
theorem St.full {bs : List UInt8} {s : S8} {q x : List UInt8} (h : St bs s q) (hx : bs.length % 64 + x.length = 64) : St (bs ++ x) (blk s (over q (bs.length % 64) x)) (over q (bs.length % 64) x) := by
  have hl := h.len
  have e1 : (bs ++ x).length / 64 = bs.length / 64 + 1 := by rw [List.length_append]; omega
  have e2 : (bs ++ x).length % 64 = 0 := by rw [List.length_append]; omega
  have e3 : (bs ++ x).drop (64 * (bs.length / 64)) = over q (bs.length % 64) x := by
    rw [List.drop_append_of_le_length (by omega), ← h.left]
    unfold over
    rw [hx, List.drop_of_length_le (by omega), List.append_nil]
  have ho := over_length (q := q) (d := bs.length % 64) (x := x) hl (by omega)
  refine ⟨ho, ?_, ?_⟩
  · rw [e1, blks, blks_append _ _ _ (by omega), ← h.sum, e3, List.take_of_length_le (by omega)]
  · rw [e2, List.take_zero, List.drop_of_length_le (by rw [e1, List.length_append]; omega)]
end Go.Proofs.YtlndjmpopoihnaaDoor
