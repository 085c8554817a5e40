/-
  Plain facts on the words of a block, on blocks, and on what follows the bytes. Conditions: none.
-/
import Derived.Test.YtlndjmpopoihnaaDoorPure
namespace Go.Proofs.YtlndjmpopoihnaaDoor
theorem wl_length (b : List UInt8) (n : Nat) : (wl b n).length = n := by
  induction n with
  | zero => rfl
  | succ n ih => simp [wl, ih]
theorem wl_at (b : List UInt8) {j : Nat} : ∀ {n : Nat}, j < n → (wl b n).getD j 0 = W b j
  | 0, h => absurd h (by omega)
  | n + 1, h => by
    have hl := wl_length b n
    rcases Nat.lt_or_ge j n with hj | hj
    · have := wl_at b hj
      rw [List.getD_eq_getElem?_getD] at this ⊢
      rw [wl, List.getElem?_append_left (by omega)]
      exact this
    · obtain rfl : j = n := by omega
      rw [List.getD_eq_getElem?_getD, wl, List.getElem?_append_right (by omega), hl]
      simp [W]
theorem wl_succ (b : List UInt8) (n : Nat) : wl b (n + 1) = wl b n ++ [W b n] := rfl
theorem W_word (b : List UInt8) {n : Nat} (h : n < 16) : W b n = word b n := by simp [W, nextW, h]
theorem W_next (b : List UInt8) {n : Nat} (h : 16 ≤ n) : W b n = ss1 (W b (n - 2)) + W b (n - 7) + ss0 (W b (n - 15)) + W b (n - 16) := by
  rw [W, nextW, if_neg (by omega), wl_at b (by omega), wl_at b (by omega), wl_at b (by omega), wl_at b (by omega)]
theorem blks_append (l m : List UInt8) : ∀ n, 64 * n ≤ l.length → blks (l ++ m) n = blks l n
  | 0, _ => rfl
  | n + 1, h => by
    rw [blks, blks, blks_append l m n (by omega), List.drop_append_of_le_length (by omega), List.take_append_of_le_length (by rw [List.length_drop]; omega)]
theorem padd_length (n : Nat) : (padd n).length = 9 + (119 - n % 64) % 64 := by simp [padd]; omega
end Go.Proofs.YtlndjmpopoihnaaDoor
