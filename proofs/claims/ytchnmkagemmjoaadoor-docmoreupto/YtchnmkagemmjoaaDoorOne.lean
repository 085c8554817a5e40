/-
  The document's own answer for one character's bytes, and how long a character is by its first byte. Conditions: the number is a character.
-/
import Derived.Test.YtchnmkagemmjoaaDoorOwn
namespace Go.Proofs.YtchnmkagemmjoaaDoor
open Go.RowKit
set_option maxHeartbeats 1000000 in
theorem refOne_one (r : Int) (h0 : 0 ≤ r) (h1 : r ≤ 127) (w : World) : Calls Tryd.prog 73 #[.int .i32 r] w fun e w' => e = .returned (.slice (some ⟨w.heap.size, 0, none⟩) 1 1) ∧ w.alloc (.cells #[.int .u8 (r)] 5) = w' := by
  go_enter Tryd.func73, Tryd.ntmps73
  go_wp2
  go_ret
  exact ⟨rfl, rfl⟩
set_option maxHeartbeats 1000000 in
theorem refOne_two (r : Int) (h0 : 128 ≤ r) (h1 : r ≤ 2047) (w : World) : Calls Tryd.prog 73 #[.int .i32 r] w fun e w' => e = .returned (.slice (some ⟨w.heap.size, 0, none⟩) 2 2) ∧ w.alloc (.cells #[.int .u8 (192 + r / 64), .int .u8 (128 + r % 64)] 5) = w' := by
  go_enter Tryd.func73, Tryd.ntmps73
  go_wp2
  go_ret
  exact ⟨rfl, rfl⟩
set_option maxHeartbeats 1000000 in
theorem refOne_three (r : Int) (h0 : 2048 ≤ r) (h1 : r ≤ 65535) (w : World) : Calls Tryd.prog 73 #[.int .i32 r] w fun e w' => e = .returned (.slice (some ⟨w.heap.size, 0, none⟩) 3 3) ∧ w.alloc (.cells #[.int .u8 (224 + r / 4096), .int .u8 (128 + r / 64 % 64), .int .u8 (128 + r % 64)] 5) = w' := by
  go_enter Tryd.func73, Tryd.ntmps73
  go_wp2
  go_ret
  exact ⟨rfl, rfl⟩
set_option maxHeartbeats 1000000 in
theorem refOne_four (r : Int) (h0 : 65536 ≤ r) (h1 : r ≤ 1114111) (w : World) : Calls Tryd.prog 73 #[.int .i32 r] w fun e w' => e = .returned (.slice (some ⟨w.heap.size, 0, none⟩) 4 4) ∧ w.alloc (.cells #[.int .u8 (240 + r / 262144), .int .u8 (128 + r / 4096 % 64), .int .u8 (128 + r / 64 % 64), .int .u8 (128 + r % 64)] 5) = w' := by
  go_enter Tryd.func73, Tryd.ntmps73
  go_wp2
  go_ret
  exact ⟨rfl, rfl⟩
set_option maxHeartbeats 1000000 in
theorem refOne_any (r : Int) (hc : chB r = true) (w : World) : Calls Tryd.prog 73 #[.int .i32 r] w fun e w' => e = .returned (.slice (some ⟨w.heap.size, 0, none⟩) (encB r).length (encB r).length) ∧ w.alloc (.cells (u8c (encB r)).toArray 5) = w' := by
  rw [← u8s_enc hc, encB_length]
  rw [chB_iff] at hc
  rcases (show r ≤ 127 ∨ (128 ≤ r ∧ r ≤ 2047) ∨ (2048 ≤ r ∧ r ≤ 65535) ∨ 65536 ≤ r from by omega) with e | e | e | e
  · have he : encZ r = [r] := by simp only [encZ]; rw [if_pos e]
    rw [he]; exact refOne_one r hc.1 e w
  · have he : encZ r = [192 + r / 64, 128 + r % 64] := by simp only [encZ]; rw [if_neg (by omega), if_pos (by omega)]
    rw [he]; exact refOne_two r e.1 e.2 w
  · have he : encZ r = [224 + r / 4096, 128 + r / 64 % 64, 128 + r % 64] := by simp only [encZ]; rw [if_neg (by omega), if_neg (by omega), if_pos (by omega)]
    rw [he]; exact refOne_three r e.1 e.2 w
  · have he : encZ r = [240 + r / 262144, 128 + r / 4096 % 64, 128 + r / 64 % 64, 128 + r % 64] := by simp only [encZ]; rw [if_neg (by omega), if_neg (by omega), if_neg (by omega)]
    rw [he]; exact refOne_four r e hc.2.1 w
theorem char_val {r : Int} {B : Bool} (h : chB r = B) (w : World) : Calls Tryd.prog 72 #[.int .i32 r] w fun e w' => e = .returned (.bool B) ∧ w' = w :=
  (char_any r w).mono fun _ _ ⟨he, hw⟩ => ⟨by rw [he, h], hw.symm⟩
/-- How long a character is that begins so. -/
def longN (b : Nat) : Nat := if b < 128 then 1 else if 192 ≤ b ∧ b < 224 then 2 else if 224 ≤ b ∧ b < 240 then 3 else 4
theorem long_any (b : UInt8) (w : World) : Calls Tryd.prog 71 #[.int .u8 b.toNat] w fun e w' => e = .returned (.int .i64 (longN b.toNat)) ∧ w = w' := by
  have hb := b.toNat_lt
  generalize b.toNat = n at hb
  rcases (show n < 128 ∨ (128 ≤ n ∧ n < 192) ∨ (192 ≤ n ∧ n < 224) ∨ (224 ≤ n ∧ n < 240) ∨ 240 ≤ n from by omega) with h | h | h | h | h
  · have e : longN n = 1 := by simp only [longN]; rw [if_pos h]
    rw [e]
    have hz : (n : Int) < 128 := by omega
    go_enter Tryd.func71, Tryd.ntmps71
    go_wp2
    go_ret
    exact ⟨rfl, rfl⟩
  · have e : longN n = 4 := by simp only [longN]; rw [if_neg (by omega), if_neg (by omega), if_neg (by omega)]
    rw [e]
    obtain ⟨h1, h2⟩ := h
    have hz : ¬ (n : Int) < 128 := by omega
    have hy : ¬ (192 : Int) ≤ n := by omega
    have hy2 : ¬ (224 : Int) ≤ n := by omega
    go_enter Tryd.func71, Tryd.ntmps71
    go_wp2
    go_ret
    exact ⟨rfl, rfl⟩
  · have e : longN n = 2 := by simp only [longN]; rw [if_neg (by omega), if_pos (by omega)]
    rw [e]
    obtain ⟨h1, h2⟩ := h
    have hz : ¬ (n : Int) < 128 := by omega
    have hy : (192 : Int) ≤ n := by omega
    have hy2 : (n : Int) < 224 := by omega
    go_enter Tryd.func71, Tryd.ntmps71
    go_wp2
    go_ret
    exact ⟨rfl, rfl⟩
  · have e : longN n = 3 := by simp only [longN]; rw [if_neg (by omega), if_neg (by omega), if_pos (by omega)]
    rw [e]
    obtain ⟨h1, h2⟩ := h
    have hz : ¬ (n : Int) < 128 := by omega
    have hy : (192 : Int) ≤ n := by omega
    have hy2 : ¬ (n : Int) < 224 := by omega
    have hy3 : (224 : Int) ≤ n := by omega
    have hy4 : (n : Int) < 240 := by omega
    go_enter Tryd.func71, Tryd.ntmps71
    go_wp2
    go_ret
    exact ⟨rfl, rfl⟩
  · have e : longN n = 4 := by simp only [longN]; rw [if_neg (by omega), if_neg (by omega), if_neg (by omega)]
    rw [e]
    have hz : ¬ (n : Int) < 128 := by omega
    have hy : (192 : Int) ≤ n := by omega
    have hy2 : ¬ (n : Int) < 224 := by omega
    have hy3 : (224 : Int) ≤ n := by omega
    have hy4 : ¬ (n : Int) < 240 := by omega
    go_enter Tryd.func71, Tryd.ntmps71
    go_wp2
    go_ret
    exact ⟨rfl, rfl⟩
end Go.Proofs.YtchnmkagemmjoaaDoor
