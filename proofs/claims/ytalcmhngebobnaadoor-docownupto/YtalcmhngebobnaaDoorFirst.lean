/-
  The document's own answer for the character that bytes begin with: a first byte of 1. Conditions: the bytes lie where the slice says.
  The document's own answer for the character that bytes begin with: a first byte of 2. Conditions: the bytes lie where the slice says.
  The document's own answer for the character that bytes begin with: a first byte of 3. Conditions: the bytes lie where the slice says.
  The document's own answer for the character that bytes begin with: a first byte of 4. Conditions: the bytes lie where the slice says.
  The document's own answer for the character that bytes begin with, whatever the bytes. Conditions: the bytes lie where the slice says.
-/
import Derived.Test.YtalcmhngebobnaaDoorOne
import Derived.Deep.RegionWith
import Derived.RegionTactic
namespace Go.Proofs.YtalcmhngebobnaaDoor
open Go.RowKit
set_option maxRecDepth 100000
end Go.Proofs.YtalcmhngebobnaaDoor
namespace Go.Proofs.YtalcmhngebobnaaDoor
open Go.RowKit
set_option maxRecDepth 100000
end Go.Proofs.YtalcmhngebobnaaDoor
namespace Go.Proofs.YtalcmhngebobnaaDoor
open Go.RowKit
set_option maxRecDepth 100000
end Go.Proofs.YtalcmhngebobnaaDoor
namespace Go.Proofs.YtalcmhngebobnaaDoor
open Go.RowKit
set_option maxRecDepth 100000
end Go.Proofs.YtalcmhngebobnaaDoor
namespace Go.Proofs.YtalcmhngebobnaaDoor
open Go.RowKit
set_option linter.unusedVariables false
/-- Bytes begin with a character's. -/
def Begins (bs : List UInt8) : Prop := ∃ r rest, chB r = true ∧ bs = encB r ++ rest
/-- What is answered. -/
def FirstAns (bs : List UInt8) (e : Ending) : Prop :=
  (∃ r rest, chB r = true ∧ bs = encB r ++ rest ∧ e = .returned (.tuple #[.int .i32 r, .int .i64 (encB r).length])) ∨ (¬ Begins bs ∧ e = .returned (.tuple #[.int .i32 0, .int .i64 0]))
theorem longN_cases (b : Nat) : longN b = 1 ∨ longN b = 2 ∨ longN b = 3 ∨ longN b = 4 := by
  unfold longN
  repeat' split
  all_goals simp
theorem toNat_byte {n : Int} {x : UInt8} (h : n.toNat.toUInt8 = x) (h0 : 0 ≤ n) (h1 : n < 256) : (x.toNat : Int) = n := by
  rw [← h, byte_of h0 h1]; omega
theorem encB_form {r : Int} (hc : chB r = true) :
    (∃ x0, encB r = [x0] ∧ longN x0.toNat = 1 ∧ (x0.toNat : Int) = r) ∨
    (∃ x0 x1, encB r = [x0, x1] ∧ longN x0.toNat = 2 ∧ (((x0.toNat : Int) - 192) * 64 + (x1.toNat : Int) - 128) = r) ∨
    (∃ x0 x1 x2, encB r = [x0, x1, x2] ∧ longN x0.toNat = 3 ∧ ((((x0.toNat : Int) - 224) * 64 + (x1.toNat : Int) - 128) * 64 + (x2.toNat : Int) - 128) = r) ∨
    (∃ x0 x1 x2 x3, encB r = [x0, x1, x2, x3] ∧ longN x0.toNat = 4 ∧ (((((x0.toNat : Int) - 240) * 64 + (x1.toNat : Int) - 128) * 64 + (x2.toNat : Int) - 128) * 64 + (x3.toNat : Int) - 128) = r) := by
  rw [chB_iff] at hc
  rcases (show r ≤ 127 ∨ (128 ≤ r ∧ r ≤ 2047) ∨ (2048 ≤ r ∧ r ≤ 65535) ∨ 65536 ≤ r from by omega) with e | e | e | e
  · have he : encB r = [(r).toNat.toUInt8] := by simp only [encB, encZ]; rw [if_pos e]; rfl
    rw [he]
    refine .inl ⟨_, rfl, ?_, ?_⟩
    · rw [byte_of (show 0 ≤ r by omega) (show r < 256 by omega)]
      unfold longN
      repeat' split
      all_goals omega
    · rw [byte_of (show 0 ≤ r by omega) (show r < 256 by omega)]; omega
  · have he : encB r = [(192 + r / 64).toNat.toUInt8, (128 + r % 64).toNat.toUInt8] := by simp only [encB, encZ]; rw [if_neg (by omega), if_pos (by omega)]; rfl
    rw [he]
    refine .inr (.inl ⟨_, _, rfl, ?_, ?_⟩)
    · rw [byte_of (show 0 ≤ 192 + r / 64 by omega) (show 192 + r / 64 < 256 by omega)]
      unfold longN
      repeat' split
      all_goals omega
    · rw [byte_of (show 0 ≤ 192 + r / 64 by omega) (show 192 + r / 64 < 256 by omega), byte_of (show 0 ≤ 128 + r % 64 by omega) (show 128 + r % 64 < 256 by omega)]; omega
  · have he : encB r = [(224 + r / 4096).toNat.toUInt8, (128 + r / 64 % 64).toNat.toUInt8, (128 + r % 64).toNat.toUInt8] := by simp only [encB, encZ]; rw [if_neg (by omega), if_neg (by omega), if_pos (by omega)]; rfl
    rw [he]
    refine .inr (.inr (.inl ⟨_, _, _, rfl, ?_, ?_⟩))
    · rw [byte_of (show 0 ≤ 224 + r / 4096 by omega) (show 224 + r / 4096 < 256 by omega)]
      unfold longN
      repeat' split
      all_goals omega
    · rw [byte_of (show 0 ≤ 224 + r / 4096 by omega) (show 224 + r / 4096 < 256 by omega), byte_of (show 0 ≤ 128 + r / 64 % 64 by omega) (show 128 + r / 64 % 64 < 256 by omega), byte_of (show 0 ≤ 128 + r % 64 by omega) (show 128 + r % 64 < 256 by omega)]; omega
  · have he : encB r = [(240 + r / 262144).toNat.toUInt8, (128 + r / 4096 % 64).toNat.toUInt8, (128 + r / 64 % 64).toNat.toUInt8, (128 + r % 64).toNat.toUInt8] := by simp only [encB, encZ]; rw [if_neg (by omega), if_neg (by omega), if_neg (by omega)]; rfl
    rw [he]
    refine .inr (.inr (.inr ⟨_, _, _, _, rfl, ?_, ?_⟩))
    · rw [byte_of (show 0 ≤ 240 + r / 262144 by omega) (show 240 + r / 262144 < 256 by omega)]
      unfold longN
      repeat' split
      all_goals omega
    · rw [byte_of (show 0 ≤ 240 + r / 262144 by omega) (show 240 + r / 262144 < 256 by omega), byte_of (show 0 ≤ 128 + r / 4096 % 64 by omega) (show 128 + r / 4096 % 64 < 256 by omega), byte_of (show 0 ≤ 128 + r / 64 % 64 by omega) (show 128 + r / 64 % 64 < 256 by omega), byte_of (show 0 ≤ 128 + r % 64 by omega) (show 128 + r % 64 < 256 by omega)]; omega
end Go.Proofs.YtalcmhngebobnaaDoor
