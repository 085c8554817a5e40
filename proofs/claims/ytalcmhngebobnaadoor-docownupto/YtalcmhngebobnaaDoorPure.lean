/-
  Plain functions on numbers: which numbers are characters, and which of them may stand in a document. Conditions: none.
-/
import Derived.Below
namespace Go.Proofs.YtalcmhngebobnaaDoor
open Go.RowKit
/-- A number is a character. -/
def chB (r : Int) : Bool := decide (0 ≤ r ∧ r ≤ 1114111 ∧ (r < 55296 ∨ 57343 < r))
/-- A character may stand in a document. -/
def xmlB (r : Int) : Bool := decide (r = 9 ∨ r = 10 ∨ r = 13 ∨ (32 ≤ r ∧ r ≤ 55295) ∨ (57344 ≤ r ∧ r ≤ 65533) ∨ (65536 ≤ r ∧ r ≤ 1114111))
/-- The bytes of a character. -/
def encZ (r : Int) : List Int :=
  if r ≤ 127 then [r]
  else if r ≤ 2047 then [192 + r / 64, 128 + r % 64]
  else if r ≤ 65535 then [224 + r / 4096, 128 + r / 64 % 64, 128 + r % 64]
  else [240 + r / 262144, 128 + r / 4096 % 64, 128 + r / 64 % 64, 128 + r % 64]
theorem encZ_le (r : Int) : 1 ≤ (encZ r).length ∧ (encZ r).length ≤ 4 := by
  unfold encZ
  split
  · simp
  · split
    · simp
    · split <;> simp
/-- The bytes of characters, one behind the other. -/
def encs (l : List Int) : List Int := l.flatMap encZ
theorem encs_snoc (l : List Int) (r : Int) : encs (l ++ [r]) = encs l ++ encZ r := by simp [encs]
theorem encs_le (l : List Int) : (encs l).length ≤ 4 * l.length := by
  induction l with
  | nil => simp [encs]
  | cons a r ih =>
    have := encZ_le a
    simp only [encs, List.flatMap_cons, List.length_append, List.length_cons] at ih ⊢
    omega
def u8s (l : List Int) : List Value := l.map (Value.int .u8)
def i32s (l : List Int) : List Value := l.map (Value.int .i32)
theorem u8s_append (a b : List Int) : u8s (a ++ b) = u8s a ++ u8s b := by simp [u8s]
/-- Cells lie at a slice's address, below a block's number. -/
def Lies (w : World) (B : Nat) (A : Option Addr) (xs : List Value) : Prop :=
  xs ≠ [] → ∃ b o, A = some ⟨b, o, none⟩ ∧ b < B ∧ ∀ j (h : j < xs.length), w.cell? ⟨b, o + j, none⟩ = some xs[j]
theorem Lies.below {w w' : World} {B : Nat} {A : Option Addr} {xs : List Value} (h : Lies w B A xs) (hb : Below B w w') : Lies w' B A xs := fun hn => by
  obtain ⟨b, o, e, hlt, hc⟩ := h hn
  exact ⟨b, o, e, hlt, fun j hj => (hb.cell (p := ⟨b, o + j, none⟩) hlt).trans (hc j hj)⟩
theorem Lies.mono {w : World} {B B' : Nat} {A : Option Addr} {xs : List Value} (h : Lies w B A xs) (hb : B ≤ B') : Lies w B' A xs := fun hn => by
  obtain ⟨b, o, e, hlt, hc⟩ := h hn
  exact ⟨b, o, e, by omega, hc⟩
theorem ret_bool {a b : Bool} (h : a = b) : Ending.returned (.bool a) = .returned (.bool b) := by rw [h]
end Go.Proofs.YtalcmhngebobnaaDoor
