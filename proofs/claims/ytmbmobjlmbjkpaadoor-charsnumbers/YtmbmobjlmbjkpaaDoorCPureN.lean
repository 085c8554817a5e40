/-
  A number's digits, parted and read. On lists of bytes. Conditions: none.
-/
import Derived.Test.YtmbmobjlmbjkpaaDoorCPureP
namespace Go.Proofs.YtmbmobjlmbjkpaaDoor
/-- A digit, in small letters. -/
def hexC (m : Nat) : UInt8 := if m < 10 then (48 + m).toUInt8 else (87 + m).toUInt8
theorem hex_all : ∀ m : Fin 16, dig 16 (hexC m.val) = some m.val ∧ (48 ≤ (hexC m.val).toNat ∧ (hexC m.val).toNat ≤ 57 ∨ 97 ≤ (hexC m.val).toNat ∧ (hexC m.val).toNat ≤ 102) := by decide
theorem ten_all : ∀ m : Fin 10, dig 10 (hexC m.val) = some m.val ∧ (hexC m.val).toNat = 48 + m.val := by decide
/-- The letters of digits. -/
def dC (c : UInt8) : Prop := (48 ≤ c.toNat ∧ c.toNat ≤ 57) ∨ (97 ≤ c.toNat ∧ c.toNat ≤ 102)
theorem dC_ten {m : Nat} (h : m < 10) : dC (hexC m) := by
  have := (ten_all ⟨m, h⟩).2
  simp only at this
  unfold dC; omega
theorem dC_hex {m : Nat} (h : m < 16) : dC (hexC m) := (hex_all ⟨m, h⟩).2
/-- Digits that were parted off a number: what is left, and they. -/
structure Parted (base r n : Nat) (T : List UInt8) : Prop where
  num : numL base n T = some r
  all : ∀ c ∈ T, dC c
  len : T.length ≤ 32
  low : n < 2 ^ (32 - T.length)
theorem Parted.start {base r : Nat} (h : r < 2147483648) : Parted base r r [] := ⟨rfl, (fun c hc => by cases hc), by simp, by simp; omega⟩
theorem Parted.step {base r n : Nat} {T : List UInt8} (hb : base = 10 ∨ base = 16) (h : Parted base r n T) (hn : 0 < n) {c : UInt8} (hc : dig base c = some (n % base)) (hd : dC c) : Parted base r (n / base) (c :: T) := by
  have hlow := h.low
  have hlen := h.len
  have hj : T.length < 32 := by
    rcases Nat.lt_or_ge T.length 32 with h1 | h1
    · exact h1
    · rw [show 32 - T.length = 0 by omega] at hlow
      simp at hlow; omega
  obtain ⟨j, hjj⟩ : ∃ j, 32 - T.length = j + 1 := ⟨31 - T.length, by omega⟩
  rw [hjj, Nat.pow_succ] at hlow
  refine ⟨?_, ?_, by rw [List.length_cons]; omega, ?_⟩
  · rw [numL_digit hc, Nat.div_add_mod' n base]; exact h.num
  · intro d hd'
    rcases List.mem_cons.1 hd' with rfl | h'
    · exact hd
    · exact h.all d h'
  · rw [List.length_cons, show 32 - (T.length + 1) = j by omega]
    generalize 2 ^ j = p at *
    rcases hb with rfl | rfl <;> omega
theorem dC_small {c : UInt8} (h : dC c) : 32 ≤ c.toNat ∧ c.toNat ≤ 126 := by unfold dC at h; omega
theorem dC_not {c : UInt8} (h : dC c) : c ≠ 59 ∧ c ≠ 93 ∧ c ≠ 120 := by
  refine ⟨?_, ?_, ?_⟩ <;> (rintro rfl; revert h; unfold dC; decide)
/-- Noughts, and a number's digits. -/
structure Digits (base r : Nat) (D : List UInt8) : Prop where
  num : numL base 0 D = some r
  ne : D ≠ []
  all : ∀ c ∈ D, dC c
theorem Digits.of {base r p : Nat} {T : List UInt8} (hb : 0 < base) (hp : 1 ≤ p) (h : Parted base r 0 T) : Digits base r (List.replicate p 48 ++ T) := by
  refine ⟨by rw [numL_noughts hb]; exact h.num, ?_, ?_⟩
  · intro e
    have := congrArg List.length e
    rw [List.length_append, List.length_replicate] at this
    simp at this; omega
  · intro c hc
    rcases List.mem_append.1 hc with h1 | h1
    · rw [(List.mem_replicate.1 h1).2]; unfold dC; decide
    · exact h.all c h1
theorem Digits.chr {base r : Nat} {D : List UInt8} (h : Digits base r D) : chrL base D = if xmlB (r : Int) = true then some (encB (r : Int)) else none := chrL_num h.ne h.num
theorem ends_mem {s : List UInt8} (h : ends s) : (93 : UInt8) ∈ s := by
  obtain ⟨a, b, rfl⟩ := h
  simp
theorem exp_one {b : Bool} {x : List UInt8} (h : (59 : UInt8) ∉ x) : expL b (38 :: (x ++ [59])) = refL x := by
  rw [exp_ref h]
  cases refL x with
  | none => rfl
  | some y => simp [exp_nil]
theorem Digits.not {base r : Nat} {D : List UInt8} (h : Digits base r D) {d : UInt8} (hd : d = 59 ∨ d = 93) : d ∉ D := fun hm => by
  have := dC_not (h.all d hm)
  rcases hd with rfl | rfl
  · exact this.1 rfl
  · exact this.2.1 rfl
/-- A reference by a number. -/
theorem cont_ten {r : Nat} {D : List UInt8} (h : Digits 10 r D) : contL (38 :: 35 :: (D ++ [59])) = if xmlB (r : Int) = true then some (encB (r : Int)) else none := by
  have he : ¬ ends (38 :: 35 :: (D ++ [59])) := fun he => by
    have := ends_mem he
    simp only [List.mem_cons, List.mem_append, List.not_mem_nil, or_false] at this
    rcases this with h1 | h1 | h1 | h1
    · cases h1
    · cases h1
    · exact h.not (.inr rfl) h1
    · cases h1
  have ht : txt (38 :: 35 :: (D ++ [59])) := txt_plain (fun c hc => by
    simp only [List.mem_cons, List.mem_append, List.not_mem_nil, or_false] at hc
    rcases hc with rfl | rfl | h1 | rfl
    · decide
    · decide
    · exact dC_small (h.all c h1)
    · decide)
  have hx : (59 : UInt8) ∉ 35 :: D := by
    simp only [List.mem_cons, not_or]
    exact ⟨by decide, h.not (.inl rfl)⟩
  rw [cont_rep he, rep_txt ht, show 38 :: 35 :: (D ++ [59]) = 38 :: ((35 :: D) ++ [59]) from rfl, exp_one hx, refL_ten D, h.chr]
  cases hD : D with
  | nil => simp
  | cons c t =>
    intro e
    injection e with e
    exact (dC_not (h.all c (by rw [hD]; simp))).2.2 e
theorem val_hex {r : Nat} {D : List UInt8} (h : Digits 16 r D) : valL (38 :: 35 :: 120 :: (D ++ [59])) = if xmlB (r : Int) = true then some (encB (r : Int)) else none := by
  have ht : txt (38 :: 35 :: 120 :: (D ++ [59])) := txt_plain (fun c hc => by
    simp only [List.mem_cons, List.mem_append, List.not_mem_nil, or_false] at hc
    rcases hc with rfl | rfl | rfl | h1 | rfl
    · decide
    · decide
    · decide
    · exact dC_small (h.all c h1)
    · decide)
  have hx : (59 : UInt8) ∉ 35 :: 120 :: D := by
    simp only [List.mem_cons, not_or]
    exact ⟨by decide, by decide, h.not (.inl rfl)⟩
  unfold valL
  rw [if_pos ht, show 38 :: 35 :: 120 :: (D ++ [59]) = 38 :: ((35 :: 120 :: D) ++ [59]) from rfl, exp_one hx, refL_hex D, h.chr]
end Go.Proofs.YtmbmobjlmbjkpaaDoor
