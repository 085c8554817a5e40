/-
  The HMAC as a plain function on bytes; the model's reckoning on bytes and on numbers of 64 bits. Conditions: none.
-/
import Derived.Test.YtlndjmpopoihnaaDoorMem
namespace Go.Proofs.YtlndjmpopoihnaaDoor
/-- Each byte xored with one. -/
def mx (l : List UInt8) (x : UInt8) : List UInt8 := l.map (· ^^^ x)
/-- A key that is too long is its sum. -/
def keyH (k : List UInt8) : List UInt8 := if 64 < k.length then sha k else k
/-- A key with noughts behind it. -/
def keyB (k : List UInt8) : List UInt8 := keyH k ++ List.replicate (64 - (keyH k).length) 0
def hmac (k b : List UInt8) : List UInt8 := sha (mx (keyB k) 92 ++ sha (mx (keyB k) 54 ++ b))
theorem mx_length (l : List UInt8) (x : UInt8) : (mx l x).length = l.length := by simp [mx]
theorem sha_len (l : List UInt8) : (sha l).length = 32 := rfl
theorem keyH_long {k : List UInt8} (h : 64 < k.length) : keyH k = sha k := by unfold keyH; rw [if_pos h]
theorem keyH_short {k : List UInt8} (h : ¬ 64 < k.length) : keyH k = k := by unfold keyH; rw [if_neg h]
theorem keyH_le (k : List UInt8) : (keyH k).length ≤ 64 := by
  unfold keyH
  split
  · rw [sha_len]; omega
  · omega
theorem keyB_length (k : List UInt8) : (keyB k).length = 64 := by
  have := keyH_le k
  unfold keyB
  rw [List.length_append, List.length_replicate]; omega
theorem hmac_length (k b : List UInt8) : (hmac k b).length = 32 := rfl
/-- A key does as what it begins with and noughts do. -/
theorem keyB_more {k : List UInt8} {j : Nat} (h : (keyH k).length + j ≤ 64) : keyB (keyH k ++ List.replicate j 0) = keyB k := by
  have e : keyH (keyH k ++ List.replicate j 0) = keyH k ++ List.replicate j 0 := keyH_short (by rw [List.length_append, List.length_replicate]; omega)
  unfold keyB
  rw [e, List.append_assoc, List.length_append, List.length_replicate, List.replicate_append_replicate]
  congr 2
  omega
theorem v_xor (x y : UInt8) : bits .xor .u8 (v8 x) (v8 y) = v8 (x ^^^ y) := by
  unfold v8; rw [u8_xor_nat _ _ x.toNat_lt y.toNat_lt, UInt8.toNat_xor]
theorem ofInt_i64n (a : Nat) (ha : a < 9223372036854775808) : (BitVec.ofInt 64 (a : Int)).toNat = a := by
  rw [BitVec.ofInt_natCast, BitVec.toNat_ofNat]; exact Nat.mod_eq_of_lt (by omega)
theorem wrap_i64n (n : Int) : IntKind.i64.wrap n = (n + 9223372036854775808) % 18446744073709551616 - 9223372036854775808 := by
  simp [IntKind.wrap, IntKind.bits, IntKind.signed]
  omega
theorem i64_xor_n (a b : Nat) (ha : a < 9223372036854775808) (hb : b < 9223372036854775808) : bits .xor .i64 (a : Int) (b : Int) = ((a ^^^ b : Nat) : Int) := by
  have hx : a ^^^ b < 2 ^ 63 := Nat.xor_lt_two_pow (by omega) (by omega)
  show IntKind.i64.wrap ((BitVec.ofInt 64 (a : Int) ^^^ BitVec.ofInt 64 (b : Int)).toNat : Int) = _
  rw [BitVec.toNat_xor, ofInt_i64n a ha, ofInt_i64n b hb, wrap_i64n]
  omega
theorem i64_or_n (a b : Nat) (ha : a < 9223372036854775808) (hb : b < 9223372036854775808) : bits .or .i64 (a : Int) (b : Int) = ((a ||| b : Nat) : Int) := by
  have hx : a ||| b < 2 ^ 63 := Nat.or_lt_two_pow (by omega) (by omega)
  show IntKind.i64.wrap ((BitVec.ofInt 64 (a : Int) ||| BitVec.ofInt 64 (b : Int)).toNat : Int) = _
  rw [BitVec.toNat_or, ofInt_i64n a ha, ofInt_i64n b hb, wrap_i64n]
  omega
/-- What differs so far. -/
def dif (a b : List UInt8) : Nat → Nat
  | 0 => a.length ^^^ b.length
  | k + 1 => dif a b k ||| (a.getD k 0 ^^^ b.getD k 0).toNat
theorem dif_lt {a b : List UInt8} (ha : a.length < 9223372036854775808) (hb : b.length < 9223372036854775808) : ∀ k, dif a b k < 9223372036854775808
  | 0 => by
    have : a.length ^^^ b.length < 2 ^ 63 := Nat.xor_lt_two_pow (by omega) (by omega)
    unfold dif; omega
  | k + 1 => by
    have h1 := dif_lt ha hb k
    have h2 := (a.getD k 0 ^^^ b.getD k 0).toNat_lt
    have : dif a b k ||| (a.getD k 0 ^^^ b.getD k 0).toNat < 2 ^ 63 := Nat.or_lt_two_pow (by omega) (by omega)
    unfold dif; omega
theorem nat_xor0 {a b : Nat} : a ^^^ b = 0 ↔ a = b := by
  constructor
  · intro h
    have := congrArg (· ^^^ b) h
    simpa [Nat.xor_assoc] using this
  · rintro rfl; simp
theorem dif_zero {a b : List UInt8} : ∀ k, dif a b k = 0 ↔ a.length = b.length ∧ ∀ i < k, a.getD i 0 = b.getD i 0
  | 0 => by
    unfold dif
    rw [nat_xor0]
    exact ⟨fun h => ⟨h, fun i hi => by omega⟩, fun h => h.1⟩
  | k + 1 => by
    unfold dif
    rw [Nat.or_eq_zero_iff, dif_zero k, UInt8.toNat_xor, nat_xor0, UInt8.toNat_inj]
    constructor
    · rintro ⟨⟨h1, h2⟩, h3⟩
      refine ⟨h1, fun i hi => ?_⟩
      rcases Nat.lt_or_ge i k with h | h
      · exact h2 i h
      · obtain rfl : i = k := by omega
        exact h3
    · rintro ⟨h1, h2⟩
      exact ⟨⟨h1, fun i hi => h2 i (by omega)⟩, h2 k (by omega)⟩
theorem dif_all {a b : List UInt8} {m : Nat} (h1 : a.length ≤ m) : ((dif a b m : Int) == 0) = decide (a = b) := by
  have h : dif a b m = 0 ↔ a = b := by
    rw [dif_zero]
    constructor
    · rintro ⟨hl, hi⟩
      apply List.ext_getElem hl
      intro i hi1 hi2
      have := hi i (by omega)
      rwa [List.getD_eq_getElem?_getD, List.getD_eq_getElem?_getD, List.getElem?_eq_getElem hi1, List.getElem?_eq_getElem hi2] at this
    · rintro rfl
      exact ⟨rfl, fun _ _ => rfl⟩
  by_cases hab : a = b
  · rw [decide_eq_true hab, h.2 hab]; rfl
  · rw [decide_eq_false hab]
    have : dif a b m ≠ 0 := fun e => hab (h.1 e)
    simp; exact this
end Go.Proofs.YtlndjmpopoihnaaDoor
