/-
  The document's own reckoning and the program's: sums for ors, ors for xors. Conditions: none.
-/
import Derived.Test.YtlndjmpopoihnaaDoorWord
namespace Go.Proofs.YtlndjmpopoihnaaDoor
theorem ch_or (e f g : UInt32) : (e &&& f) ||| (~~~e &&& g) = ch e f g := by
  unfold ch
  apply UInt32.toBitVec_inj.1
  simp only [UInt32.toBitVec_or, UInt32.toBitVec_xor, UInt32.toBitVec_and, UInt32.toBitVec_not]
  apply BitVec.eq_of_getLsbD_eq
  intro i hi
  simp only [BitVec.getLsbD_or, BitVec.getLsbD_xor, BitVec.getLsbD_and, BitVec.getLsbD_not, hi, decide_true, Bool.true_and]
  cases e.toBitVec.getLsbD i <;> cases f.toBitVec.getLsbD i <;> cases g.toBitVec.getLsbD i <;> rfl
theorem maj_or (a b c : UInt32) : (a &&& b) ||| (a &&& c) ||| (b &&& c) = maj a b c := by
  unfold maj
  apply UInt32.toBitVec_inj.1
  simp only [UInt32.toBitVec_or, UInt32.toBitVec_xor, UInt32.toBitVec_and]
  apply BitVec.eq_of_getLsbD_eq
  intro i hi
  simp only [BitVec.getLsbD_or, BitVec.getLsbD_xor, BitVec.getLsbD_and]
  cases a.toBitVec.getLsbD i <;> cases b.toBitVec.getLsbD i <;> cases c.toBitVec.getLsbD i <;> rfl
theorem toNat_byte_shl (b : UInt8) (n : UInt32) (hn : n.toNat ≤ 24) : (b.toUInt32 <<< n).toNat = b.toNat <<< n.toNat := by
  have hb := b.toNat_lt
  have h1 : 2 ^ n.toNat ≤ 2 ^ 24 := Nat.pow_le_pow_right (by omega) hn
  rw [UInt32.toNat_shiftLeft, UInt8.toNat_toUInt32, Nat.mod_eq_of_lt (by omega : n.toNat < 32)]
  refine Nat.mod_eq_of_lt ?_
  rw [Nat.shiftLeft_eq]
  have h2 : b.toNat * 2 ^ n.toNat ≤ 255 * 2 ^ 24 := Nat.mul_le_mul (by omega) h1
  omega
/-- Four bytes, added or laid together. -/
theorem word_sum (b0 b1 b2 b3 : UInt8) : b0.toUInt32 <<< 24 + b1.toUInt32 <<< 16 + b2.toUInt32 <<< 8 + b3.toUInt32 = b0.toUInt32 <<< 24 ||| b1.toUInt32 <<< 16 ||| b2.toUInt32 <<< 8 ||| b3.toUInt32 := by
  have h0 := b0.toNat_lt
  have h1 := b1.toNat_lt
  have h2 := b2.toNat_lt
  have h3 := b3.toNat_lt
  apply UInt32.toNat_inj.1
  simp only [UInt32.toNat_add, UInt32.toNat_or]
  rw [toNat_byte_shl b0 24 (by decide), toNat_byte_shl b1 16 (by decide), toNat_byte_shl b2 8 (by decide), UInt8.toNat_toUInt32]
  have e24 : (24 : UInt32).toNat = 24 := rfl
  have e16 : (16 : UInt32).toNat = 16 := rfl
  have e8 : (8 : UInt32).toNat = 8 := rfl
  rw [e24, e16, e8]
  have k1 : b0.toNat <<< 24 ||| b1.toNat <<< 16 = (b0.toNat * 256 + b1.toNat) <<< 16 := by
    rw [← Nat.shiftLeft_add_eq_or_of_lt (by rw [Nat.shiftLeft_eq]; omega) b0.toNat]
    simp only [Nat.shiftLeft_eq]; omega
  have k2 : (b0.toNat * 256 + b1.toNat) <<< 16 ||| b2.toNat <<< 8 = (b0.toNat * 65536 + b1.toNat * 256 + b2.toNat) <<< 8 := by
    rw [← Nat.shiftLeft_add_eq_or_of_lt (by rw [Nat.shiftLeft_eq]; omega)]
    simp only [Nat.shiftLeft_eq]; omega
  have k3 : (b0.toNat * 65536 + b1.toNat * 256 + b2.toNat) <<< 8 ||| b3.toNat = b0.toNat * 16777216 + b1.toNat * 65536 + b2.toNat * 256 + b3.toNat := by
    rw [← Nat.shiftLeft_add_eq_or_of_lt (by omega)]
    simp only [Nat.shiftLeft_eq]; omega
  rw [k1, k2, k3]
  simp only [Nat.shiftLeft_eq]
  omega
end Go.Proofs.YtlndjmpopoihnaaDoor
