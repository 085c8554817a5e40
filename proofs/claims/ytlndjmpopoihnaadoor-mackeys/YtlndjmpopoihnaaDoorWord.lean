/-
  The model's reckoning on 32-bit words and bytes, as Lean's words and bytes. Conditions: none.
-/
import Derived.Test.YtlndjmpopoihnaaDoorPure
import Derived.Laws.BitsAllLaws
import Derived.Laws.Shifts
namespace Go.Proofs.YtlndjmpopoihnaaDoor
theorem u_lo (x : UInt32) : 0 ≤ u x := by unfold u; omega
theorem u_hi (x : UInt32) : u x < 4294967296 := by unfold u; have := x.toNat_lt; omega
theorem v8_lo (x : UInt8) : 0 ≤ v8 x := by unfold v8; omega
theorem v8_hi (x : UInt8) : v8 x < 256 := by unfold v8; have := x.toNat_lt; omega
theorem u_and (x y : UInt32) : bits .and .u32 (u x) (u y) = u (x &&& y) := by
  unfold u; rw [u32_and_nat _ _ x.toNat_lt y.toNat_lt, UInt32.toNat_and]
theorem u_or (x y : UInt32) : bits .or .u32 (u x) (u y) = u (x ||| y) := by
  unfold u; rw [u32_or_nat _ _ x.toNat_lt y.toNat_lt, UInt32.toNat_or]
theorem u_xor (x y : UInt32) : bits .xor .u32 (u x) (u y) = u (x ^^^ y) := by
  unfold u; rw [u32_xor_nat _ _ x.toNat_lt y.toNat_lt, UInt32.toNat_xor]
theorem u_not (x : UInt32) : bits .xor .u32 4294967295 (u x) = u (~~~x) := by
  have h : (4294967295 : Int) = u 4294967295 := by decide
  rw [h, u_xor]
  refine congrArg u ?_
  apply UInt32.toBitVec_inj.1
  simp only [UInt32.toBitVec_xor, UInt32.toBitVec_not]
  have : UInt32.toBitVec 4294967295 = BitVec.allOnes 32 := by decide
  rw [this, BitVec.allOnes_xor]
theorem u_nots (x : UInt32) : bits .xor .u32 IntKind.u32.max (u x) = u (~~~x) := u_not x
theorem u_add (x y : UInt32) : IntKind.u32.wrap (u x + u y) = u (x + y) := by
  unfold u; rw [IntKind.wrap_u32', UInt32.toNat_add]; omega
theorem u_shr (x : UInt32) (n : UInt32) (hn : n < 32) : u x / ((2 ^ n.toNat : Nat) : Int) = u (x >>> n) := by
  unfold u
  rw [UInt32.toNat_shiftRight]
  have : n.toNat % 32 = n.toNat := Nat.mod_eq_of_lt (by simpa [UInt32.lt_iff_toNat_lt] using hn)
  rw [this, Nat.shiftRight_eq_div_pow, Int.natCast_ediv]
theorem u_shl (x : UInt32) (n : UInt32) (hn : n < 32) : IntKind.u32.wrap (u x * ((2 ^ n.toNat : Nat) : Int)) = u (x <<< n) := by
  unfold u
  rw [UInt32.toNat_shiftLeft, IntKind.wrap_u32']
  have : n.toNat % 32 = n.toNat := Nat.mod_eq_of_lt (by simpa [UInt32.lt_iff_toNat_lt] using hn)
  rw [this, Nat.shiftLeft_eq, ← Int.natCast_mul]
  rfl
theorem u_byte (x : UInt32) : IntKind.u8.wrap (u x) = v8 x.toUInt8 := by
  unfold u v8
  rw [IntKind.wrap_u8', UInt32.toNat_toUInt8]
  rfl
theorem u_of_v8 (b : UInt8) : IntKind.u32.wrap (v8 b) = u b.toUInt32 := by
  have := b.toNat_lt
  unfold u v8
  rw [IntKind.wrap_u32', UInt8.toNat_toUInt32]; omega
theorem v8_as_u (b : UInt8) : v8 b = u b.toUInt32 := by
  unfold u v8
  rw [UInt8.toNat_toUInt32]
theorem u_inj {x y : UInt32} : u x = u y ↔ x = y := by
  unfold u
  rw [← UInt32.toNat_inj]; omega
theorem v8_inj {x y : UInt8} : v8 x = v8 y ↔ x = y := by
  unfold v8
  rw [← UInt8.toNat_inj]; omega
end Go.Proofs.YtlndjmpopoihnaaDoor
