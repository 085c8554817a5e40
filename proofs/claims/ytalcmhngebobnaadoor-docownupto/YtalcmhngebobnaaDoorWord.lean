/-
  utf8.word of a slice of bytes: the number that its first eight bytes spell. Conditions: there are eight bytes.
-/
import Derived.Test.YtalcmhngebobnaaDoorLeaf
import Derived.WalkKit
import Derived.Lib.Endian
import Derived.Lib.EndianBits
import Derived.Deep.Draws
import Derived.Deep.QuietTactic
import Derived.BigQuiet
namespace Go.Proofs.YtalcmhngebobnaaDoor
open Go.RowKit
set_option maxHeartbeats 4000000 in
set_option maxRecDepth 100000 in
theorem word_at (b o n c : Nat) (x0 x1 x2 x3 x4 x5 x6 x7 : UInt8) (w : World) (hn : 8 ≤ n) (hm : n ≤ 9223372036854775807)
    (c0 : w.cell? ⟨b, o, none⟩ = some (.int .u8 x0.toNat)) (c1 : w.cell? ⟨b, o + 1, none⟩ = some (.int .u8 x1.toNat)) (c2 : w.cell? ⟨b, o + 2, none⟩ = some (.int .u8 x2.toNat)) (c3 : w.cell? ⟨b, o + 3, none⟩ = some (.int .u8 x3.toNat)) (c4 : w.cell? ⟨b, o + 4, none⟩ = some (.int .u8 x4.toNat)) (c5 : w.cell? ⟨b, o + 5, none⟩ = some (.int .u8 x5.toNat)) (c6 : w.cell? ⟨b, o + 6, none⟩ = some (.int .u8 x6.toNat)) (c7 : w.cell? ⟨b, o + 7, none⟩ = some (.int .u8 x7.toNat)) :
    Calls Tryd.prog 67 #[.slice (some ⟨b, o, none⟩) n c] w fun e w' => e = .returned (.int .u64 (Lib.leNat [x0, x1, x2, x3, x4, x5, x6, x7])) ∧ ∃ q, w' = w.drewN q := by
  have h0 : x0.toNat < 256 := x0.toNat_lt
  have h1 : x1.toNat < 256 := x1.toNat_lt
  have h2 : x2.toNat < 256 := x2.toNat_lt
  have h3 : x3.toNat < 256 := x3.toNat_lt
  have h4 : x4.toNat < 256 := x4.toNat_lt
  have h5 : x5.toNat < 256 := x5.toNat_lt
  have h6 : x6.toNat < 256 := x6.toNat_lt
  have h7 : x7.toNat < 256 := x7.toNat_lt
  have hv : ((Lib.leNat [x0, x1, x2, x3, x4, x5, x6, x7] : Nat) : Int) = (x0.toNat : Int) + (x1.toNat : Int) * 256 + (x2.toNat : Int) * 65536 + (x3.toNat : Int) * 16777216 + (x4.toNat : Int) * 4294967296 + (x5.toNat : Int) * 1099511627776 + (x6.toNat : Int) * 281474976710656 + (x7.toNat : Int) * 72057594037927936 := by
    simp only [Lib.leNat]
    push_cast
    omega
  rw [hv]
  clear hv
  have q0 : (0 : Int) < (n : Int) := by omega
  have p0 : 0 < n := by omega
  have q1 : (1 : Int) < (n : Int) := by omega
  have p1 : 1 < n := by omega
  have q2 : (2 : Int) < (n : Int) := by omega
  have p2 : 2 < n := by omega
  have q3 : (3 : Int) < (n : Int) := by omega
  have p3 : 3 < n := by omega
  have q4 : (4 : Int) < (n : Int) := by omega
  have p4 : 4 < n := by omega
  have q5 : (5 : Int) < (n : Int) := by omega
  have p5 : 5 < n := by omega
  have q6 : (6 : Int) < (n : Int) := by omega
  have p6 : 6 < n := by omega
  have q7 : (7 : Int) < (n : Int) := by omega
  have p7 : 7 < n := by omega
  go_enter Tryd.func67, Tryd.ntmps67
  go_wp2
  go_quiet (fail)
  go_wp2
  go_ret
  refine ⟨?_, _, rfl⟩
  simp (disch := omega) only [u64_or8, u64_or16, u64_or24, u64_or32, u64_or40, u64_or48, u64_or56]
  rfl
end Go.Proofs.YtalcmhngebobnaaDoor
