/-
  base.queue: put and take. Conditions: few bits wait.
-/
import Derived.Test.YthadagnebnakhaaBMem
import Derived.Test.YthadagnebnakhaaBPure
import Derived.Laws.Bits64
import Derived.Deep.Cut
import Derived.StillTailTactics
namespace Go.Proofs.Ythadagnebnakhaa
open Go.RowKit
set_option linter.unusedVariables false
/-- The queue lies in block g: these bits, so many. -/
def Qu (w : World) (g z c : Nat) : Prop := Holds w g 38 [.int .u64 (z : Int), .int .u64 (c : Int)]
theorem or_low {z n x : Nat} (h : x < 2 ^ n) : z * 2 ^ n ||| x = z * 2 ^ n + x := by
  rw [Nat.mul_comm, ← Nat.two_pow_add_eq_or_of_lt h]
theorem pow_le8 {n : Nat} (hn : n ≤ 8) : 2 ^ n ≤ 256 := Nat.pow_le_pow_right (n := 2) (by omega) hn
theorem wrap_u64 (n : Nat) (h : n < 18446744073709551616) : IntKind.u64.wrap (n : Int) = (n : Int) := by
  rw [IntKind.wrap_u64]; omega
set_option maxHeartbeats 1000000 in
theorem put_any (g z c x n : Nat) (w : World) (h : Qu w g z c) (hx : x < 2 ^ n) (hn : n ≤ 8) (hz : z < 1000000) (hc : c ≤ 100) :
    Calls Try.prog 14 #[.pointer (some ⟨g, 0, none⟩), .int .u64 (x : Int), .int .u64 (n : Int)] w fun e w' => e = .returned (.tuple #[]) ∧ Qu w' g (z * 2 ^ n + x) (c + n) ∧ w.grownBy w' (some g) := by
  have hp := pow_le8 hn
  have hzn : z * 2 ^ n ≤ 1000000 * 256 := Nat.mul_le_mul (by omega) hp
  have e1 : IntKind.u64.wrap ((z : Int) * 2 ^ n) = ((z * 2 ^ n : Nat) : Int) := by
    have : ((z : Int) * 2 ^ n) = ((z * 2 ^ n : Nat) : Int) := by push_cast; rfl
    rw [this, wrap_u64 _ (by omega)]
  have e2 : bits .or .u64 ((z * 2 ^ n : Nat) : Int) (x : Int) = ((z * 2 ^ n + x : Nat) : Int) := by
    rw [u64_or_nat _ _ (by omega) (by omega), or_low hx]
  obtain ⟨Z, hZ⟩ : ∃ Z, z * 2 ^ n = Z := ⟨_, rfl⟩
  rw [hZ] at e1 e2 hzn ⊢
  obtain ⟨Y, hY⟩ : ∃ Y, Z + x = Y := ⟨_, rfl⟩
  rw [hY] at e2 ⊢
  have h0 : w.cell? ⟨g, 0, none⟩ = some (.int .u64 (z : Int)) := Holds.cell h 0
  have h1 : w.cell? ⟨g, 1, none⟩ = some (.int .u64 (c : Int)) := Holds.cell h 1
  have f0 := Holds.soft h
  have HH := Lib.hid h
  clear h hx hZ hY hzn
  go_enter Try.func14, Try.ntmps14
  go_wp2
  go_end0
  refine ⟨rfl, ?_, one_put (p := ⟨g, 1, none⟩) (one_put (p := ⟨g, 0, none⟩) (one_refl w _) (.inl rfl) _) (.inl rfl) _⟩
  exact (HH.out.put 0 _).put 1 _
theorem and_low (z c : Nat) : z &&& (2 ^ c - 1) = z % 2 ^ c := Nat.and_two_pow_sub_one_eq_mod z c
set_option maxHeartbeats 1000000 in
theorem take_any (g z c n : Nat) (w : World) (h : Qu w g z c) (hn : n ≤ c) (hz : z < 1000000000) (hc : c ≤ 16) :
    Calls Try.prog 15 #[.pointer (some ⟨g, 0, none⟩), .int .u64 (n : Int)] w fun e w' => e = .returned (.int .u64 ((z / 2 ^ (c - n) : Nat) : Int)) ∧ Qu w' g (z % 2 ^ (c - n)) (c - n) ∧ w.grownBy w' (some g) := by
  obtain ⟨m, hm⟩ : ∃ m, c - n = m := ⟨_, rfl⟩
  rw [hm]
  have h0 : w.cell? ⟨g, 0, none⟩ = some (.int .u64 (z : Int)) := Holds.cell h 0
  have h1 : w.cell? ⟨g, 1, none⟩ = some (.int .u64 (c : Int)) := Holds.cell h 1
  have f0 := Holds.soft h
  have HH := Lib.hid h
  have e1 : IntKind.u64.wrap ((c : Int) - (n : Int)) = (m : Int) := by
    rw [show (c : Int) - (n : Int) = (m : Int) by omega]; exact wrap_u64 m (by omega)
  have hp : 2 ^ m ≤ 2 ^ 16 := Nat.pow_le_pow_right (n := 2) (by omega) (by omega)
  have hp1 : 1 ≤ 2 ^ m := Nat.one_le_two_pow
  have e3 : IntKind.u64.wrap ((2 : Int) ^ m) = ((2 ^ m : Nat) : Int) := by
    rw [show ((2 : Int) ^ m) = ((2 ^ m : Nat) : Int) by push_cast; rfl, wrap_u64 _ (by omega)]
  have e4 : IntKind.u64.wrap (((2 ^ m : Nat) : Int) - 1) = ((2 ^ m - 1 : Nat) : Int) := by
    rw [show (((2 ^ m : Nat) : Int) - 1) = ((2 ^ m - 1 : Nat) : Int) by omega, wrap_u64 _ (by omega)]
  have e5 : bits .and .u64 (z : Int) ((2 ^ m - 1 : Nat) : Int) = ((z % 2 ^ m : Nat) : Int) := by
    rw [u64_and_nat _ _ (by omega) (by omega), and_low]
  have e6 : (z : Int) / 2 ^ m = ((z / 2 ^ m : Nat) : Int) := by push_cast; rfl
  generalize z % 2 ^ m = Z2 at *
  generalize z / 2 ^ m = Z1 at *
  generalize 2 ^ m - 1 = M1 at *
  generalize (2 : Nat) ^ m = M at *
  have hmi : (m : Int) ≤ 64 := by omega
  clear h hm hn hp hp1 hc
  go_enter Try.func15, Try.ntmps15
  go_upto_region 2 with fail
  have q1 : Qu (w.setCell ⟨g, 1, none⟩ (.int .u64 (m : Int))) g z m := HH.out.put 1 _
  have g1 : w.grownBy (w.setCell ⟨g, 1, none⟩ (.int .u64 (m : Int))) (some g) := one_put (p := ⟨g, 1, none⟩) (one_refl w _) (.inl rfl) _
  clear h0 h1 f0 HH e1
  generalize w.setCell ⟨g, 1, none⟩ (.int .u64 (m : Int)) = w1 at *
  have h0 : w1.cell? ⟨g, 0, none⟩ = some (.int .u64 (z : Int)) := Holds.cell q1 0
  have h1 : w1.cell? ⟨g, 1, none⟩ = some (.int .u64 (m : Int)) := Holds.cell q1 1
  have H1 := Lib.hid q1
  clear q1
  go_quiet (fail)
  go_wp2
  have q2 : Qu (w1.drewN nq) g z m := H1.out.drewN nq
  have g2 : w.grownBy (w1.drewN nq) (some g) := one_drewN g1 nq
  clear h0 h1 H1 g1
  generalize w1.drewN nq = w2 at *
  have h0 : w2.cell? ⟨g, 0, none⟩ = some (.int .u64 (z : Int)) := Holds.cell q2 0
  have h1 : w2.cell? ⟨g, 1, none⟩ = some (.int .u64 (m : Int)) := Holds.cell q2 1
  have H2 := Lib.hid q2
  clear q2
  go_still_tail 11, (by kernel_rfl)
  change wpList _ _ _ _ _ w2.drew
  have q3 : Qu w2.drew g z m := H2.out
  have g3 : w.grownBy w2.drew (some g) := ⟨g2.os, g2.tape, g2.output, g2.size, g2.block⟩
  clear h0 h1 H2 g2
  generalize w2.drew = w3 at *
  have h0 : w3.cell? ⟨g, 0, none⟩ = some (.int .u64 (z : Int)) := Holds.cell q3 0
  have f0 := Holds.soft q3
  have H3 := Lib.hid q3
  clear q3
  go_wp2
  go_ret
  exact ⟨rfl, H3.out.put 0 _, one_put (p := ⟨g, 0, none⟩) g3 (.inl rfl) _⟩
end Go.Proofs.Ythadagnebnakhaa
