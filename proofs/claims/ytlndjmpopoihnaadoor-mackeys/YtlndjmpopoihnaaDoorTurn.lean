/-
  sha.turn: a turn to the right. Conditions: by one of the ten numbers that are used.
-/
import Derived.Test.YtlndjmpopoihnaaDoorProg
import Derived.Test.YtlndjmpopoihnaaDoorWord
import Derived.WalkKit
namespace Go.Proofs.YtlndjmpopoihnaaDoor
open Go.RowKit
theorem rot_2 (x : UInt32) (w : World) : Calls Tryd.prog 29 #[.int .u32 (u x), .int .i64 (-2)] w fun e w' => e = .returned (.int .u32 (u (rotr x 2))) ∧ w = w' := by
  have e1 : bits .and .u64 (IntKind.u64.wrap (-2)) 31 = 30 := by decide
  have hs : IntKind.u32.wrap (u x * (1073741824 : Int)) = u (x <<< 30) := u_shl x 30 (by decide)
  have hr : u x / (4 : Int) = u (x >>> 2) := u_shr x 2 (by decide)
  have ho := u_or (x <<< 30) (x >>> 2)
  go_enter Tryd.func29, Tryd.ntmps29
  go_wp2
  go_ret
  refine ⟨?_, rfl⟩
  show Ending.returned (.int .u32 (u (x <<< 30 ||| x >>> 2))) = _
  rw [UInt32.or_comm]
  rfl
theorem turn_2 (x : UInt32) (w : World) : Calls Tryd.prog 28 #[.int .u32 (u x), .int .i64 2] w fun e w' => e = .returned (.int .u32 (u (rotr x 2))) ∧ w = w' := by
  go_enter Tryd.func28, Tryd.ntmps28
  go_wp2_with (go_at_call 29; refine (rot_2 x _).mono ?_; rintro e w' ⟨rfl, rfl⟩)
  go_ret
  exact ⟨rfl, rfl⟩
theorem rot_6 (x : UInt32) (w : World) : Calls Tryd.prog 29 #[.int .u32 (u x), .int .i64 (-6)] w fun e w' => e = .returned (.int .u32 (u (rotr x 6))) ∧ w = w' := by
  have e1 : bits .and .u64 (IntKind.u64.wrap (-6)) 31 = 26 := by decide
  have hs : IntKind.u32.wrap (u x * (67108864 : Int)) = u (x <<< 26) := u_shl x 26 (by decide)
  have hr : u x / (64 : Int) = u (x >>> 6) := u_shr x 6 (by decide)
  have ho := u_or (x <<< 26) (x >>> 6)
  go_enter Tryd.func29, Tryd.ntmps29
  go_wp2
  go_ret
  refine ⟨?_, rfl⟩
  show Ending.returned (.int .u32 (u (x <<< 26 ||| x >>> 6))) = _
  rw [UInt32.or_comm]
  rfl
theorem turn_6 (x : UInt32) (w : World) : Calls Tryd.prog 28 #[.int .u32 (u x), .int .i64 6] w fun e w' => e = .returned (.int .u32 (u (rotr x 6))) ∧ w = w' := by
  go_enter Tryd.func28, Tryd.ntmps28
  go_wp2_with (go_at_call 29; refine (rot_6 x _).mono ?_; rintro e w' ⟨rfl, rfl⟩)
  go_ret
  exact ⟨rfl, rfl⟩
theorem rot_7 (x : UInt32) (w : World) : Calls Tryd.prog 29 #[.int .u32 (u x), .int .i64 (-7)] w fun e w' => e = .returned (.int .u32 (u (rotr x 7))) ∧ w = w' := by
  have e1 : bits .and .u64 (IntKind.u64.wrap (-7)) 31 = 25 := by decide
  have hs : IntKind.u32.wrap (u x * (33554432 : Int)) = u (x <<< 25) := u_shl x 25 (by decide)
  have hr : u x / (128 : Int) = u (x >>> 7) := u_shr x 7 (by decide)
  have ho := u_or (x <<< 25) (x >>> 7)
  go_enter Tryd.func29, Tryd.ntmps29
  go_wp2
  go_ret
  refine ⟨?_, rfl⟩
  show Ending.returned (.int .u32 (u (x <<< 25 ||| x >>> 7))) = _
  rw [UInt32.or_comm]
  rfl
theorem turn_7 (x : UInt32) (w : World) : Calls Tryd.prog 28 #[.int .u32 (u x), .int .i64 7] w fun e w' => e = .returned (.int .u32 (u (rotr x 7))) ∧ w = w' := by
  go_enter Tryd.func28, Tryd.ntmps28
  go_wp2_with (go_at_call 29; refine (rot_7 x _).mono ?_; rintro e w' ⟨rfl, rfl⟩)
  go_ret
  exact ⟨rfl, rfl⟩
theorem rot_11 (x : UInt32) (w : World) : Calls Tryd.prog 29 #[.int .u32 (u x), .int .i64 (-11)] w fun e w' => e = .returned (.int .u32 (u (rotr x 11))) ∧ w = w' := by
  have e1 : bits .and .u64 (IntKind.u64.wrap (-11)) 31 = 21 := by decide
  have hs : IntKind.u32.wrap (u x * (2097152 : Int)) = u (x <<< 21) := u_shl x 21 (by decide)
  have hr : u x / (2048 : Int) = u (x >>> 11) := u_shr x 11 (by decide)
  have ho := u_or (x <<< 21) (x >>> 11)
  go_enter Tryd.func29, Tryd.ntmps29
  go_wp2
  go_ret
  refine ⟨?_, rfl⟩
  show Ending.returned (.int .u32 (u (x <<< 21 ||| x >>> 11))) = _
  rw [UInt32.or_comm]
  rfl
theorem turn_11 (x : UInt32) (w : World) : Calls Tryd.prog 28 #[.int .u32 (u x), .int .i64 11] w fun e w' => e = .returned (.int .u32 (u (rotr x 11))) ∧ w = w' := by
  go_enter Tryd.func28, Tryd.ntmps28
  go_wp2_with (go_at_call 29; refine (rot_11 x _).mono ?_; rintro e w' ⟨rfl, rfl⟩)
  go_ret
  exact ⟨rfl, rfl⟩
theorem rot_13 (x : UInt32) (w : World) : Calls Tryd.prog 29 #[.int .u32 (u x), .int .i64 (-13)] w fun e w' => e = .returned (.int .u32 (u (rotr x 13))) ∧ w = w' := by
  have e1 : bits .and .u64 (IntKind.u64.wrap (-13)) 31 = 19 := by decide
  have hs : IntKind.u32.wrap (u x * (524288 : Int)) = u (x <<< 19) := u_shl x 19 (by decide)
  have hr : u x / (8192 : Int) = u (x >>> 13) := u_shr x 13 (by decide)
  have ho := u_or (x <<< 19) (x >>> 13)
  go_enter Tryd.func29, Tryd.ntmps29
  go_wp2
  go_ret
  refine ⟨?_, rfl⟩
  show Ending.returned (.int .u32 (u (x <<< 19 ||| x >>> 13))) = _
  rw [UInt32.or_comm]
  rfl
theorem turn_13 (x : UInt32) (w : World) : Calls Tryd.prog 28 #[.int .u32 (u x), .int .i64 13] w fun e w' => e = .returned (.int .u32 (u (rotr x 13))) ∧ w = w' := by
  go_enter Tryd.func28, Tryd.ntmps28
  go_wp2_with (go_at_call 29; refine (rot_13 x _).mono ?_; rintro e w' ⟨rfl, rfl⟩)
  go_ret
  exact ⟨rfl, rfl⟩
theorem rot_17 (x : UInt32) (w : World) : Calls Tryd.prog 29 #[.int .u32 (u x), .int .i64 (-17)] w fun e w' => e = .returned (.int .u32 (u (rotr x 17))) ∧ w = w' := by
  have e1 : bits .and .u64 (IntKind.u64.wrap (-17)) 31 = 15 := by decide
  have hs : IntKind.u32.wrap (u x * (32768 : Int)) = u (x <<< 15) := u_shl x 15 (by decide)
  have hr : u x / (131072 : Int) = u (x >>> 17) := u_shr x 17 (by decide)
  have ho := u_or (x <<< 15) (x >>> 17)
  go_enter Tryd.func29, Tryd.ntmps29
  go_wp2
  go_ret
  refine ⟨?_, rfl⟩
  show Ending.returned (.int .u32 (u (x <<< 15 ||| x >>> 17))) = _
  rw [UInt32.or_comm]
  rfl
theorem turn_17 (x : UInt32) (w : World) : Calls Tryd.prog 28 #[.int .u32 (u x), .int .i64 17] w fun e w' => e = .returned (.int .u32 (u (rotr x 17))) ∧ w = w' := by
  go_enter Tryd.func28, Tryd.ntmps28
  go_wp2_with (go_at_call 29; refine (rot_17 x _).mono ?_; rintro e w' ⟨rfl, rfl⟩)
  go_ret
  exact ⟨rfl, rfl⟩
theorem rot_18 (x : UInt32) (w : World) : Calls Tryd.prog 29 #[.int .u32 (u x), .int .i64 (-18)] w fun e w' => e = .returned (.int .u32 (u (rotr x 18))) ∧ w = w' := by
  have e1 : bits .and .u64 (IntKind.u64.wrap (-18)) 31 = 14 := by decide
  have hs : IntKind.u32.wrap (u x * (16384 : Int)) = u (x <<< 14) := u_shl x 14 (by decide)
  have hr : u x / (262144 : Int) = u (x >>> 18) := u_shr x 18 (by decide)
  have ho := u_or (x <<< 14) (x >>> 18)
  go_enter Tryd.func29, Tryd.ntmps29
  go_wp2
  go_ret
  refine ⟨?_, rfl⟩
  show Ending.returned (.int .u32 (u (x <<< 14 ||| x >>> 18))) = _
  rw [UInt32.or_comm]
  rfl
theorem turn_18 (x : UInt32) (w : World) : Calls Tryd.prog 28 #[.int .u32 (u x), .int .i64 18] w fun e w' => e = .returned (.int .u32 (u (rotr x 18))) ∧ w = w' := by
  go_enter Tryd.func28, Tryd.ntmps28
  go_wp2_with (go_at_call 29; refine (rot_18 x _).mono ?_; rintro e w' ⟨rfl, rfl⟩)
  go_ret
  exact ⟨rfl, rfl⟩
theorem rot_19 (x : UInt32) (w : World) : Calls Tryd.prog 29 #[.int .u32 (u x), .int .i64 (-19)] w fun e w' => e = .returned (.int .u32 (u (rotr x 19))) ∧ w = w' := by
  have e1 : bits .and .u64 (IntKind.u64.wrap (-19)) 31 = 13 := by decide
  have hs : IntKind.u32.wrap (u x * (8192 : Int)) = u (x <<< 13) := u_shl x 13 (by decide)
  have hr : u x / (524288 : Int) = u (x >>> 19) := u_shr x 19 (by decide)
  have ho := u_or (x <<< 13) (x >>> 19)
  go_enter Tryd.func29, Tryd.ntmps29
  go_wp2
  go_ret
  refine ⟨?_, rfl⟩
  show Ending.returned (.int .u32 (u (x <<< 13 ||| x >>> 19))) = _
  rw [UInt32.or_comm]
  rfl
theorem turn_19 (x : UInt32) (w : World) : Calls Tryd.prog 28 #[.int .u32 (u x), .int .i64 19] w fun e w' => e = .returned (.int .u32 (u (rotr x 19))) ∧ w = w' := by
  go_enter Tryd.func28, Tryd.ntmps28
  go_wp2_with (go_at_call 29; refine (rot_19 x _).mono ?_; rintro e w' ⟨rfl, rfl⟩)
  go_ret
  exact ⟨rfl, rfl⟩
theorem rot_22 (x : UInt32) (w : World) : Calls Tryd.prog 29 #[.int .u32 (u x), .int .i64 (-22)] w fun e w' => e = .returned (.int .u32 (u (rotr x 22))) ∧ w = w' := by
  have e1 : bits .and .u64 (IntKind.u64.wrap (-22)) 31 = 10 := by decide
  have hs : IntKind.u32.wrap (u x * (1024 : Int)) = u (x <<< 10) := u_shl x 10 (by decide)
  have hr : u x / (4194304 : Int) = u (x >>> 22) := u_shr x 22 (by decide)
  have ho := u_or (x <<< 10) (x >>> 22)
  go_enter Tryd.func29, Tryd.ntmps29
  go_wp2
  go_ret
  refine ⟨?_, rfl⟩
  show Ending.returned (.int .u32 (u (x <<< 10 ||| x >>> 22))) = _
  rw [UInt32.or_comm]
  rfl
theorem turn_22 (x : UInt32) (w : World) : Calls Tryd.prog 28 #[.int .u32 (u x), .int .i64 22] w fun e w' => e = .returned (.int .u32 (u (rotr x 22))) ∧ w = w' := by
  go_enter Tryd.func28, Tryd.ntmps28
  go_wp2_with (go_at_call 29; refine (rot_22 x _).mono ?_; rintro e w' ⟨rfl, rfl⟩)
  go_ret
  exact ⟨rfl, rfl⟩
theorem rot_25 (x : UInt32) (w : World) : Calls Tryd.prog 29 #[.int .u32 (u x), .int .i64 (-25)] w fun e w' => e = .returned (.int .u32 (u (rotr x 25))) ∧ w = w' := by
  have e1 : bits .and .u64 (IntKind.u64.wrap (-25)) 31 = 7 := by decide
  have hs : IntKind.u32.wrap (u x * (128 : Int)) = u (x <<< 7) := u_shl x 7 (by decide)
  have hr : u x / (33554432 : Int) = u (x >>> 25) := u_shr x 25 (by decide)
  have ho := u_or (x <<< 7) (x >>> 25)
  go_enter Tryd.func29, Tryd.ntmps29
  go_wp2
  go_ret
  refine ⟨?_, rfl⟩
  show Ending.returned (.int .u32 (u (x <<< 7 ||| x >>> 25))) = _
  rw [UInt32.or_comm]
  rfl
theorem turn_25 (x : UInt32) (w : World) : Calls Tryd.prog 28 #[.int .u32 (u x), .int .i64 25] w fun e w' => e = .returned (.int .u32 (u (rotr x 25))) ∧ w = w' := by
  go_enter Tryd.func28, Tryd.ntmps28
  go_wp2_with (go_at_call 29; refine (rot_25 x _).mono ?_; rintro e w' ⟨rfl, rfl⟩)
  go_ret
  exact ⟨rfl, rfl⟩
/-- A turn by a number. -/
def rotz (x : UInt32) (n : Int) : UInt32 := rotr x (UInt32.ofNat n.toNat)
/-- One of the ten numbers. -/
def tenB (n : Int) : Bool := n == 2 || n == 6 || n == 7 || n == 11 || n == 13 || n == 17 || n == 18 || n == 19 || n == 22 || n == 25
theorem turn_of (x : UInt32) (n : Int) (h : tenB n = true) (w : World) : Calls Tryd.prog 28 #[.int .u32 (u x), .int .i64 n] w fun e w' => e = .returned (.int .u32 (u (rotz x n))) ∧ w = w' := by
  simp only [tenB, Bool.or_eq_true, beq_iff_eq] at h
  rcases h with ((((((((rfl | rfl) | rfl) | rfl) | rfl) | rfl) | rfl) | rfl) | rfl) | rfl
  · exact turn_2 x w
  · exact turn_6 x w
  · exact turn_7 x w
  · exact turn_11 x w
  · exact turn_13 x w
  · exact turn_17 x w
  · exact turn_18 x w
  · exact turn_19 x w
  · exact turn_22 x w
  · exact turn_25 x w
end Go.Proofs.YtlndjmpopoihnaaDoor
