/-
  The document's own turn to the right. Conditions: by one of the ten numbers that are used.
-/
import Derived.Test.YtlndjmpopoihnaaDoorProg
import Derived.Test.YtlndjmpopoihnaaDoorWord
import Derived.WalkKit
import Derived.Test.YtlndjmpopoihnaaDoorTurn
namespace Go.Proofs.YtlndjmpopoihnaaDoor
open Go.RowKit
theorem rturn_2 (x : UInt32) (w : World) : Calls Tryd.prog 25 #[.int .u32 (u x), .int .u64 2] w fun e w' => e = .returned (.int .u32 (u (rotr x 2))) ∧ w = w' := by
  have hs : IntKind.u32.wrap (u x * (1073741824 : Int)) = u (x <<< 30) := u_shl x 30 (by decide)
  have hr : u x / (4 : Int) = u (x >>> 2) := u_shr x 2 (by decide)
  have ho := u_or (x >>> 2) (x <<< 30)
  go_enter Tryd.func25, Tryd.ntmps25
  go_wp2
  go_ret
  exact ⟨rfl, rfl⟩
theorem rturn_6 (x : UInt32) (w : World) : Calls Tryd.prog 25 #[.int .u32 (u x), .int .u64 6] w fun e w' => e = .returned (.int .u32 (u (rotr x 6))) ∧ w = w' := by
  have hs : IntKind.u32.wrap (u x * (67108864 : Int)) = u (x <<< 26) := u_shl x 26 (by decide)
  have hr : u x / (64 : Int) = u (x >>> 6) := u_shr x 6 (by decide)
  have ho := u_or (x >>> 6) (x <<< 26)
  go_enter Tryd.func25, Tryd.ntmps25
  go_wp2
  go_ret
  exact ⟨rfl, rfl⟩
theorem rturn_7 (x : UInt32) (w : World) : Calls Tryd.prog 25 #[.int .u32 (u x), .int .u64 7] w fun e w' => e = .returned (.int .u32 (u (rotr x 7))) ∧ w = w' := by
  have hs : IntKind.u32.wrap (u x * (33554432 : Int)) = u (x <<< 25) := u_shl x 25 (by decide)
  have hr : u x / (128 : Int) = u (x >>> 7) := u_shr x 7 (by decide)
  have ho := u_or (x >>> 7) (x <<< 25)
  go_enter Tryd.func25, Tryd.ntmps25
  go_wp2
  go_ret
  exact ⟨rfl, rfl⟩
theorem rturn_11 (x : UInt32) (w : World) : Calls Tryd.prog 25 #[.int .u32 (u x), .int .u64 11] w fun e w' => e = .returned (.int .u32 (u (rotr x 11))) ∧ w = w' := by
  have hs : IntKind.u32.wrap (u x * (2097152 : Int)) = u (x <<< 21) := u_shl x 21 (by decide)
  have hr : u x / (2048 : Int) = u (x >>> 11) := u_shr x 11 (by decide)
  have ho := u_or (x >>> 11) (x <<< 21)
  go_enter Tryd.func25, Tryd.ntmps25
  go_wp2
  go_ret
  exact ⟨rfl, rfl⟩
theorem rturn_13 (x : UInt32) (w : World) : Calls Tryd.prog 25 #[.int .u32 (u x), .int .u64 13] w fun e w' => e = .returned (.int .u32 (u (rotr x 13))) ∧ w = w' := by
  have hs : IntKind.u32.wrap (u x * (524288 : Int)) = u (x <<< 19) := u_shl x 19 (by decide)
  have hr : u x / (8192 : Int) = u (x >>> 13) := u_shr x 13 (by decide)
  have ho := u_or (x >>> 13) (x <<< 19)
  go_enter Tryd.func25, Tryd.ntmps25
  go_wp2
  go_ret
  exact ⟨rfl, rfl⟩
theorem rturn_17 (x : UInt32) (w : World) : Calls Tryd.prog 25 #[.int .u32 (u x), .int .u64 17] w fun e w' => e = .returned (.int .u32 (u (rotr x 17))) ∧ w = w' := by
  have hs : IntKind.u32.wrap (u x * (32768 : Int)) = u (x <<< 15) := u_shl x 15 (by decide)
  have hr : u x / (131072 : Int) = u (x >>> 17) := u_shr x 17 (by decide)
  have ho := u_or (x >>> 17) (x <<< 15)
  go_enter Tryd.func25, Tryd.ntmps25
  go_wp2
  go_ret
  exact ⟨rfl, rfl⟩
theorem rturn_18 (x : UInt32) (w : World) : Calls Tryd.prog 25 #[.int .u32 (u x), .int .u64 18] w fun e w' => e = .returned (.int .u32 (u (rotr x 18))) ∧ w = w' := by
  have hs : IntKind.u32.wrap (u x * (16384 : Int)) = u (x <<< 14) := u_shl x 14 (by decide)
  have hr : u x / (262144 : Int) = u (x >>> 18) := u_shr x 18 (by decide)
  have ho := u_or (x >>> 18) (x <<< 14)
  go_enter Tryd.func25, Tryd.ntmps25
  go_wp2
  go_ret
  exact ⟨rfl, rfl⟩
theorem rturn_19 (x : UInt32) (w : World) : Calls Tryd.prog 25 #[.int .u32 (u x), .int .u64 19] w fun e w' => e = .returned (.int .u32 (u (rotr x 19))) ∧ w = w' := by
  have hs : IntKind.u32.wrap (u x * (8192 : Int)) = u (x <<< 13) := u_shl x 13 (by decide)
  have hr : u x / (524288 : Int) = u (x >>> 19) := u_shr x 19 (by decide)
  have ho := u_or (x >>> 19) (x <<< 13)
  go_enter Tryd.func25, Tryd.ntmps25
  go_wp2
  go_ret
  exact ⟨rfl, rfl⟩
theorem rturn_22 (x : UInt32) (w : World) : Calls Tryd.prog 25 #[.int .u32 (u x), .int .u64 22] w fun e w' => e = .returned (.int .u32 (u (rotr x 22))) ∧ w = w' := by
  have hs : IntKind.u32.wrap (u x * (1024 : Int)) = u (x <<< 10) := u_shl x 10 (by decide)
  have hr : u x / (4194304 : Int) = u (x >>> 22) := u_shr x 22 (by decide)
  have ho := u_or (x >>> 22) (x <<< 10)
  go_enter Tryd.func25, Tryd.ntmps25
  go_wp2
  go_ret
  exact ⟨rfl, rfl⟩
theorem rturn_25 (x : UInt32) (w : World) : Calls Tryd.prog 25 #[.int .u32 (u x), .int .u64 25] w fun e w' => e = .returned (.int .u32 (u (rotr x 25))) ∧ w = w' := by
  have hs : IntKind.u32.wrap (u x * (128 : Int)) = u (x <<< 7) := u_shl x 7 (by decide)
  have hr : u x / (33554432 : Int) = u (x >>> 25) := u_shr x 25 (by decide)
  have ho := u_or (x >>> 25) (x <<< 7)
  go_enter Tryd.func25, Tryd.ntmps25
  go_wp2
  go_ret
  exact ⟨rfl, rfl⟩
theorem rturn_of (x : UInt32) (n : Int) (h : tenB n = true) (w : World) : Calls Tryd.prog 25 #[.int .u32 (u x), .int .u64 n] w fun e w' => e = .returned (.int .u32 (u (rotz x n))) ∧ w = w' := by
  simp only [tenB, Bool.or_eq_true, beq_iff_eq] at h
  rcases h with ((((((((rfl | rfl) | rfl) | rfl) | rfl) | rfl) | rfl) | rfl) | rfl) | rfl
  · exact rturn_2 x w
  · exact rturn_6 x w
  · exact rturn_7 x w
  · exact rturn_11 x w
  · exact rturn_13 x w
  · exact rturn_17 x w
  · exact rturn_18 x w
  · exact rturn_19 x w
  · exact rturn_22 x w
  · exact rturn_25 x w
end Go.Proofs.YtlndjmpopoihnaaDoor
