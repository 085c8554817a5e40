/-
  The document's own tables. Conditions: none.
-/
import Derived.Test.YtlndjmpopoihnaaDoorSum
namespace Go.Proofs.YtlndjmpopoihnaaDoor
open Go.RowKit
set_option maxHeartbeats 1000000 in
theorem first_any (w : World) : Calls Tryd.prog 17 #[] w fun e w' => e = .returned (.agg (u32c (lst h0)).toArray) ∧ Below w.heap.size w w' := by
  have HI : Hid ((Tryd.prog.info? 42).map (·.size) = some (u32c (lst h0)).toArray.size) := by unfold Hid; kernel_rfl
  have HB : Hid (Tryd.prog.built 42 [(0, .int .u32 1779033703), (1, .int .u32 3144134277), (2, .int .u32 1013904242), (3, .int .u32 2773480762), (4, .int .u32 1359893119), (5, .int .u32 2600822924), (6, .int .u32 528734635), (7, .int .u32 1541459225)] = some (u32c (lst h0)).toArray) := by unfold Hid; kernel_rfl
  have HZ : Hid (∀ A : Array Value, A.size = 8 → A.size = (u32c (lst h0)).toArray.size) := fun A h => by rw [h]; rfl
  go_enter Tryd.func17, Tryd.ntmps17
  go_wp2_with (first | (refine wpList_build_as rfl 42 _ rfl _ rfl _ HB.out ?_) | (refine wpList_store_row rfl 42 _ _ rfl w.heap.size _ rfl rfl 42 _ (heap_alloc_last _ _) HI.out (HZ.out _ rfl) (u32c_one _) ?_))
  rw [World.setRow_alloc_new]
  exact bodyPost_ret (results_cell_row rfl _ _ w.heap.size 42 _ (0, 0) _ rfl (heap_alloc_last _ _) Tryd.underlying42 rfl HI.out) rfl ⟨rfl, (Below.refl _ _).alloc (Nat.le_refl _) _⟩
/-- The parts that the table is built of. -/
def klParts : List (Nat × Value) := (kl.zipIdx).map fun (x, i) => (i, .int .u32 (u x))
set_option maxHeartbeats 2000000 in
set_option maxRecDepth 100000 in
theorem added_any (w : World) : Calls Tryd.prog 24 #[] w fun e w' => e = .returned (.agg (u32c kl).toArray) ∧ Below w.heap.size w w' := by
  have HI : Hid ((Tryd.prog.info? 50).map (·.size) = some (u32c kl).toArray.size) := by unfold Hid; kernel_rfl
  have HB : Hid (Tryd.prog.built 50 klParts = some (u32c kl).toArray) := by unfold Hid; kernel_rfl
  have HZ : Hid (∀ A : Array Value, A.size = 64 → A.size = (u32c kl).toArray.size) := fun A h => by rw [h]; rfl
  go_enter Tryd.func24, Tryd.ntmps24
  go_wp2_with (first | (refine wpList_build_as rfl 50 _ rfl klParts (by kernel_rfl) _ HB.out ?_) | (refine wpList_store_row rfl 50 _ _ rfl w.heap.size _ rfl rfl 50 _ (heap_alloc_last _ _) HI.out (HZ.out _ rfl) (u32c_one _) ?_))
  rw [World.setRow_alloc_new]
  exact bodyPost_ret (results_cell_row rfl _ _ w.heap.size 50 _ (0, 0) _ rfl (heap_alloc_last _ _) Tryd.underlying50 rfl HI.out) rfl ⟨rfl, (Below.refl _ _).alloc (Nat.le_refl _) _⟩
end Go.Proofs.YtlndjmpopoihnaaDoor
