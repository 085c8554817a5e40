/-
  The document's own answer for the character that bytes begin with: a first byte of 1. Conditions: the bytes lie where the slice says.
-/
import Derived.Test.YtchnmkagemmjoaaDoorOne
import Derived.Deep.RegionWith
import Derived.RegionTactic
namespace Go.Proofs.YtchnmkagemmjoaaDoor
open Go.RowKit
set_option maxRecDepth 100000
set_option maxHeartbeats 4000000 in
theorem first_bad1 (b o n c : Nat) (x0 : UInt8) (w : World) (hn : 1 ≤ n) (hnc : n ≤ c) (hcm : c ≤ 9223372036854775807) (_hb : b < w.heap.size) (hl : longN x0.toNat = 1)
    (c0 : w.cell? ⟨b, o, none⟩ = some (.int .u8 (x0.toNat : Int)))  (hc : chB (x0.toNat : Int) = false) :
    Calls Tryd.prog 51 #[.slice (some ⟨b, o, none⟩) n c] w fun e w' => e = .returned (.tuple #[.int .i32 0, .int .i64 0]) ∧ Below w.heap.size w w' := by
  have l0 := x0.toNat_lt
  have hn0 : ((n : Int) == 0) = false := by rw [beq_eq_false_iff_ne]; omega
  have hn2 : ¬ (n : Int) < 1 := by omega
  have hc2 : (1 : Int) ≤ c := by omega
  go_enter Tryd.func51, Tryd.ntmps51
  go_wp2_with (go_at_call 71; refine (long_any _ _).mono ?_; rintro e w' ⟨rfl, rfl⟩; rw [hl])
  refine wp_loop_rounds 1 ?_
  rw [rounds_succ]
  go_wp2
  go_quiet ((go_at_call 72; exact Calls.quiet_of_same (char_val hc _)))
  go_wp2
  go_ret2
  exact ⟨rfl, drewN_below (Below.refl _ _) _⟩
set_option maxHeartbeats 4000000 in
theorem first_ok1 (b o n c : Nat) (x0 : UInt8) (w : World) (hn : 1 ≤ n) (hnc : n ≤ c) (hcm : c ≤ 9223372036854775807) (hb : b < w.heap.size) (hl : longN x0.toNat = 1)
    (c0 : w.cell? ⟨b, o, none⟩ = some (.int .u8 (x0.toNat : Int)))  (hc : chB (x0.toNat : Int) = true) (E : Bool) (hE : (encB (x0.toNat : Int) == [x0]) = E) :
    Calls Tryd.prog 51 #[.slice (some ⟨b, o, none⟩) n c] w fun e w' => e = .returned (bif E then .tuple #[.int .i32 (x0.toNat : Int), .int .i64 1] else .tuple #[.int .i32 0, .int .i64 0]) ∧ Below w.heap.size w w' := by
  have l0 := x0.toNat_lt
  have hn0 : ((n : Int) == 0) = false := by rw [beq_eq_false_iff_ne]; omega
  have hn2 : ¬ (n : Int) < 1 := by omega
  have hc2 : (1 : Int) ≤ c := by omega
  have LA : Lies w w.heap.size (some ⟨b, o, none⟩) (u8c [x0]) := lies_of hb (fun j hj => by
    match j, hj with
    | 0, _ => exact c0)
  obtain ⟨O, hO⟩ : ∃ O, Obj.cells (u8c (encB (x0.toNat : Int))).toArray 5 = O := ⟨_, rfl⟩
  have LB : Lies (w.alloc O) (w.heap.size + 1) (some ⟨w.heap.size, 0, none⟩) (u8c (encB (x0.toNat : Int))) := fun _ => ⟨w.heap.size, 0, rfl, by omega, fun j hj => by
    rw [← hO, World.cell?_alloc_mark]; simp⟩
  have hA := conv_lies (w := w.drew) c LA
  have hA2 := conv_lies (w := (w.alloc O).drew) c (LA.below (((Below.refl _ _).alloc (Nat.le_refl _) O).drew))
  have hB := conv_lies (w := (w.alloc O).drew) (encB (x0.toNat : Int)).length LB
  simp only [List.length_cons, List.length_nil] at hA hA2
  have hEq : ((⟨(encB (x0.toNat : Int)).toArray⟩ : ByteArray).toList == (⟨[x0].toArray⟩ : ByteArray).toList) = E := by rw [ByteArray.toList_mk, ByteArray.toList_mk]; exact hE
  generalize (⟨(encB (x0.toNat : Int)).toArray⟩ : ByteArray) = s1 at hB hEq
  generalize (⟨[x0].toArray⟩ : ByteArray) = s2 at hA hA2 hEq
  have K1 : ∀ W, Calls Tryd.prog 73 #[.int .i32 (x0.toNat : Int)] W fun e w' => e = .returned (.slice (some ⟨W.heap.size, 0, none⟩) (encB (x0.toNat : Int)).length (encB (x0.toNat : Int)).length) ∧ W.alloc O = w' := fun W => by rw [← hO]; exact refOne_any (x0.toNat : Int) hc W
  have HK := Lib.hid K1
  clear K1 hO LA LB hE
  generalize (encB (x0.toNat : Int)).length = L at hB HK
  cases E
  all_goals
    go_enter Tryd.func51, Tryd.ntmps51
    go_wp2_with (go_at_call 71; refine (long_any _ _).mono ?_; rintro e w' ⟨rfl, rfl⟩; rw [hl])
    refine wp_loop_rounds 1 ?_
    rw [rounds_succ]
    go_wp2
    clear c0
    go_region_with (first | (go_at_call 72; refine (char_any _ _).mono ?_; rintro e w' ⟨rfl, rfl⟩; rw [hc]) | (go_at_call 73; refine (HK.out _).mono ?_; rintro e w' ⟨rfl, rfl⟩))
    all_goals go_wp2
    all_goals go_ret2
    all_goals exact ⟨rfl, ((Below.refl _ _).alloc (Nat.le_refl _) O).drew⟩
end Go.Proofs.YtchnmkagemmjoaaDoor
