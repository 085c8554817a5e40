/-
  The document's own answer for the character that bytes begin with: a first byte of 4. Conditions: the bytes lie where the slice says.
-/
import Derived.Test.YtchnmkagemmjoaaDoorOne
import Derived.Deep.RegionWith
import Derived.RegionTactic
namespace Go.Proofs.YtchnmkagemmjoaaDoor
open Go.RowKit
set_option maxRecDepth 100000
set_option maxHeartbeats 4000000 in
theorem first_bad4 (b o n c : Nat) (x0 x1 x2 x3 : UInt8) (w : World) (hn : 4 ≤ n) (hnc : n ≤ c) (hcm : c ≤ 9223372036854775807) (_hb : b < w.heap.size) (hl : longN x0.toNat = 4)
    (c0 : w.cell? ⟨b, o, none⟩ = some (.int .u8 (x0.toNat : Int))) (c1 : w.cell? ⟨b, o + 1, none⟩ = some (.int .u8 (x1.toNat : Int))) (c2 : w.cell? ⟨b, o + 2, none⟩ = some (.int .u8 (x2.toNat : Int))) (c3 : w.cell? ⟨b, o + 3, none⟩ = some (.int .u8 (x3.toNat : Int))) (r : Int) (hr : (((((x0.toNat : Int) - 240) * 64 + (x1.toNat : Int) - 128) * 64 + (x2.toNat : Int) - 128) * 64 + (x3.toNat : Int) - 128) = r) (hc : chB r = false) :
    Calls Tryd.prog 51 #[.slice (some ⟨b, o, none⟩) n c] w fun e w' => e = .returned (.tuple #[.int .i32 0, .int .i64 0]) ∧ Below w.heap.size w w' := by
  have l0 := x0.toNat_lt
  have l1 := x1.toNat_lt
  have l2 := x2.toNat_lt
  have l3 := x3.toNat_lt
  have hn0 : ((n : Int) == 0) = false := by rw [beq_eq_false_iff_ne]; omega
  have hn2 : ¬ (n : Int) < 4 := by omega
  have hc2 : (4 : Int) ≤ c := by omega
  go_enter Tryd.func51, Tryd.ntmps51
  go_wp2_with (go_at_call 71; refine (long_any _ _).mono ?_; rintro e w' ⟨rfl, rfl⟩; rw [hl])
  refine wp_loop_rounds 4 ?_
  rw [rounds_succ]
  go_wp2
  rw [rounds_succ]
  go_wp2
  rw [rounds_succ]
  go_wp2
  rw [rounds_succ]
  go_wp2
  go_quiet ((go_at_call 72; exact Calls.quiet_of_same (char_val hc _)))
  go_wp2
  go_ret2
  exact ⟨rfl, drewN_below (Below.refl _ _) _⟩
set_option maxHeartbeats 4000000 in
theorem first_ok4 (b o n c : Nat) (x0 x1 x2 x3 : UInt8) (w : World) (hn : 4 ≤ n) (hnc : n ≤ c) (hcm : c ≤ 9223372036854775807) (hb : b < w.heap.size) (hl : longN x0.toNat = 4)
    (c0 : w.cell? ⟨b, o, none⟩ = some (.int .u8 (x0.toNat : Int))) (c1 : w.cell? ⟨b, o + 1, none⟩ = some (.int .u8 (x1.toNat : Int))) (c2 : w.cell? ⟨b, o + 2, none⟩ = some (.int .u8 (x2.toNat : Int))) (c3 : w.cell? ⟨b, o + 3, none⟩ = some (.int .u8 (x3.toNat : Int))) (r : Int) (hr : (((((x0.toNat : Int) - 240) * 64 + (x1.toNat : Int) - 128) * 64 + (x2.toNat : Int) - 128) * 64 + (x3.toNat : Int) - 128) = r) (hc : chB r = true) (E : Bool) (hE : (encB r == [x0, x1, x2, x3]) = E) :
    Calls Tryd.prog 51 #[.slice (some ⟨b, o, none⟩) n c] w fun e w' => e = .returned (bif E then .tuple #[.int .i32 r, .int .i64 4] else .tuple #[.int .i32 0, .int .i64 0]) ∧ Below w.heap.size w w' := by
  have l0 := x0.toNat_lt
  have l1 := x1.toNat_lt
  have l2 := x2.toNat_lt
  have l3 := x3.toNat_lt
  have hn0 : ((n : Int) == 0) = false := by rw [beq_eq_false_iff_ne]; omega
  have hn2 : ¬ (n : Int) < 4 := by omega
  have hc2 : (4 : Int) ≤ c := by omega
  have LA : Lies w w.heap.size (some ⟨b, o, none⟩) (u8c [x0, x1, x2, x3]) := lies_of hb (fun j hj => by
    match j, hj with
    | 0, _ => exact c0
    | 1, _ => exact c1
    | 2, _ => exact c2
    | 3, _ => exact c3)
  obtain ⟨O, hO⟩ : ∃ O, Obj.cells (u8c (encB r)).toArray 5 = O := ⟨_, rfl⟩
  have LB : Lies (w.alloc O) (w.heap.size + 1) (some ⟨w.heap.size, 0, none⟩) (u8c (encB r)) := fun _ => ⟨w.heap.size, 0, rfl, by omega, fun j hj => by
    rw [← hO, World.cell?_alloc_mark]; simp⟩
  have hA := conv_lies (w := w.drew) c LA
  have hA2 := conv_lies (w := (w.alloc O).drew) c (LA.below (((Below.refl _ _).alloc (Nat.le_refl _) O).drew))
  have hB := conv_lies (w := (w.alloc O).drew) (encB r).length LB
  simp only [List.length_cons, List.length_nil] at hA hA2
  have hEq : ((⟨(encB r).toArray⟩ : ByteArray).toList == (⟨[x0, x1, x2, x3].toArray⟩ : ByteArray).toList) = E := by rw [ByteArray.toList_mk, ByteArray.toList_mk]; exact hE
  generalize (⟨(encB r).toArray⟩ : ByteArray) = s1 at hB hEq
  generalize (⟨[x0, x1, x2, x3].toArray⟩ : ByteArray) = s2 at hA hA2 hEq
  have K1 : ∀ W, Calls Tryd.prog 73 #[.int .i32 r] W fun e w' => e = .returned (.slice (some ⟨W.heap.size, 0, none⟩) (encB r).length (encB r).length) ∧ W.alloc O = w' := fun W => by rw [← hO]; exact refOne_any r hc W
  have HK := Lib.hid K1
  clear K1 hO LA LB hE
  generalize (encB r).length = L at hB HK
  cases E
  all_goals
    go_enter Tryd.func51, Tryd.ntmps51
    go_wp2_with (go_at_call 71; refine (long_any _ _).mono ?_; rintro e w' ⟨rfl, rfl⟩; rw [hl])
    refine wp_loop_rounds 4 ?_
    rw [rounds_succ]
    go_wp2
    rw [rounds_succ]
    go_wp2
    rw [rounds_succ]
    go_wp2
    rw [rounds_succ]
    go_wp2
    clear hr c0
    go_region_with (first | (go_at_call 72; refine (char_any _ _).mono ?_; rintro e w' ⟨rfl, rfl⟩; rw [hc]) | (go_at_call 73; refine (HK.out _).mono ?_; rintro e w' ⟨rfl, rfl⟩))
    all_goals go_wp2
    all_goals go_ret2
    all_goals exact ⟨rfl, ((Below.refl _ _).alloc (Nat.le_refl _) O).drew⟩
end Go.Proofs.YtchnmkagemmjoaaDoor
