/-
  mac.mask: each byte of a block xored with one. Conditions: the block has 64 bytes.
-/
import Derived.Test.YtlndjmpopoihnaaDoorPureMac
import Derived.Test.YtlndjmpopoihnaaDoorHex
namespace Go.Proofs.YtlndjmpopoihnaaDoor
open Go.RowKit
attribute [local go_sem] v_xor
/-- The first so many bytes are xored. -/
def mxk (l : List UInt8) (x : UInt8) (k : Nat) : List UInt8 := mx (l.take k) x ++ l.drop k
theorem mxk_length (l : List UInt8) (x : UInt8) (k : Nat) : (mxk l x k).length = l.length := by
  unfold mxk; rw [List.length_append, mx_length, ← List.length_append, List.take_append_drop]
theorem mxk_at {l : List UInt8} {x : UInt8} {k : Nat} (h : k < l.length) : (mxk l x k).getD k 0 = l.getD k 0 := by
  have hl : (mx (l.take k) x).length = k := by rw [mx_length, List.length_take]; omega
  unfold mxk
  rw [List.getD_eq_getElem?_getD, List.getElem?_append_right (by omega), hl, List.getElem?_drop, List.getD_eq_getElem?_getD]
  congr 2
  omega
theorem mxk_next {l : List UInt8} {x : UInt8} {k : Nat} (h : k < l.length) : (mxk l x k).set k (l.getD k 0 ^^^ x) = mxk l x (k + 1) := by
  have hl : (mx (l.take k) x).length = k := by rw [mx_length, List.length_take]; omega
  unfold mxk
  rw [List.set_append_right _ _ (by omega), hl, Nat.sub_self, List.drop_eq_getElem_cons h, List.set_cons_zero, List.take_succ_eq_append_getElem h]
  simp only [mx, List.map_append, List.map_cons, List.map_nil, List.append_assoc, List.cons_append, List.nil_append, List.getD_eq_getElem?_getD, List.getElem?_eq_getElem h, Option.getD_some]
theorem u8c_set (l : List UInt8) (k : Nat) (b : UInt8) : (u8c l).set k (.int .u8 (v8 b)) = u8c (l.set k b) := by
  unfold u8c; rw [List.map_set]
def MK (l : List UInt8) (x : UInt8) (w : World) (i : Value) (wr : World) : Prop :=
  ∃ k : Nat, k ≤ 64 ∧ i = .int .i64 k ∧ Holds wr w.heap.size 36 (u8c (mxk l x k)) ∧ (∃ z, Holds wr (w.heap.size + 1) 36 z ∧ z.length = 64) ∧ Below w.heap.size w wr
set_option maxHeartbeats 1000000 in
theorem mask_any (l : List UInt8) (hl : l.length = 64) (x : UInt8) (z : Int) (hz : z = v8 x) (w : World) :
    Calls Tryd.prog 16 #[.agg (u8c l).toArray, .int .u8 z] w fun e w' => e = .returned (.agg (u8c (mx l x)).toArray) ∧ Below w.heap.size w w' := by
  subst hz
  have i36 : ∀ y : List UInt8, y.length = 64 → (Tryd.prog.info? 36).map (·.size) = some (u8c y).toArray.size := fun y hy => by rw [List.size_toArray, u8c_length, hy]; kernel_rfl
  have HI := Lib.hid i36
  have HL := Lib.hid hl
  have HMK : Hid (∀ Z : List Value, Z.length = 64 → MK l x w (.int .i64 0) ((w.alloc (.cells (u8c l).toArray 36)).alloc (.cells Z.toArray 36))) := fun Z hZ => by
    refine ⟨0, by omega, rfl, ?_, ⟨Z, ?_, hZ⟩, ((Below.refl _ _).alloc (Nat.le_refl _) _).alloc (by simp) _⟩
    · have : mxk l x 0 = l := by simp [mxk, mx]
      rw [this]; exact (Holds.fresh w _ _).alloc _
    · exact heap_alloc2_new w _ _
  clear i36 hl
  go_enter Tryd.func16, Tryd.ntmps16
  go_wp2
  go_loopw [6] (MK l x w) (fun i _ => 64 - (intOf i).toNat)
  case atStart => exact HMK.out (List.replicate 64 (.int .u8 0)) rfl
  case round =>
    clear HMK
    obtain ⟨k, hk, rfl, hH, hZ, hb⟩ := hrel
    by_cases hlt : k < 64
    · have c0 : wr.cell? ⟨w.heap.size, k, none⟩ = some (.int .u8 (v8 (l.getD k 0))) := by
        rw [hH.cell, u8c_at (by rw [mxk_length, HL.out]; exact hlt), mxk_at (by rw [HL.out]; exact hlt)]
      have f0 : ∀ i, wr.frozen? ⟨w.heap.size, i, none⟩ = false := hH.soft
      have hnx := mxk_next (x := x) (show k < l.length by rw [HL.out]; exact hlt)
      generalize l.getD k 0 = b at *
      have HH := Lib.hid hH
      have HZ := Lib.hid hZ
      have HNX := Lib.hid hnx
      clear hH hZ hnx
      go_wp2
      go_roundw
      case rel =>
        refine ⟨k + 1, by omega, by go_num, ?_, ?_, hb.setCell (by simp) _⟩
        · have := HH.out.put k (.int .u8 (v8 (b ^^^ x)))
          rw [u8c_set, HNX.out] at this
          exact this
        · obtain ⟨z, hz, hzl⟩ := HZ.out
          exact ⟨z, hz.far (by simp) _, hzl⟩
      case measure => simp [intOf]; omega
    · have hk64 : k = 64 := by omega
      have hd : decide ((k : Int) < 64) = false := by simp; omega
      have hlw : mxk l x k = mx l x := by
        unfold mxk; rw [List.take_of_length_le (by rw [HL.out]; omega), List.drop_of_length_le (by rw [HL.out]; omega), List.append_nil]
      rw [hlw] at hH
      obtain ⟨z, hz, hzl⟩ := hZ
      have hml : (mx l x).length = 64 := by rw [mx_length]; exact HL.out
      have hzs : z.toArray.size = (u8c (mx l x)).toArray.size := by rw [List.size_toArray, List.size_toArray, hzl, u8c_length, hml]
      have HZS := Lib.hid hzs
      have H1 := Lib.hid (u8c_one (mx l x))
      have HIX := Lib.hid (HI.out _ hml)
      have HW := Lib.hid hH
      have HZ := Lib.hid hz
      clear hlw hH hz hzl hml hzs hk64 HI
      go_wp2_with (first | (refine wpList_load_row rfl 36 _ rfl w.heap.size rfl 36 _ (0, 0) _ HW.out Tryd.underlying36 rfl HIX.out ?_) | (refine wpList_store_row rfl 36 _ _ rfl (w.heap.size + 1) _ rfl rfl 36 _ HZ.out HIX.out HZS.out H1.out ?_))
      exact bodyPost_ret (results_cell_row rfl _ _ (w.heap.size + 1) 36 _ (0, 0) _ rfl (HZ.out.row _) Tryd.underlying36 rfl HIX.out) rfl ⟨rfl, below_row hb (by omega) _⟩
end Go.Proofs.YtlndjmpopoihnaaDoor
