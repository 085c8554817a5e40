/-
  running.sum: the eight words as bytes. Conditions: none.
-/
import Derived.Test.YtlndjmpopoihnaaDoorMix
namespace Go.Proofs.YtlndjmpopoihnaaDoor
open Go.RowKit
theorem u_byte' (x : UInt32) : u x % 256 = v8 x.toUInt8 := by rw [← u_byte, IntKind.wrap_u8']
attribute [local go_sem] u_byte u_byte'
theorem range_words {w : World} {R : Nat} {s : S8} {q : List UInt8} {n : Nat} (h : Holds w R 47 (cellsR s q n)) : w.rangeAt R 0 (u32c (lst s)) := fun j v hv => by
  have hj : j < 8 := by
    have := (List.getElem?_eq_some_iff.1 hv).1
    rwa [u32c_length] at this
  rw [Nat.zero_add, h.cell, cellsR_word s q n hj, ← hv, u32c_at hj]
theorem take_set4 {α : Type} (l : List α) (k : Nat) (a b c d : α) (h : k + 3 < l.length) : ((((l.set k a).set (k + 1) b).set (k + 2) c).set (k + 3) d).take (k + 4) = l.take k ++ [a, b, c, d] := by
  rw [show k + 4 = k + 3 + 1 from rfl, take_set _ _ _ (by simpa using h), show k + 3 = k + 2 + 1 from rfl, take_set _ _ _ (by simp; omega), show k + 2 = k + 1 + 1 from rfl, take_set _ _ _ (by simp; omega), take_set _ _ _ (by omega)]
  simp
theorem out_take (s : S8) {k : Nat} (h : k < 8) : ((lst s).take (k + 1)).flatMap bytes4 = ((lst s).take k).flatMap bytes4 ++ bytes4 ((lst s).getD k 0) := by
  have hk : k < (lst s).length := h
  rw [List.take_succ_eq_append_getElem hk, List.flatMap_append]
  simp [List.getD_eq_getElem?_getD, List.getElem?_eq_getElem hk]
theorem index8' (s : S8) {j : Nat} (h : j < 8) (w : World) : (Instr.index 42 (.agg (u32c (lst s)).toArray) (.int .i64 (j : Int))).run Tryd.prog w = .ok (.int .u32 (u ((lst s).getD j 0))) w :=
  index_agg Tryd.underlying42 agg36 size36 h (by rw [List.getElem?_toArray]; exact u32c_at h) w
def F1 (s : S8) (w : World) (i : Value) (wr : World) : Prop :=
  ∃ (k : Nat) (l : List Value), k ≤ 8 ∧ i = .int .i64 k ∧ (∃ z, Holds wr w.heap.size 25 z ∧ z.length = 32) ∧ Holds wr (w.heap.size + 1) 25 l ∧ l.length = 32 ∧ l.take (4 * k) = u8c (((lst s).take k).flatMap bytes4) ∧ Below w.heap.size w wr
set_option maxHeartbeats 1000000 in
theorem fin_any (R : Nat) (s : S8) (q : List UInt8) (n : Nat) (w : World) (hR : Holds w R 47 (cellsR s q n)) :
    Calls Tryd.prog 22 #[.pointer (some ⟨R, 0, none⟩)] w fun e w' => e = .returned (.agg (u8c (out s)).toArray) ∧ Below w.heap.size w w' := by
  have i37 : (Tryd.prog.info? 42).map (·.size) = some (u32c (lst s)).length := by rw [u32c_length]; kernel_rfl
  have HI := Lib.hid i37
  have hlt := hR.lt
  obtain ⟨Z, hZr, hZ⟩ : ∃ Z : List Value, Z = List.replicate 32 (.int .u8 0) ∧ ∀ w, (zeroValue 25).run Tryd.prog w = .ok (.agg Z.toArray) w := ⟨List.replicate 32 (.int .u8 0), rfl, fun w => by kernel_rfl⟩
  have hRB : ((w.alloc (.cells Z.toArray 25)).alloc (.cells Z.toArray 25)).rangeAt R 0 (u32c (lst s)) := range_words ((hR.alloc _).alloc _)
  have HRB := Lib.hid hRB
  have HR : Hid (F1 s w (.int .i64 0) ((w.alloc (.cells Z.toArray 25)).alloc (.cells Z.toArray 25))) := by
    have hzl : Z.length = 32 := by rw [hZr]; rfl
    have h1 := Holds.fresh (w.alloc (.cells Z.toArray 25)) 25 Z
    refine ⟨0, Z, by omega, rfl, ⟨Z, (Holds.fresh w _ Z).alloc _, hzl⟩, by simpa using h1, hzl, by simp [u8c], ?_⟩
    exact ((Below.refl _ _).alloc (Nat.le_refl _) _).alloc (by simp) _
  clear hRB hZr i37 hR
  go_enter Tryd.func22, Tryd.ntmps22
  go_wp2_with (refine wpList_load_mid rfl 42 _ rfl R 0 rfl (u32c (lst s)) _ HRB.out Tryd.underlying42 rfl HI.out ?_)
  go_loopw [10] (F1 s w) (fun i _ => 8 - (intOf i).toNat)
  case atStart => exact HR.out
  case round =>
    clear HR HRB HI hZ
    obtain ⟨k, l, hk, rfl, hz, hH, hl, ht, hb⟩ := hrel
    by_cases hlt8 : k < 8
    · have hix := index8' s hlt8
      have hot := out_take s hlt8
      generalize (lst s).getD k 0 = x at *
      obtain ⟨v0, c0⟩ : ∃ v, wr.cell? ⟨w.heap.size + 1, 4 * k, none⟩ = some v := ⟨l[4 * k], by rw [hH.cell, List.getElem?_eq_getElem]⟩
      obtain ⟨v1, c1⟩ : ∃ v, wr.cell? ⟨w.heap.size + 1, 4 * k + 1, none⟩ = some v := ⟨l[4 * k + 1], by rw [hH.cell, List.getElem?_eq_getElem]⟩
      obtain ⟨v2, c2⟩ : ∃ v, wr.cell? ⟨w.heap.size + 1, 4 * k + 2, none⟩ = some v := ⟨l[4 * k + 2], by rw [hH.cell, List.getElem?_eq_getElem]⟩
      obtain ⟨v3, c3⟩ : ∃ v, wr.cell? ⟨w.heap.size + 1, 4 * k + 3, none⟩ = some v := ⟨l[4 * k + 3], by rw [hH.cell, List.getElem?_eq_getElem]⟩
      have f0 : ∀ i, wr.frozen? ⟨w.heap.size + 1, i, none⟩ = false := hH.soft
      have s24 : u x / (16777216 : Int) = u (x >>> 24) := u_shr x 24 (by decide)
      have s16 : u x / (65536 : Int) = u (x >>> 16) := u_shr x 16 (by decide)
      have s8 : u x / (256 : Int) = u (x >>> 8) := u_shr x 8 (by decide)
      have HH := Lib.hid hH
      have HL := Lib.hid hl
      have HTK := Lib.hid ht
      have HZ := Lib.hid hz
      have HOT := Lib.hid hot
      clear hH hl ht hz hot
      go_wp2
      go_roundw
      case rel =>
        refine ⟨k + 1, _, by omega, by go_num, ?_, (((HH.out.put _ _).put _ _).put _ _).put _ _, by simp; exact HL.out, ?_, ?_⟩
        · obtain ⟨z, hz, hzl⟩ := HZ.out
          exact ⟨z, (((hz.far (by simp) _).far (by simp) _).far (by simp) _).far (by simp) _, hzl⟩
        · rw [show 4 * (k + 1) = 4 * k + 4 by omega, take_set4 _ _ _ _ _ _ (by rw [HL.out]; omega), HTK.out, HOT.out, u8c_append]; rfl
        · exact (((hb.setCell (by simp) _).setCell (by simp) _).setCell (by simp) _).setCell (by simp) _
      case measure => simp [intOf]; omega
    · have hk8 : k = 8 := by omega
      have hd : decide ((k : Int) < 8) = false := by simp; omega
      have hlw : l = u8c (out s) := by
        rw [hk8, List.take_of_length_le (by omega)] at ht
        exact ht
      rw [hlw] at hH
      obtain ⟨z, hZ, hzl⟩ := hz
      have hl' : (u8c (out s)).length = 32 := by rw [u8c_length]; rfl
      have i25 : (Tryd.prog.info? 25).map (·.size) = some (u8c (out s)).toArray.size := by rw [List.size_toArray, hl']; kernel_rfl
      have hzs : z.toArray.size = (u8c (out s)).toArray.size := by rw [List.size_toArray, List.size_toArray, hzl, hl']
      have HI := Lib.hid i25
      have HZS := Lib.hid hzs
      have H1 := Lib.hid (u8c_one (out s))
      have HW := Lib.hid hH
      have HZ := Lib.hid hZ
      clear hlw hl ht hzl hl' i25 hzs hH hZ hk8
      go_wp2_with (first | (refine wpList_load_row rfl 25 _ rfl (w.heap.size + 1) rfl 25 _ (0, 0) _ HW.out Tryd.underlying25 rfl HI.out ?_) | (refine wpList_store_row rfl 25 _ _ rfl w.heap.size _ rfl rfl 25 _ HZ.out HI.out HZS.out H1.out ?_))
      exact bodyPost_ret (results_cell_row rfl _ _ w.heap.size 25 _ (0, 0) _ rfl (HZ.out.row _) Tryd.underlying25 rfl HI.out) rfl ⟨rfl, below_row hb (by omega) _⟩
end Go.Proofs.YtlndjmpopoihnaaDoor
