/-
  sha.Hex: the digits of a sum. Conditions: the sum has 32 bytes.
-/
import Derived.Test.YtlndjmpopoihnaaDoorRun
import Derived.WalkKit
import Derived.WalkLawsBesides
import Derived.Lib.Hide
import Derived.Laws.IdiomStrings
import Derived.Laws.BitsLemmas
namespace Go.Proofs.YtlndjmpopoihnaaDoor
open Go.RowKit
/-- A digit. -/
def dg (n : Nat) : UInt8 := [48, 49, 50, 51, 52, 53, 54, 55, 56, 57, 97, 98, 99, 100, 101, 102].getD n 0
def dg2 (b : UInt8) : List UInt8 := [dg (b.toNat / 16), dg (b.toNat % 16)]
def hexB (l : List UInt8) : List UInt8 := l.flatMap dg2
theorem agg5 (w : World) : (isAgg 5).run Tryd.prog w = .ok false w := by kernel_rfl
theorem size5 (w : World) : (sizeOf 5).run Tryd.prog w = .ok 1 w := by kernel_rfl
theorem index32 (s : List UInt8) (hs : s.length = 32) {j : Nat} (h : j < 32) (w : World) : (Instr.index 25 (.agg (u8c s).toArray) (.int .i64 (j : Int))).run Tryd.prog w = .ok (.int .u8 (v8 (s.getD j 0))) w :=
  index_agg Tryd.underlying25 agg5 size5 h (by rw [List.getElem?_toArray]; exact u8c_at (by omega)) w
theorem index_dg {m : Nat} (h : m < 16) (w : World) : (Instr.index 9 (.string { data := #[48, 49, 50, 51, 52, 53, 54, 55, 56, 57, 97, 98, 99, 100, 101, 102] }) (.int .u8 (m : Int))).run Tryd.prog w = .ok (.int .u8 (v8 (dg m))) w := by
  have hm : m = 0 ∨ m = 1 ∨ m = 2 ∨ m = 3 ∨ m = 4 ∨ m = 5 ∨ m = 6 ∨ m = 7 ∨ m = 8 ∨ m = 9 ∨ m = 10 ∨ m = 11 ∨ m = 12 ∨ m = 13 ∨ m = 14 ∨ m = 15 := by omega
  rcases hm with rfl | rfl | rfl | rfl | rfl | rfl | rfl | rfl | rfl | rfl | rfl | rfl | rfl | rfl | rfl | rfl
  all_goals exact rfl
theorem hex_take (s : List UInt8) {k : Nat} (h : k < s.length) : hexB (s.take (k + 1)) = hexB (s.take k) ++ dg2 (s.getD k 0) := by
  unfold hexB
  rw [List.take_succ_eq_append_getElem h, List.flatMap_append]
  simp [List.getD_eq_getElem?_getD, List.getElem?_eq_getElem h]
theorem take_set2 {α : Type} (l : List α) (k : Nat) (a b : α) (h : k + 1 < l.length) : ((l.set k a).set (k + 1) b).take (k + 2) = l.take k ++ [a, b] := by
  rw [show k + 2 = k + 1 + 1 from rfl, take_set _ _ _ (by simpa using h), take_set _ _ _ (by omega)]
  simp
theorem conv_at {w : World} {b o : Nat} {bs : List UInt8} (c : Nat) (h : w.rangeAt b o (u8c bs)) : (convert 22 9 (.slice (some ⟨b, o, none⟩) bs.length c)).run Tryd.prog w = .ok (.string ⟨bs.toArray⟩) w :=
  run_convert_bytes_back w 22 9 5 ⟨b, o, none⟩ c bs Tryd.underlying22 Tryd.underlying5 Tryd.underlying9 (fun j hj => by
    have e : (⟨b, o, none⟩ : Addr).add j = ⟨b, o + j, none⟩ := by unfold Addr.add; split <;> simp_all
    rw [e, h j _ (u8c_at hj)]
    simp [v8, List.getD_eq_getElem?_getD, List.getElem?_eq_getElem hj])
def HX (s : List UInt8) (w : World) (i : Value) (wr : World) : Prop :=
  ∃ (k : Nat) (l : List Value), k ≤ 32 ∧ i = .int .i64 k ∧ Holds wr (w.heap.size + 1) 36 l ∧ l.length = 64 ∧ l.take (2 * k) = u8c (hexB (s.take k)) ∧ Below w.heap.size w wr
set_option maxHeartbeats 1000000 in
theorem hex_any (s : List UInt8) (hs : s.length = 32) (w : World) : Calls Tryd.prog 13 #[.agg (u8c s).toArray] w fun e w' => e = .returned (.string ⟨(hexB s).toArray⟩) ∧ Below w.heap.size w w' := by
  have i25 : (Tryd.prog.info? 25).map (·.size) = some (u8c s).toArray.size := by rw [List.size_toArray, u8c_length, hs]; kernel_rfl
  have HI := Lib.hid i25
  have HS := Lib.hid hs
  have HH : Hid (∀ O, (((w.alloc (.cells (u8c s).toArray 25)).alloc O)).heap[w.heap.size]? = some (.cells (u8c s).toArray 25 (0, 0))) := fun O => (Holds.fresh w _ _).alloc O
  clear i25 hs
  go_enter Tryd.func13, Tryd.ntmps13
  go_wp2_with (refine wpList_load_row rfl 25 _ rfl w.heap.size rfl 25 _ (0, 0) _ (HH.out _) Tryd.underlying25 rfl HI.out ?_)
  go_loopw [7] (HX s w) (fun i _ => 32 - (intOf i).toNat)
  case atStart =>
    refine ⟨0, List.replicate 64 (.int .u8 0), by omega, rfl, ?_, rfl, by simp [hexB, u8c], ?_⟩
    · exact heap_alloc2_new w _ _
    · exact ((Below.refl _ _).alloc (Nat.le_refl _) _).alloc (by simp) _
  case round =>
    clear HH HI
    obtain ⟨k, l, hk, rfl, hH, hl, ht, hb⟩ := hrel
    by_cases hlt : k < 32
    · have hix := index32 s HS.out hlt
      have hht := hex_take s (k := k) (by rw [HS.out]; exact hlt)
      generalize s.getD k 0 = b at *
      have hb256 := b.toNat_lt
      obtain ⟨m1, hm1⟩ : ∃ m1 : Nat, b.toNat / 16 = m1 := ⟨_, rfl⟩
      obtain ⟨m2, hm2⟩ : ∃ m2 : Nat, b.toNat % 16 = m2 := ⟨_, rfl⟩
      have e1 : v8 b / 16 = (m1 : Int) := by unfold v8; omega
      have e2 : bits .and .u8 (v8 b) 15 = (m2 : Int) := by rw [u8_and15 _ (v8_lo b) (v8_hi b)]; unfold v8; omega
      have g1 := index_dg (m := m1) (by omega)
      have g2 := index_dg (m := m2) (by omega)
      have hd2 : dg2 b = [dg m1, dg m2] := by unfold dg2; rw [hm1, hm2]
      rw [hd2] at hht
      obtain ⟨v0, c0⟩ : ∃ v, wr.cell? ⟨w.heap.size + 1, 2 * k, none⟩ = some v := ⟨l[2 * k], by rw [hH.cell, List.getElem?_eq_getElem]⟩
      obtain ⟨v1, c1⟩ : ∃ v, wr.cell? ⟨w.heap.size + 1, 2 * k + 1, none⟩ = some v := ⟨l[2 * k + 1], by rw [hH.cell, List.getElem?_eq_getElem]⟩
      have f0 : ∀ i, wr.frozen? ⟨w.heap.size + 1, i, none⟩ = false := hH.soft
      have HH := Lib.hid hH
      have HL := Lib.hid hl
      have HTK := Lib.hid ht
      have HOT := Lib.hid hht
      clear hH hl ht hht hm1 hm2 hd2
      go_wp2
      go_roundw
      case rel =>
        refine ⟨k + 1, _, by omega, by go_num, (HH.out.put _ _).put _ _, by simp; exact HL.out, ?_, (hb.setCell (by simp) _).setCell (by simp) _⟩
        rw [show 2 * (k + 1) = 2 * k + 2 by omega, take_set2 _ _ _ _ (by rw [HL.out]; omega), HTK.out, HOT.out, u8c_append]; rfl
      case measure => simp [intOf]; omega
    · have hk : k = 32 := by omega
      have hd : decide ((k : Int) < 32) = false := by simp; omega
      have hlw : l = u8c (hexB s) := by
        rw [hk, List.take_of_length_le (by omega), List.take_of_length_le (by rw [HS.out]; omega)] at ht
        exact ht
      have hx64 : (hexB s).length = 64 := by rw [← u8c_length, ← hlw, hl]
      rw [hlw] at hH
      have hcv := conv_at (w := wr) (b := w.heap.size + 1) (o := 0) (bs := hexB s) 64 (fun j v hv => by rw [Nat.zero_add, hH.cell]; exact hv)
      rw [hx64] at hcv
      clear hlw hH ht hl hk hx64
      go_wp2
      go_ret
      exact ⟨rfl, hb⟩
end Go.Proofs.YtlndjmpopoihnaaDoor
