/-
  The document's own digits of a sum. Conditions: the sum has 32 bytes.
-/
import Derived.Test.YtnalfjhjhbicmaaDoorWalkDigits
import Derived.Test.YtnalfjhjhbicmaaDoorRWords
import Derived.Deep.WholeRow
import Derived.Deep.RegionWith
namespace Go.Proofs.YtnalfjhjhbicmaaDoor
open Go.RowKit
theorem digit_any {m : Nat} (h : m < 16) (w : World) : Calls Tryd.prog 17 #[.int .u8 (m : Int)] w fun e w' => e = .returned (.int .u8 (v8 (dg m))) ∧ w = w' := by
  rcases dg_num h with ⟨h1, hC⟩ | ⟨h1, hC⟩
  · rw [hC]
    clear hC
    go_enter Tryd.func17, Tryd.ntmps17
    go_wp2
    go_ret
    exact ⟨rfl, rfl⟩
  · rw [hC]
    clear hC
    have hd : decide ((m : Int) < 10) = false := by simp; omega
    go_enter Tryd.func17, Tryd.ntmps17
    go_wp2
    go_ret
    exact ⟨by show Ending.returned (.int .u8 _) = _; congr 2; omega, rfl⟩
theorem bytes_append (x y : List UInt8) : (⟨x.toArray⟩ : ByteArray) ++ (⟨y.toArray⟩ : ByteArray) = ⟨(x ++ y).toArray⟩ := by
  apply ByteArray.ext
  rw [ByteArray.data_append]
  simp
theorem conv_two (d1 d2 : UInt8) (W : World) : (convert 22 9 (.slice (some ⟨W.heap.size, 0, none⟩) 2 2)).run Tryd.prog (W.alloc (.cells #[.int .u8 (v8 d1), .int .u8 (v8 d2)] 5)) = .ok (.string ⟨#[d1, d2]⟩) (W.alloc (.cells #[.int .u8 (v8 d1), .int .u8 (v8 d2)] 5)) :=
  conv_at (b := W.heap.size) (o := 0) (bs := [d1, d2]) 2 (fun j v hv => by rw [Nat.zero_add, cell_of_row _ _ j _ _ _ (heap_alloc_last _ _)]; exact List.getElem?_toArray.trans hv)
theorem conv_two_drew (d1 d2 : UInt8) (W : World) : (convert 22 9 (.slice (some ⟨W.heap.size, 0, none⟩) 2 2)).run Tryd.prog (W.alloc (.cells #[.int .u8 (v8 d1), .int .u8 (v8 d2)] 5)).drew = .ok (.string ⟨#[d1, d2]⟩) (W.alloc (.cells #[.int .u8 (v8 d1), .int .u8 (v8 d2)] 5)).drew :=
  conv_at (w := (W.alloc (.cells #[.int .u8 (v8 d1), .int .u8 (v8 d2)] 5)).drew) (b := W.heap.size) (o := 0) (bs := [d1, d2]) 2 (fun j v hv => by
    rw [Nat.zero_add]
    show (W.alloc (.cells #[.int .u8 (v8 d1), .int .u8 (v8 d2)] 5)).cell? _ = _
    rw [cell_of_row _ _ j _ _ _ (heap_alloc_last _ _)]; exact List.getElem?_toArray.trans hv)
def RH (s : List UInt8) (g : Nat) (w : World) (t i : Value) (wr : World) : Prop :=
  ∃ k : Nat, k ≤ 32 ∧ i = .int .i64 k ∧ t = .string ⟨(hexB (s.take k)).toArray⟩ ∧ wr.rangeAt g 0 (u8c s) ∧ Below w.heap.size w wr
set_option maxHeartbeats 1000000 in
theorem rhex_any (s : List UInt8) (hs : s.length = 32) (g : Nat) (w : World) (hg : g < w.heap.size) (hr : w.rangeAt g 0 (u8c s)) :
    Calls Tryd.prog 11 #[.slice (some ⟨g, 0, none⟩) 32 32] w fun e w' => e = .returned (.string ⟨(hexB s).toArray⟩) ∧ Below w.heap.size w w' := by
  have HS := Lib.hid hs
  have HR : Hid (RH s g w (.string ⟨#[]⟩) (.int .i64 0) w) := ⟨0, by omega, rfl, rfl, hr, Below.refl _ _⟩
  clear hs hr
  go_enter Tryd.func11, Tryd.ntmps11
  go_wp2
  go_loopw [3, 7] (RH s g w) (fun _ i _ => 32 - (intOf i).toNat)
  case atStart => exact HR.out
  case round =>
    clear HR
    obtain ⟨k, hk, rfl, rfl, hra, hb⟩ := hrel
    by_cases hlt : k < 32
    · have ck : wr.cell? ⟨g, k, none⟩ = some (.int .u8 (v8 (s.getD k 0))) := by
        have := hra k _ (u8c_at (by rw [HS.out]; exact hlt))
        rwa [Nat.zero_add] at this
      have hht := hex_take s (k := k) (by rw [HS.out]; exact hlt)
      generalize s.getD k 0 = b at *
      have hb256 := b.toNat_lt
      obtain ⟨m1, hm1⟩ : ∃ m1 : Nat, b.toNat / 16 = m1 := ⟨_, rfl⟩
      obtain ⟨m2, hm2⟩ : ∃ m2 : Nat, b.toNat % 16 = m2 := ⟨_, rfl⟩
      have l1 : m1 < 16 := by omega
      have l2 : m2 < 16 := by omega
      have hd2 : dg2 b = [dg m1, dg m2] := by unfold dg2; rw [hm1, hm2]
      rw [hd2] at hht
      have e1 : (v8 b).tdiv 16 = (m1 : Int) := by rw [Int.tdiv_eq_ediv_of_nonneg (v8_lo b)]; unfold v8; omega
      have e2 : (v8 b).tmod 16 = (m2 : Int) := by rw [Int.tmod_eq_emod_of_nonneg (v8_lo b)]; unfold v8; omega
      have e3 : v8 b / 16 = (m1 : Int) := by unfold v8; omega
      have e4 : v8 b % 16 = (m2 : Int) := by unfold v8; omega
      have e5 : IntKind.u8.wrap (m1 : Int) = (m1 : Int) := by rw [IntKind.wrap_u8']; omega
      have e6 : IntKind.u8.wrap (m2 : Int) = (m2 : Int) := by rw [IntKind.wrap_u8']; omega
      have hcv := conv_two (dg m1) (dg m2)
      have hcd := conv_two_drew (dg m1) (dg m2)
      have hsz : (⟨(hexB (s.take k)).toArray⟩ : ByteArray).size ≤ 64 := by
        show (hexB (s.take k)).toArray.size ≤ 64
        rw [List.size_toArray, hexB_length, List.length_take]; omega
      obtain ⟨S1, hS1⟩ : ∃ S1, (⟨(hexB (s.take k)).toArray⟩ : ByteArray) = S1 := ⟨_, rfl⟩
      rw [hS1] at hsz ⊢
      have hadd : ∀ W, (Op.stringOp .add S1 ⟨#[dg m1, dg m2]⟩).run Tryd.prog W = .ok (.string (S1 ++ ⟨#[dg m1, dg m2]⟩)) W := fun W => run_string_add_sum W _ _ (by show S1.size + 2 ≤ _; omega)
      have hno : ¬ (9223372036854775807 < S1.size + 2) := by omega
      have HS1 := Lib.hid hS1
      clear hS1
      have HHT := Lib.hid hht
      have HRA := Lib.hid hra
      have gk : (k : Int) < 32 := by omega
      clear hht hra hm1 hm2 hd2 hb256
      go_wp2
      go_region_with (go_at_call 17; ((with_reducible refine (digit_any (by assumption) _).mono ?_); rintro e w' ⟨rfl, rfl⟩))
      all_goals
        go_wp2
        go_roundw
        case rel =>
          refine ⟨k + 1, by omega, by go_num, ?_, ?_, ?_⟩
          · rw [HHT.out, ← bytes_append, HS1.out]
          · exact range_keep HRA.out (Below.heap_alloc _ _ _ (by have := hb.size; omega))
          · exact (hb.alloc hb.size _).drew
        case measure => simp [intOf]; omega
    · have hk : k = 32 := by omega
      have hfin : hexB (s.take k) = hexB s := by rw [List.take_of_length_le (by rw [HS.out]; omega)]
      rw [hfin]
      clear hfin hra
      go_wp2
      go_ret
      exact ⟨rfl, hb⟩
end Go.Proofs.YtnalfjhjhbicmaaDoor
