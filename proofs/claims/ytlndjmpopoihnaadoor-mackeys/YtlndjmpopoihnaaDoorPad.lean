/-
  running.pad: what follows the bytes is taken in. Conditions: the tables lie as they were laid; there are not too many bytes.
-/
import Derived.Test.YtlndjmpopoihnaaDoorTake
namespace Go.Proofs.YtlndjmpopoihnaaDoor
open Go.RowKit
/-- What follows the bytes, so far. -/
def pre (z n k : Nat) : List UInt8 := 128 :: (List.replicate z 0 ++ (List.range k).map (be n))
theorem pre_length (z n k : Nat) : (pre z n k).length = 1 + z + k := by simp [pre]; omega
theorem pre_succ (z n k : Nat) : pre z n (k + 1) = pre z n k ++ [be n k] := by simp [pre, List.range_succ]
theorem v8_be (n i : Nat) : v8 (be n i) = ((n / 2 ^ (56 - 8 * i) % 256 : Nat) : Int) := by unfold v8 be; rw [Nat.toUInt8, UInt8.toNat_ofNat']
theorem pre_zero (z n : Nat) (h : z ≤ 71) : ((List.replicate 72 (.int .u8 0)).set 0 (.int .u8 128)).take (1 + z + 0) = u8c (pre z n 0) := by
  have e : (List.replicate 72 (Value.int .u8 0)).set 0 (.int .u8 128) = .int .u8 128 :: List.replicate 71 (.int .u8 0) := rfl
  have e2 : 1 + z + 0 = z + 1 := by omega
  rw [e, e2, List.take_succ_cons, List.take_replicate, Nat.min_eq_left h]
  simp only [pre, u8c, List.range_zero, List.map_nil, List.append_nil, List.map_cons, List.map_replicate]
  rfl
def PD (R : Nat) (z n : Nat) (bs : List UInt8) (w : World) (i : Value) (wr : World) : Prop :=
  ∃ (k : Nat) (l : List Value), k ≤ 8 ∧ i = .int .i64 k ∧ Holds wr w.heap.size 55 l ∧ l.length = 72 ∧ l.take (1 + z + k) = u8c (pre z n k) ∧ Sta wr R bs ∧ Tabs wr ∧ Below w.heap.size w wr
set_option maxHeartbeats 1000000 in
theorem pad_any (R : Nat) (bs : List UInt8) (w : World) (hS : Sta w R bs) (hT : Tabs w) (h2 : 2 ≤ R) (hn : bs.length ≤ 1000000000000000000) :
    Calls Tryd.prog 21 #[.pointer (some ⟨R, 0, none⟩)] w fun e w' => e = .returned (.tuple #[]) ∧ Sta w' R (bs ++ padd bs.length) ∧ w.grownBy w' (some R) := by
  obtain ⟨N, hN⟩ : ∃ N, bs.length = N := ⟨_, rfl⟩
  rw [hN] at hn
  have cl : w.cell? ⟨R, 72, none⟩ = some (.int .u64 (N : Int)) := by
    obtain ⟨s, q, hst, hR⟩ := hS
    rw [← hN]
    exact (hR.cell 72).trans (cellsR_len s _ hst.len)
  have hlt : R < w.heap.size := by
    obtain ⟨s, q, hst, hR⟩ := hS
    exact hR.lt
  have HS := Lib.hid hS
  have HT := Lib.hid hT
  have HN := Lib.hid hN
  clear hS hT hN
  obtain ⟨Z, hZl, hZr, hZ0, hZ⟩ : ∃ Z : List Value, Z.length = 72 ∧ Z = List.replicate 72 (.int .u8 0) ∧ Z[0]? = some (.int .u8 0) ∧ ∀ w, (zeroValue 55).run Tryd.prog w = .ok (.agg Z.toArray) w := ⟨List.replicate 72 (.int .u8 0), rfl, rfl, rfl, fun w => by kernel_rfl⟩
  obtain ⟨d, hd⟩ : ∃ d : Nat, (N : Int) % 64 = (d : Int) := ⟨N % 64, by omega⟩
  have hd64 : d < 64 := by omega
  obtain ⟨z, hz⟩ : ∃ z : Nat, ((119 : Int) - (d : Int)) % 64 = (z : Int) := ⟨(((119 : Int) - (d : Int)) % 64).toNat, by omega⟩
  obtain ⟨L, hL⟩ : ∃ L : Nat, 8 * (N : Int) = (L : Int) := ⟨8 * N, by omega⟩
  have hz64 : z < 64 := by omega
  have hzN : (119 - N % 64) % 64 = z := by omega
  have hLN : 8 * N = L := by omega
  have hzd : (119 - d) % 64 = z := by omega
  have HZD := Lib.hid hzd
  have hLm : L ≤ 8000000000000000000 := by omega
  have HP : Hid (padd N = pre z L 8) := by unfold Hid padd pre; rw [hzN, hLN]
  have HZL := Lib.hid hZl
  have HZR := Lib.hid hZr
  have hb0 := (Below.refl w.heap.size w).alloc (Nat.le_refl _) (.cells (Z.set 0 (.int .u8 128)).toArray 55)
  have hw1 := Holds.fresh w 55 (Z.set 0 (.int .u8 128))
  have HR : Hid (PD R z L bs w (.int .i64 0) (w.alloc (.cells (Z.set 0 (.int .u8 128)).toArray 55))) := by
    refine ⟨0, _, by omega, rfl, hw1, by rw [List.length_set]; exact hZl, ?_, ?_, HT.out.below hb0 HT.out.two, hb0⟩
    · rw [hZr]; exact pre_zero z L (by omega)
    · obtain ⟨s, q, hst, hR⟩ := HS.out
      exact ⟨s, q, hst, hR.alloc _⟩
  clear hZl hZr hzN hLN hb0 hw1 hzd hz
  go_enter Tryd.func21, Tryd.ntmps21
  go_wp2
  clear hL hd
  go_loopw [19] (PD R z L bs w) (fun i _ => 8 - (intOf i).toNat)
  case atStart => exact HR.out
  case round =>
    clear HR hZ hZ0 cl
    obtain ⟨k, l, hk, rfl, hH, hl, ht, hS, hT, hb⟩ := hrel
    by_cases hlt8 : k < 8
    · have hzd := HZD.out
      obtain ⟨v, hv⟩ : ∃ v, wr.cell? ⟨w.heap.size, 1 + (119 - d) % 64 + k, none⟩ = some v := ⟨l[1 + (119 - d) % 64 + k], by rw [hH.cell, List.getElem?_eq_getElem]⟩
      have hf : wr.frozen? ⟨w.heap.size, 1 + (119 - d) % 64 + k, none⟩ = false := hH.soft _
      clear hzd
      have HH := Lib.hid hH
      have HL := Lib.hid hl
      have HTK := Lib.hid ht
      have HSS := Lib.hid hS
      clear hH hl ht hS
      go_wp2
      go_roundw
      case rel =>
        have hval : (L : Int) / 2 ^ (56 - 8 * k) % 256 = v8 (be L k) := by
          rw [v8_be, Int.natCast_emod, Int.natCast_ediv, Int.natCast_pow]; rfl
        rw [hval, HZD.out]
        refine ⟨k + 1, l.set (1 + z + k) _, by omega, by go_num, HH.out.put _ _, by rw [List.length_set]; exact HL.out, ?_, ?_, ?_, hb.setCell (by simp) _⟩
        · rw [← Nat.add_assoc, take_set _ _ _ (by rw [HL.out]; omega), HTK.out, pre_succ, u8c_append]; rfl
        · obtain ⟨s, q, hst, hR⟩ := HSS.out
          exact ⟨s, q, hst, hR.far (by simp; omega) _⟩
        · exact hT.below ((Below.refl w.heap.size wr).setCell (by simp) _) HT.out.two
      case measure => simp [intOf]; omega
    · have hk8 : k = 8 := by omega
      have hzd := HZD.out
      have hd8 : decide ((k : Int) < 8) = false := by simp; omega
      subst hk8
      have hpl : (padd N).length = 1 + z + 8 := by rw [HP.out, pre_length]
      have hA : At8 wr R (some ⟨w.heap.size, 0, none⟩) (padd N) := fun _ => ⟨_, _, rfl, by omega, hH.lt, fun j v hv => by
        rw [Nat.zero_add, hH.cell, ← hv, HP.out, ← ht, List.getElem?_take_of_lt]
        have := (List.getElem?_eq_some_iff.1 hv).1
        rwa [u8c_length, hpl] at this⟩
      have HTAKE := Lib.hid (take_any R bs (padd N) (some ⟨w.heap.size, 0, none⟩) 72 wr (by omega) (by omega) hA hS hT h2 (by rw [HN.out, hpl]; omega))
      rw [hpl] at HTAKE
      obtain ⟨E, hE⟩ : ∃ E, 1 + z + 8 = E := ⟨_, rfl⟩
      rw [hE] at HTAKE
      have hE1 : 1 + ((119 : Int) - (d : Int)) % 64 + 8 = (E : Int) := by omega
      have hE2 : E ≤ 72 := by omega
      have hE3 : (E : Int) ≤ 72 := by omega
      clear hA hS hT hH ht hl hpl hzd hE
      go_wp2_with (go_at_call 20; ((refine HTAKE.out.mono ?_); rintro e w5 ⟨rfl, hS5, hg5⟩))
      go_end0
      exact ⟨rfl, by rw [HN.out]; exact hS5, one_trans (one_below (one_refl w _) hb) hg5⟩
end Go.Proofs.YtlndjmpopoihnaaDoor
