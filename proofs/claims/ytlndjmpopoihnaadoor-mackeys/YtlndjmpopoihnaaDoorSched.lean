/-
  sha.schedule: the words of a block. Conditions: the block has 64 bytes.
-/
import Derived.Test.YtlndjmpopoihnaaDoorTurn
import Derived.Test.YtlndjmpopoihnaaDoorMem
import Derived.Test.YtlndjmpopoihnaaDoorPureMore
import Derived.WalkKit
import Derived.Deep.QuietTactic
import Derived.BigQuiet
import Derived.StillTailTactics
import Derived.WalkLawsBesides
import Derived.Lib.Hide
namespace Go.Proofs.YtlndjmpopoihnaaDoor
open Go.RowKit
def R1 (q : List UInt8) (w : World) (i : Value) (wr : World) : Prop :=
  ∃ (k : Nat) (l : List Value), k ≤ 16 ∧ i = .int .i64 k ∧ Holds wr w.heap.size 36 (u8c q) ∧ (∃ z, Holds wr (w.heap.size + 1) 50 z ∧ z.length = 64) ∧ Holds wr (w.heap.size + 2) 50 l ∧ l.length = 64 ∧ l.take k = u32c (wl q k) ∧ Below w.heap.size w wr
attribute [local go_sem] u_or u_xor u_add u_of_v8
def R2 (q : List UInt8) (w : World) (i : Value) (wr : World) : Prop :=
  ∃ (k : Nat) (l : List Value), 16 ≤ k ∧ k ≤ 64 ∧ i = .int .i64 k ∧ (∃ z, Holds wr (w.heap.size + 1) 50 z ∧ z.length = 64) ∧ Holds wr (w.heap.size + 2) 50 l ∧ l.length = 64 ∧ l.take k = u32c (wl q k) ∧ Below w.heap.size w wr
set_option maxHeartbeats 2000000 in
theorem sched_any (q : List UInt8) (hq : q.length = 64) (w : World) : Calls Tryd.prog 27 #[.agg (u8c q).toArray] w fun e w' => e = .returned (.agg (u32c (wl q 64)).toArray) ∧ Below w.heap.size w w' := by
  have HQ := Lib.hid hq
  clear hq
  go_enter Tryd.func27, Tryd.ntmps27
  go_wp2
  go_loopw [10] (R1 q w) (fun i _ => 16 - (intOf i).toNat)
  case atStart =>
    refine ⟨0, _, by omega, rfl, ((Holds.fresh w _ _).alloc _).alloc _, ⟨_, (by have := (Holds.fresh (w.alloc (.cells (u8c q).toArray 36)) 50 (List.replicate 64 (.int .u32 0))).alloc (.cells (List.replicate 64 (.int .u32 0)).toArray 50); simpa using this), by simp⟩, (by have := Holds.fresh ((w.alloc (.cells (u8c q).toArray 36)).alloc (.cells (List.replicate 64 (.int .u32 0)).toArray 50)) 50 (List.replicate 64 (.int .u32 0)); simpa using this), by simp, by simp [wl, u32c], ?_⟩
    exact (((Below.refl _ _).alloc (Nat.le_refl _) _).alloc (by simp) _).alloc (by simp <;> omega) _
  case round =>
    obtain ⟨k, l, hk, rfl, hB, hZ, hW, hl, ht, hb⟩ := hrel
    by_cases hlt : k < 16
    · obtain ⟨b0, hb0⟩ : ∃ b0, q.getD (4 * k) 0 = b0 := ⟨_, rfl⟩
      obtain ⟨b1, hb1⟩ : ∃ b1, q.getD (4 * k + 1) 0 = b1 := ⟨_, rfl⟩
      obtain ⟨b2, hb2⟩ : ∃ b2, q.getD (4 * k + 2) 0 = b2 := ⟨_, rfl⟩
      obtain ⟨b3, hb3⟩ : ∃ b3, q.getD (4 * k + 3) 0 = b3 := ⟨_, rfl⟩
      have c0 : wr.cell? ⟨w.heap.size, 4 * k, none⟩ = some (.int .u8 (v8 b0)) := by rw [hB.cell, u8c_at (by rw [HQ.out]; omega), hb0]
      have c1 : wr.cell? ⟨w.heap.size, 4 * k + 1, none⟩ = some (.int .u8 (v8 b1)) := by rw [hB.cell, u8c_at (by rw [HQ.out]; omega), hb1]
      have c2 : wr.cell? ⟨w.heap.size, 4 * k + 2, none⟩ = some (.int .u8 (v8 b2)) := by rw [hB.cell, u8c_at (by rw [HQ.out]; omega), hb2]
      have c3 : wr.cell? ⟨w.heap.size, 4 * k + 3, none⟩ = some (.int .u8 (v8 b3)) := by rw [hB.cell, u8c_at (by rw [HQ.out]; omega), hb3]
      obtain ⟨z, hz⟩ : ∃ z, wr.cell? ⟨w.heap.size + 1 + 1, k, none⟩ = some z := ⟨l[k], by rw [hW.cell, List.getElem?_eq_getElem]⟩
      have hf : wr.frozen? ⟨w.heap.size + 1 + 1, k, none⟩ = false := hW.soft k
      have HB0 := Lib.hid hb0
      have HB1 := Lib.hid hb1
      have HB2 := Lib.hid hb2
      have HB3 := Lib.hid hb3
      have HT := Lib.hid ht
      have HL := Lib.hid hl
      have HB := Lib.hid hB
      have HZ := Lib.hid hZ
      have HW := Lib.hid hW
      clear hb0 hb1 hb2 hb3 ht hl hB hZ hW
      have s24 : ∀ x, IntKind.u32.wrap (u x * (16777216 : Int)) = u (x <<< 24) := fun x => u_shl x 24 (by decide)
      have s16 : ∀ x, IntKind.u32.wrap (u x * (65536 : Int)) = u (x <<< 16) := fun x => u_shl x 16 (by decide)
      have s8 : ∀ x, IntKind.u32.wrap (u x * (256 : Int)) = u (x <<< 8) := fun x => u_shl x 8 (by decide)
      have a0 : IntKind.i64.wrap (4 * (k : Int)) = 4 * (k : Int) := IntWalk.i64_in _ (by omega)
      have a1 : IntKind.i64.wrap (4 * (k : Int) + 1) = 4 * (k : Int) + 1 := IntWalk.i64_in _ (by omega)
      have a2 : IntKind.i64.wrap (4 * (k : Int) + 2) = 4 * (k : Int) + 2 := IntWalk.i64_in _ (by omega)
      have a3 : IntKind.i64.wrap (4 * (k : Int) + 3) = 4 * (k : Int) + 3 := IntWalk.i64_in _ (by omega)
      have n0 : (4 * (k : Int)).toNat = 4 * k := by omega
      have n1 : (4 * (k : Int) + 1).toNat = 4 * k + 1 := by omega
      have n2 : (4 * (k : Int) + 2).toNat = 4 * k + 2 := by omega
      have n3 : (4 * (k : Int) + 3).toNat = 4 * k + 3 := by omega
      have g0 : 0 ≤ 4 * (k : Int) ∧ 4 * (k : Int) < 64 := by omega
      have g1 : 0 ≤ 4 * (k : Int) + 1 ∧ 4 * (k : Int) + 1 < 64 := by omega
      have g2 : 0 ≤ 4 * (k : Int) + 2 ∧ 4 * (k : Int) + 2 < 64 := by omega
      have g3 : 0 ≤ 4 * (k : Int) + 3 ∧ 4 * (k : Int) + 3 < 64 := by omega
      have gk : (k : Int) < 64 := by omega
      go_wp2
      go_still_tail 31, (by kernel_rfl)
      change wpList _ _ _ _ _ wr.drew
      clear a0 a1 a2 a3 n0 n1 n2 n3 g0 g1 g2 g3 s24 s16 s8
      go_wp2
      go_roundw
      case rel =>
        have hw : word q k = b0.toUInt32 <<< 24 ||| b1.toUInt32 <<< 16 ||| b2.toUInt32 <<< 8 ||| b3.toUInt32 := by unfold word; rw [HB0.out, HB1.out, HB2.out, HB3.out]
        refine ⟨k + 1, l.set k _, by omega, by go_num, ?_, ?_, (HW.out.put k _).drew, by rw [List.length_set]; exact HL.out, ?_, ?_⟩
        · exact (HB.out.far (by simp <;> omega) _).drew
        · obtain ⟨z, hz, hzl⟩ := HZ.out
          exact ⟨z, (hz.far (by simp <;> omega) _).drew, hzl⟩
        · rw [take_set _ _ _ (by rw [HL.out]; omega), HT.out, wl_succ, u32c_append, W_word q hlt, hw]; rfl
        · exact (hb.setCell (by simp <;> omega) _).drew
      case measure => simp [intOf]; omega
    · have hk16 : k = 16 := by omega
      have hd : decide ((k : Int) < 16) = false := by simp; omega
      have HR : Hid (R2 q w (.int .i64 16) wr) := by subst hk16; exact ⟨16, l, by omega, by omega, rfl, hZ, hW, hl, ht, hb⟩
      clear hB hZ hW hl ht hb hk16
      go_wp2
      go_loopw [5] (R2 q w) (fun i _ => 64 - (intOf i).toNat)
      case atStart => exact HR.out
      case round =>
        clear HR hd
        obtain ⟨k, l, hk0, hk, rfl, hZ, hW, hl, ht, hb⟩ := hrel
        by_cases hlt : k < 64
        · have cc : ∀ j, j < k → wr.cell? ⟨w.heap.size + 1 + 1, j, none⟩ = some (.int .u32 (u (W q j))) := fun j hj => by
            have e : l[j]? = (l.take k)[j]? := by rw [List.getElem?_take_of_lt hj]
            rw [hW.cell, e, ht, u32c_at (by rw [wl_length]; exact hj), wl_at q hj]
          have c15 := cc (k - 15) (by omega)
          have c2 := cc (k - 2) (by omega)
          have c7 := cc (k - 7) (by omega)
          have c16 := cc (k - 16) (by omega)
          have hX := W_next q hk0
          obtain ⟨x15, h15⟩ : ∃ x, W q (k - 15) = x := ⟨_, rfl⟩
          obtain ⟨x2, h2⟩ : ∃ x, W q (k - 2) = x := ⟨_, rfl⟩
          obtain ⟨x7, h7⟩ : ∃ x, W q (k - 7) = x := ⟨_, rfl⟩
          obtain ⟨x16, h16⟩ : ∃ x, W q (k - 16) = x := ⟨_, rfl⟩
          rw [h15] at c15 hX
          rw [h2] at c2 hX
          rw [h7] at c7 hX
          rw [h16] at c16 hX
          obtain ⟨z, hz⟩ : ∃ z, wr.cell? ⟨w.heap.size + 1 + 1, k, none⟩ = some z := ⟨l[k], by rw [hW.cell, List.getElem?_eq_getElem]⟩
          have hf : wr.frozen? ⟨w.heap.size + 1 + 1, k, none⟩ = false := hW.soft k
          have HX := Lib.hid hX
          have HT := Lib.hid ht
          have HL := Lib.hid hl
          have HZ := Lib.hid hZ
          have HW := Lib.hid hW
          clear cc hX h15 h2 h7 h16 ht hl hZ hW
          have s3 : ∀ x, u x / (8 : Int) = u (x >>> 3) := fun x => u_shr x 3 (by decide)
          have s10 : ∀ x, u x / (1024 : Int) = u (x >>> 10) := fun x => u_shr x 10 (by decide)
          have a15 : IntKind.i64.wrap ((k : Int) - 15) = (k : Int) - 15 := IntWalk.i64_in _ (by omega)
          have a2 : IntKind.i64.wrap ((k : Int) - 2) = (k : Int) - 2 := IntWalk.i64_in _ (by omega)
          have a7 : IntKind.i64.wrap ((k : Int) - 7) = (k : Int) - 7 := IntWalk.i64_in _ (by omega)
          have a16 : IntKind.i64.wrap ((k : Int) - 16) = (k : Int) - 16 := IntWalk.i64_in _ (by omega)
          have n15 : ((k : Int) - 15).toNat = k - 15 := by omega
          have n2 : ((k : Int) - 2).toNat = k - 2 := by omega
          have n7 : ((k : Int) - 7).toNat = k - 7 := by omega
          have n16 : ((k : Int) - 16).toNat = k - 16 := by omega
          have g15 : 0 ≤ (k : Int) - 15 ∧ (k : Int) - 15 < 64 := by omega
          have g2 : 0 ≤ (k : Int) - 2 ∧ (k : Int) - 2 < 64 := by omega
          have g7 : 0 ≤ (k : Int) - 7 ∧ (k : Int) - 7 < 64 := by omega
          have g16 : 0 ≤ (k : Int) - 16 ∧ (k : Int) - 16 < 64 := by omega
          have gk : (k : Int) < 64 := by omega
          go_wp2
          go_quiet (fail)
          go_wp2_with (first | (go_at_call 28; ((with_reducible refine (turn_7 x15 _).mono ?_); rintro e w' ⟨rfl, rfl⟩)) | (go_at_call 28; ((with_reducible refine (turn_18 x15 _).mono ?_); rintro e w' ⟨rfl, rfl⟩)) | (go_at_call 28; ((with_reducible refine (turn_17 x2 _).mono ?_); rintro e w' ⟨rfl, rfl⟩)) | (go_at_call 28; ((with_reducible refine (turn_19 x2 _).mono ?_); rintro e w' ⟨rfl, rfl⟩)))
          have d7 : (wr.drewN nq).cell? ⟨w.heap.size + 1 + 1, k - 7, none⟩ = some (.int .u32 (u x7)) := c7
          have d16 : (wr.drewN nq).cell? ⟨w.heap.size + 1 + 1, k - 16, none⟩ = some (.int .u32 (u x16)) := c16
          have dz : (wr.drewN nq).cell? ⟨w.heap.size + 1 + 1, k, none⟩ = some z := hz
          have df : (wr.drewN nq).frozen? ⟨w.heap.size + 1 + 1, k, none⟩ = false := hf
          have HW' := Lib.hid (HW.out.drewN nq)
          have HB' := Lib.hid (below_drewN hb nq)
          have HZ' : Hid (∃ z, Holds (wr.drewN nq) (w.heap.size + 1) 50 z ∧ z.length = 64) := HZ.out
          clear c15 c2 c7 c16 hz hf HW HZ hb a15 a2 n15 n2 g15 g2 s3 s10
          have p7 : (7 : Int) ≤ (k : Int) := by omega
          have q7 : 7 ≤ k := by omega
          have r7 : (k : Int) < 71 := by omega
          have t7 : k < 71 := by omega
          have q16 : (16 : Int) ≤ (k : Int) := by omega
          have r16 : (k : Int) < 80 := by omega
          have t16 : k < 80 := by omega
          generalize wr.drewN nq = wq at *
          go_still_tail 15, (by kernel_rfl)
          change wpList _ _ _ _ _ wq.drew
          clear a7 a16 n7 n16 g7 g16 p7 q7 r7 t7 q16 r16 t16
          go_wp2
          go_roundw
          case rel =>
            refine ⟨k + 1, l.set k _, by omega, by omega, by go_num, ?_, (HW'.out.put k _).drew, by rw [List.length_set]; exact HL.out, ?_, ?_⟩
            · obtain ⟨z, hz, hzl⟩ := HZ'.out
              exact ⟨z, (hz.far (by simp) _).drew, hzl⟩
            · rw [take_set _ _ _ (by rw [HL.out]; omega), HT.out, wl_succ, u32c_append, HX.out]; rfl
            · exact (HB'.out.setCell (by simp <;> omega) _).drew
          case measure => simp [intOf]; omega
        · have hk64 : k = 64 := by omega
          have hd : decide ((k : Int) < 64) = false := by simp; omega
          have hlw : l = u32c (wl q 64) := by rw [← hk64, ← ht, List.take_of_length_le (by omega)]
          rw [hlw] at hW
          obtain ⟨z, hZ, hzl⟩ := hZ
          have hl' : (u32c (wl q 64)).length = 64 := by rw [u32c_length, wl_length]
          have i47 : (Tryd.prog.info? 50).map (·.size) = some (u32c (wl q 64)).toArray.size := by rw [List.size_toArray, hl']; kernel_rfl
          have hzs : z.toArray.size = (u32c (wl q 64)).toArray.size := by rw [List.size_toArray, List.size_toArray, hzl, hl']
          have h1 : (u32c (wl q 64)).toArray.all (·.oneCell') = true := u32c_one _
          have HI := Lib.hid i47
          have HZS := Lib.hid hzs
          have H1 := Lib.hid h1
          have HW : Hid (Holds wr (w.heap.size + 1 + 1) 50 (u32c (wl q 64))) := hW
          have HZ := Lib.hid hZ
          clear hlw hl ht hzl hl' i47 hzs h1 hW hZ hk64
          go_wp2_with (first | (refine wpList_load_row rfl 50 _ rfl (w.heap.size + 1 + 1) rfl 50 _ (0, 0) _ HW.out Tryd.underlying50 rfl HI.out ?_) | (refine wpList_store_row rfl 50 _ _ rfl (w.heap.size + 1) _ rfl rfl 50 _ HZ.out HI.out HZS.out H1.out ?_))
          exact bodyPost_ret (results_cell_row rfl _ _ (w.heap.size + 1) 50 _ (0, 0) _ rfl (HZ.out.row _) Tryd.underlying50 rfl HI.out) rfl ⟨rfl, below_row hb (by omega) _⟩
end Go.Proofs.YtlndjmpopoihnaaDoor
