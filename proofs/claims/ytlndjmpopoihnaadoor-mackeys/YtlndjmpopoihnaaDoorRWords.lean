/-
  The document's own words of a block. Conditions: the block has 64 bytes.
-/
import Derived.Test.YtlndjmpopoihnaaDoorRTurn
import Derived.Test.YtlndjmpopoihnaaDoorRBits
import Derived.Test.YtlndjmpopoihnaaDoorRun
import Derived.WalkKit
import Derived.Deep.QuietTactic
import Derived.BigQuiet
import Derived.StillTailTactics
import Derived.WalkLawsBesides
import Derived.Lib.Hide
namespace Go.Proofs.YtlndjmpopoihnaaDoor
open Go.RowKit
theorem still_same {P : Program} {f : FuncId} {args : Array Value} {w : World} {v : Value}
    (h : Calls P f args w fun e w' => e = .returned v ∧ w = w') : Calls P f args w fun e w'' => e = .returned v ∧ w'' = w := h.mono fun _ _ ⟨he, hm⟩ => ⟨he, hm.symm⟩
def RW (q : List UInt8) (b o : Nat) (w : World) (i : Value) (wr : World) : Prop :=
  ∃ (k : Nat) (l : List Value), k ≤ 64 ∧ i = .int .i64 k ∧ wr.rangeAt b o (u8c q) ∧ (∃ z, Holds wr w.heap.size 50 z ∧ z.length = 64) ∧ Holds wr (w.heap.size + 1) 50 l ∧ l.length = 64 ∧ l.take k = u32c (wl q k) ∧ Below w.heap.size w wr
attribute [local go_sem] u_or u_xor u_add u_of_v8
set_option maxHeartbeats 4000000 in
set_option maxRecDepth 100000 in
theorem rwords_any (q : List UInt8) (hq : q.length = 64) (b o c : Nat) (w : World) (hb : b < w.heap.size) (hr : w.rangeAt b o (u8c q)) :
    Calls Tryd.prog 23 #[.slice (some ⟨b, o, none⟩) 64 c] w fun e w' => e = .returned (.agg (u32c (wl q 64)).toArray) ∧ Below w.heap.size w w' := by
  have HQ := Lib.hid hq
  have HR : Hid (∀ z : List Value, z.length = 64 → RW q b o w (.int .i64 0) ((w.alloc (.cells z.toArray 50)).alloc (.cells z.toArray 50))) := by
    intro z hz
    have hbb := ((Below.refl w.heap.size w).alloc (Nat.le_refl _) (.cells z.toArray 50)).alloc (by simp) (.cells z.toArray 50)
    exact ⟨0, z, by omega, rfl, range_keep hr (hbb.block b hb), ⟨z, (Holds.fresh w _ _).alloc _, hz⟩, heap_alloc2_new _ _ _, hz, by simp [wl, u32c], hbb⟩
  clear hq hr
  go_enter Tryd.func23, Tryd.ntmps23
  go_wp2
  go_loopw [7] (RW q b o w) (fun i _ => 64 - (intOf i).toNat)
  case atStart => exact HR.out (List.replicate 64 (.int .u32 0)) rfl
  case round =>
    clear HR
    obtain ⟨k, l, hk, rfl, hra, hZ, hW, hl, ht, hbw⟩ := hrel
    by_cases hlt : k < 64
    · obtain ⟨z, hz⟩ : ∃ z, wr.cell? ⟨w.heap.size + 1, k, none⟩ = some z := ⟨l[k], by rw [hW.cell, List.getElem?_eq_getElem]⟩
      have hf : wr.frozen? ⟨w.heap.size + 1, k, none⟩ = false := hW.soft k
      have gk : (k : Int) < 64 := by omega
      by_cases h16 : k < 16
      · have cc : ∀ j, j < 64 → wr.cell? ⟨b, o + j, none⟩ = some (.int .u8 (v8 (q.getD j 0))) := fun j hj => hra j _ (u8c_at (by rw [HQ.out]; exact hj))
        have c0 := cc (4 * k) (by omega)
        have c1 := cc (4 * k + 1) (by omega)
        have c2 := cc (4 * k + 2) (by omega)
        have c3 := cc (4 * k + 3) (by omega)
        have hw : word q k = (q.getD (4 * k) 0).toUInt32 <<< 24 + (q.getD (4 * k + 1) 0).toUInt32 <<< 16 + (q.getD (4 * k + 2) 0).toUInt32 <<< 8 + (q.getD (4 * k + 3) 0).toUInt32 := (word_sum _ _ _ _).symm
        generalize q.getD (4 * k) 0 = b0 at *
        generalize q.getD (4 * k + 1) 0 = b1 at *
        generalize q.getD (4 * k + 2) 0 = b2 at *
        generalize q.getD (4 * k + 3) 0 = b3 at *
        have HX := Lib.hid hw
        have HT := Lib.hid ht
        have HL := Lib.hid hl
        have HZ := Lib.hid hZ
        have HW := Lib.hid hW
        have HRA := Lib.hid hra
        clear cc hw ht hl hZ hW hra
        have s24 : ∀ x, IntKind.u32.wrap (u x * (16777216 : Int)) = u (x <<< 24) := fun x => u_shl x 24 (by decide)
        have s16 : ∀ x, IntKind.u32.wrap (u x * (65536 : Int)) = u (x <<< 16) := fun x => u_shl x 16 (by decide)
        have s8 : ∀ x, IntKind.u32.wrap (u x * (256 : Int)) = u (x <<< 8) := fun x => u_shl x 8 (by decide)
        have a0 : IntKind.i64.wrap (4 * (k : Int)) = 4 * (k : Int) := IntWalk.i64_in _ (by omega)
        have a1 : IntKind.i64.wrap (4 * (k : Int) + 1) = 4 * (k : Int) + 1 := IntWalk.i64_in _ (by omega)
        have a2 : IntKind.i64.wrap (4 * (k : Int) + 2) = 4 * (k : Int) + 2 := IntWalk.i64_in _ (by omega)
        have a3 : IntKind.i64.wrap (4 * (k : Int) + 3) = 4 * (k : Int) + 3 := IntWalk.i64_in _ (by omega)
        have n0 : (4 * (k : Int)).toNat = 4 * k := by omega
        have n1 : (4 * (k : Int) + 1).toNat = 4 * k + 1 := by omega
        have n2 : (4 * (k : Int) + 2).toNat = 4 * k + 2 := by omega
        have n3 : (4 * (k : Int) + 3).toNat = 4 * k + 3 := by omega
        have g0 : 0 ≤ 4 * (k : Int) ∧ 4 * (k : Int) < 64 := by omega
        have g1 : 0 ≤ 4 * (k : Int) + 1 ∧ 4 * (k : Int) + 1 < 64 := by omega
        have g2 : 0 ≤ 4 * (k : Int) + 2 ∧ 4 * (k : Int) + 2 < 64 := by omega
        have g3 : 0 ≤ 4 * (k : Int) + 3 ∧ 4 * (k : Int) + 3 < 64 := by omega
        go_wp2
        go_still_tail 35, (by kernel_rfl)
        change wpList _ _ _ _ _ wr.drew
        clear a0 a1 a2 a3 n0 n1 n2 n3 g0 g1 g2 g3 s24 s16 s8
        go_wp2
        go_roundw
        case rel =>
          refine ⟨k + 1, l.set k _, by omega, by go_num, range_keep HRA.out (Below.heap_setCell _ _ _ _ (by simp <;> omega)), ?_, (HW.out.put k _).drew, by rw [List.length_set]; exact HL.out, ?_, ?_⟩
          · obtain ⟨z, hz, hzl⟩ := HZ.out
            exact ⟨z, (hz.far (by simp) _).drew, hzl⟩
          · rw [take_set _ _ _ (by rw [HL.out]; omega), HT.out, wl_succ, u32c_append, W_word q h16, HX.out]; rfl
          · exact (hbw.setCell (by simp) _).drew
        case measure => simp [intOf]; omega
      · have cc : ∀ j, j < k → wr.cell? ⟨w.heap.size + 1, j, none⟩ = some (.int .u32 (u (W q j))) := fun j hj => by
          have e : l[j]? = (l.take k)[j]? := by rw [List.getElem?_take_of_lt hj]
          rw [hW.cell, e, ht, u32c_at (by rw [wl_length]; exact hj), wl_at q hj]
        have c15 := cc (k - 15) (by omega)
        have c2 := cc (k - 2) (by omega)
        have c7 := cc (k - 7) (by omega)
        have c16 := cc (k - 16) (by omega)
        have hX := W_next q (n := k) (by omega)
        generalize W q (k - 15) = x15 at *
        generalize W q (k - 2) = x2 at *
        generalize W q (k - 7) = x7 at *
        generalize W q (k - 16) = x16 at *
        have HX := Lib.hid hX
        have HT := Lib.hid ht
        have HL := Lib.hid hl
        have HZ := Lib.hid hZ
        have HW := Lib.hid hW
        have HRA := Lib.hid hra
        clear cc hX ht hl hZ hW hra
        have d16 : decide ((k : Int) < 16) = false := by simp; omega
        have s3 : ∀ x, u x / (8 : Int) = u (x >>> 3) := fun x => u_shr x 3 (by decide)
        have s10 : ∀ x, u x / (1024 : Int) = u (x >>> 10) := fun x => u_shr x 10 (by decide)
        have a15 : IntKind.i64.wrap ((k : Int) - 15) = (k : Int) - 15 := IntWalk.i64_in _ (by omega)
        have a2 : IntKind.i64.wrap ((k : Int) - 2) = (k : Int) - 2 := IntWalk.i64_in _ (by omega)
        have a7 : IntKind.i64.wrap ((k : Int) - 7) = (k : Int) - 7 := IntWalk.i64_in _ (by omega)
        have a16 : IntKind.i64.wrap ((k : Int) - 16) = (k : Int) - 16 := IntWalk.i64_in _ (by omega)
        have n15 : ((k : Int) - 15).toNat = k - 15 := by omega
        have n2 : ((k : Int) - 2).toNat = k - 2 := by omega
        have n7 : ((k : Int) - 7).toNat = k - 7 := by omega
        have n16 : ((k : Int) - 16).toNat = k - 16 := by omega
        have g15 : 0 ≤ (k : Int) - 15 ∧ (k : Int) - 15 < 64 := by omega
        have g2 : 0 ≤ (k : Int) - 2 ∧ (k : Int) - 2 < 64 := by omega
        have g7 : 0 ≤ (k : Int) - 7 ∧ (k : Int) - 7 < 64 := by omega
        have g16 : 0 ≤ (k : Int) - 16 ∧ (k : Int) - 16 < 64 := by omega
        go_wp2
        go_quiet (fail)
        have d7 : (wr.drewN nq).cell? ⟨w.heap.size + 1, k - 7, none⟩ = some (.int .u32 (u x7)) := c7
        have d16' : (wr.drewN nq).cell? ⟨w.heap.size + 1, k - 16, none⟩ = some (.int .u32 (u x16)) := c16
        have dz : (wr.drewN nq).cell? ⟨w.heap.size + 1, k, none⟩ = some z := hz
        have df : (wr.drewN nq).frozen? ⟨w.heap.size + 1, k, none⟩ = false := hf
        have HW' := Lib.hid (HW.out.drewN nq)
        have HB' := Lib.hid (below_drewN hbw nq)
        have HRA' : Hid ((wr.drewN nq).rangeAt b o (u8c q)) := HRA.out
        have HZ' : Hid (∃ z, Holds (wr.drewN nq) w.heap.size 50 z ∧ z.length = 64) := HZ.out
        have p7 : (7 : Int) ≤ (k : Int) := by omega
        have q7 : 7 ≤ k := by omega
        have r7 : (k : Int) < 71 := by omega
        have t7 : k < 71 := by omega
        have p16 : (16 : Int) ≤ (k : Int) := by omega
        have q16 : 16 ≤ k := by omega
        have r16 : (k : Int) < 80 := by omega
        have t16 : k < 80 := by omega
        clear c15 c2 c7 c16 hz hf HW HZ HRA hbw a15 a2 n15 n2 g15 g2
        go_wp2
        generalize wr.drewN nq = wq at *
        refine wp_region_still_tail 29 (by kernel_rfl) (by kernel_rfl) ?_
        simp only [List.take_succ_cons, List.take_zero, List.drop_succ_cons, List.drop_zero]
        repeat (first | still_step | still_call (still_same (rturn_of _ _ (by decide) _)))
        refine wpStill_nil ?_
        change wpList _ _ _ _ _ wq.drew
        clear a7 a16 n7 n16 g7 g16 p7 q7 r7 t7 p16 q16 r16 t16 s3 s10
        go_wp2
        go_roundw
        case rel =>
          refine ⟨k + 1, l.set k _, by omega, by go_num, range_keep HRA'.out (Below.heap_setCell _ _ _ _ (by simp <;> omega)), ?_, (HW'.out.put k _).drew, by rw [List.length_set]; exact HL.out, ?_, ?_⟩
          · obtain ⟨z, hz, hzl⟩ := HZ'.out
            exact ⟨z, (hz.far (by simp) _).drew, hzl⟩
          · rw [take_set _ _ _ (by rw [HL.out]; omega), HT.out, wl_succ, u32c_append, HX.out]; rfl
          · exact (HB'.out.setCell (by simp) _).drew
        case measure => simp [intOf]; omega
    · have hk64 : k = 64 := by omega
      have hd : decide ((k : Int) < 64) = false := by simp; omega
      have hlw : l = u32c (wl q 64) := by rw [← hk64, ← ht, List.take_of_length_le (by omega)]
      rw [hlw] at hW
      obtain ⟨z, hZ, hzl⟩ := hZ
      have hl' : (u32c (wl q 64)).length = 64 := by rw [u32c_length, wl_length]
      have i47 : (Tryd.prog.info? 50).map (·.size) = some (u32c (wl q 64)).toArray.size := by rw [List.size_toArray, hl']; kernel_rfl
      have hzs : z.toArray.size = (u32c (wl q 64)).toArray.size := by rw [List.size_toArray, List.size_toArray, hzl, hl']
      have HI := Lib.hid i47
      have HZS := Lib.hid hzs
      have H1 := Lib.hid (u32c_one (wl q 64))
      have HW := Lib.hid hW
      have HZ := Lib.hid hZ
      clear hlw hl ht hzl hl' i47 hzs hW hZ hk64 hra
      go_wp2_with (first | (refine wpList_load_row rfl 50 _ rfl (w.heap.size + 1) rfl 50 _ (0, 0) _ HW.out Tryd.underlying50 rfl HI.out ?_) | (refine wpList_store_row rfl 50 _ _ rfl w.heap.size _ rfl rfl 50 _ HZ.out HI.out HZS.out H1.out ?_))
      exact bodyPost_ret (results_cell_row rfl _ _ w.heap.size 50 _ (0, 0) _ rfl (HZ.out.row _) Tryd.underlying50 rfl HI.out) rfl ⟨rfl, below_row hbw (Nat.le_refl _) _⟩
end Go.Proofs.YtlndjmpopoihnaaDoor
