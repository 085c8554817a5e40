/-
  running.mix: a full block worked into the eight words. Conditions: the block has 64 bytes; the tables lie as they were laid.
-/
import Derived.Test.YtlndjmpopoihnaaDoorSched
import Derived.Test.YtlndjmpopoihnaaDoorRun
import Derived.Deep.WholeRow
namespace Go.Proofs.YtlndjmpopoihnaaDoor
open Go.RowKit
attribute [local go_sem] u_xor u_and u_add u_nots
def M1 (R G : Nat) (q : List UInt8) (n : Nat) (s : S8) (w : World) (a b c d e f g h i : Value) (wr : World) : Prop :=
  ∃ k : Nat, k ≤ 64 ∧ i = .int .i64 k ∧ a = .int .u32 (u (rnds K (W q) s k).a) ∧ b = .int .u32 (u (rnds K (W q) s k).b) ∧ c = .int .u32 (u (rnds K (W q) s k).c) ∧ d = .int .u32 (u (rnds K (W q) s k).d) ∧ e = .int .u32 (u (rnds K (W q) s k).e) ∧ f = .int .u32 (u (rnds K (W q) s k).f) ∧ g = .int .u32 (u (rnds K (W q) s k).g) ∧ h = .int .u32 (u (rnds K (W q) s k).h)
    ∧ Holds wr R 47 (cellsR s q n) ∧ Holds wr G 50 (u32c (wl q 64)) ∧ Tabs wr ∧ w.grownBy wr (some R)
/-- The first so many words have been added. -/
def partR (s z : S8) (q : List UInt8) (n j : Nat) : List Value := u32c ((lst (add8 s z)).take j ++ (lst s).drop j) ++ (u8c q ++ [.int .u64 (n : Int)])
theorem partR_at (s z : S8) (q : List UInt8) (n : Nat) {j : Nat} (h : j < 8) : (partR s z q n j)[j]? = some (.int .u32 (u ((lst s).getD j 0))) := by
  match j, h with
  | 0, _ => rfl
  | 1, _ => rfl
  | 2, _ => rfl
  | 3, _ => rfl
  | 4, _ => rfl
  | 5, _ => rfl
  | 6, _ => rfl
  | 7, _ => rfl
theorem partR_set (s z : S8) (q : List UInt8) (n : Nat) {j : Nat} (h : j < 8) : (partR s z q n j).set j (.int .u32 (u ((lst s).getD j 0 + (lst z).getD j 0))) = partR s z q n (j + 1) := by
  match j, h with
  | 0, _ => rfl
  | 1, _ => rfl
  | 2, _ => rfl
  | 3, _ => rfl
  | 4, _ => rfl
  | 5, _ => rfl
  | 6, _ => rfl
  | 7, _ => rfl
theorem agg36 (w : World) : (isAgg 41).run Tryd.prog w = .ok false w := by kernel_rfl
theorem size36 (w : World) : (sizeOf 41).run Tryd.prog w = .ok 1 w := by kernel_rfl
theorem index8 (z : S8) {j : Nat} (h : j < 8) (w : World) : (Instr.index 42 (.agg #[.int .u32 (u z.a), .int .u32 (u z.b), .int .u32 (u z.c), .int .u32 (u z.d), .int .u32 (u z.e), .int .u32 (u z.f), .int .u32 (u z.g), .int .u32 (u z.h)]) (.int .i64 (j : Int))).run Tryd.prog w = .ok (.int .u32 (u ((lst z).getD j 0))) w :=
  index_agg Tryd.underlying42 agg36 size36 h (by
    have := u32c_at (l := lst z) (i := j) h
    rw [← this]
    exact List.getElem?_toArray (xs := u32c (lst z))) w
def M2 (R : Nat) (q : List UInt8) (n : Nat) (s z : S8) (w : World) (i : Value) (wr : World) : Prop :=
  ∃ j : Nat, j ≤ 8 ∧ i = .int .i64 j ∧ Holds wr R 47 (partR s z q n j) ∧ w.grownBy wr (some R)
set_option maxHeartbeats 4000000 in
set_option maxRecDepth 100000 in
theorem mix_any (R : Nat) (s : S8) (q : List UInt8) (n : Nat) (hq : q.length = 64) (w : World) (hR : Holds w R 47 (cellsR s q n)) (hT : Tabs w) :
    Calls Tryd.prog 26 #[.pointer (some ⟨R, 0, none⟩)] w fun e w' => e = .returned (.tuple #[]) ∧ Holds w' R 47 (cellsR (blk s q) q n) ∧ w.grownBy w' (some R) := by
  have i41 : (Tryd.prog.info? 36).map (·.size) = some (u8c q).length := by rw [u8c_length, hq]; kernel_rfl
  have i47 : (Tryd.prog.info? 50).map (·.size) = some (u32c (wl q 64)).toArray.size := by rw [List.size_toArray, u32c_length, wl_length]; kernel_rfl
  have HS := Lib.hid (sched_any q hq)
  have HI := Lib.hid i41
  have HZ : Hid (∀ A : Array Value, A.size = 64 → A.size = (u32c (wl q 64)).toArray.size) := fun A h => by rw [h, List.size_toArray, u32c_length, wl_length]
  have HI7 := Lib.hid i47
  have HQ := Lib.hid hq
  have HR := Lib.hid hR
  have HT := Lib.hid hT
  have HRB := Lib.hid (range_block hR)
  have hlt := hR.lt
  clear i41 i47 hq hR hT
  go_enter Tryd.func26, Tryd.ntmps26
  go_wp2_with (refine wpList_load_mid rfl 36 _ rfl R 8 rfl (u8c q) _ HRB.out Tryd.underlying36 rfl HI.out ?_)
  refine (HS.out _).mono ?_
  rintro e w1 ⟨rfl, hb⟩
  go_wp2_with (refine wpList_store_row rfl 50 _ _ rfl w1.heap.size _ rfl rfl 50 _ (heap_alloc_last _ _) HI7.out (HZ.out _ rfl) (u32c_one _) ?_)
  rw [World.setRow_alloc_new]
  have hG := Holds.fresh w1 50 (u32c (wl q 64))
  have hR := (HR.out.below hb hlt).alloc (.cells (u32c (wl q 64)).toArray 50)
  have hb' := hb.alloc hb.size (.cells (u32c (wl q 64)).toArray 50)
  have hT := HT.out.below hb' HT.out.two
  have hg := one_below (one_refl w (some R)) hb'
  clear HS HI HI7 HRB HZ HR HT hb hb' hlt
  generalize w1.alloc (.cells (u32c (wl q 64)).toArray 50) = w2 at *
  generalize w1.heap.size = G at *
  clear w1
  have c0 : w2.cell? ⟨R, 0, none⟩ = some (.int .u32 (u s.a)) := (hR.cell 0).trans (cellsR_word s q n (by omega))
  have c1 : w2.cell? ⟨R, 1, none⟩ = some (.int .u32 (u s.b)) := (hR.cell 1).trans (cellsR_word s q n (by omega))
  have c2 : w2.cell? ⟨R, 2, none⟩ = some (.int .u32 (u s.c)) := (hR.cell 2).trans (cellsR_word s q n (by omega))
  have c3 : w2.cell? ⟨R, 3, none⟩ = some (.int .u32 (u s.d)) := (hR.cell 3).trans (cellsR_word s q n (by omega))
  have c4 : w2.cell? ⟨R, 4, none⟩ = some (.int .u32 (u s.e)) := (hR.cell 4).trans (cellsR_word s q n (by omega))
  have c5 : w2.cell? ⟨R, 5, none⟩ = some (.int .u32 (u s.f)) := (hR.cell 5).trans (cellsR_word s q n (by omega))
  have c6 : w2.cell? ⟨R, 6, none⟩ = some (.int .u32 (u s.g)) := (hR.cell 6).trans (cellsR_word s q n (by omega))
  have c7 : w2.cell? ⟨R, 7, none⟩ = some (.int .u32 (u s.h)) := (hR.cell 7).trans (cellsR_word s q n (by omega))
  have HR := Lib.hid hR
  have HG := Lib.hid hG
  clear hR hG
  go_wp2
  go_quiet (fail)
  go_wp2
  clear c0 c1 c2 c3 c4 c5 c6 c7
  go_loopw [3, 4, 5, 6, 7, 8, 9, 10, 63] (M1 R G q n s w) (fun _ _ _ _ _ _ _ _ i _ => 64 - (intOf i).toNat)
  case atStart => exact ⟨0, by omega, rfl, rfl, rfl, rfl, rfl, rfl, rfl, rfl, rfl, HR.out, HG.out, hT.drewN _, one_drewN hg _⟩
  case round =>
    clear hT hg HR HG
    obtain ⟨k, hk, rfl, rfl, rfl, rfl, rfl, rfl, rfl, rfl, rfl, hR, hG, hT, hg⟩ := hrel
    by_cases hlt : k < 64
    · have ck := hT.step hlt
      have cw : wr.cell? ⟨G, k, none⟩ = some (.int .u32 (u (W q k))) := by rw [hG.cell, u32c_at (by rw [wl_length]; exact hlt), wl_at q hlt]
      have hz : (rnds K (W q) s (k + 1)) = step (rnds K (W q) s k) (K k) (W q k) := rfl
      generalize rnds K (W q) s k = z at *
      have HZ := Lib.hid hz
      have HR := Lib.hid hR
      have HG := Lib.hid hG
      clear hz hR hG
      have gk : (k : Int) < 64 := by omega
      go_wp2
      go_quiet (with_reducible exact quiet_same (turn_of _ _ (by decide) _))
      go_wp2_with (go_at_call 28; ((with_reducible refine (turn_of _ _ (by decide) _).mono ?_); rintro e w' ⟨rfl, rfl⟩))
      go_roundw
      case rel => exact ⟨k + 1, by omega, by go_num, by rw [HZ.out]; rfl, by rw [HZ.out]; rfl, by rw [HZ.out]; rfl, by rw [HZ.out]; rfl, by rw [HZ.out]; rfl, by rw [HZ.out]; rfl, by rw [HZ.out]; rfl, by rw [HZ.out]; rfl, HR.out, HG.out, hT.drewN _, one_drewN hg _⟩
      case measure => simp [intOf]; omega
    · have hk64 : k = 64 := by omega
      have hd : decide ((k : Int) < 64) = false := by simp; omega
      have hbz : blk s q = add8 s (rnds K (W q) s k) := by rw [hk64]; rfl
      generalize rnds K (W q) s k = z at *
      have HBZ := Lib.hid hbz
      have HR : Hid (M2 R q n s z w (.int .i64 0) wr) := ⟨0, by omega, rfl, hR, hg⟩
      clear hbz hk64 hR hG hT hg
      go_wp2
      go_loopw [137] (M2 R q n s z w) (fun i _ => 8 - (intOf i).toNat)
      case atStart => exact HR.out
      case round =>
        clear HR
        obtain ⟨j, hj, rfl, hR, hg⟩ := hrel
        by_cases hlt8 : j < 8
        · have hlt := hR.lt
          have cj : wr.cell? ⟨R, j, none⟩ = some (.int .u32 (u ((lst s).getD j 0))) := by rw [hR.cell]; exact partR_at s z q n hlt8
          have hf : wr.frozen? ⟨R, j, none⟩ = false := hR.soft j
          have gj : (j : Int) < 8 := by omega
          have hix := index8 z hlt8
          have hset := partR_set s z q n hlt8
          generalize (lst s).getD j 0 = x at *
          generalize (lst z).getD j 0 = y at *
          have HR := Lib.hid hR
          have HSET := Lib.hid hset
          clear hR hset
          go_wp2
          go_still_tail 11, (by kernel_rfl)
          change wpList _ _ _ _ _ wr.drew
          go_wp2
          go_roundw
          case rel => exact ⟨j + 1, by omega, by go_num, by have := HR.out.put j (.int .u32 (u (x + y))); rw [HSET.out] at this; exact this.drew, one_drewN (one_put hg (.inl rfl) _) 1⟩
          case measure => simp [intOf]; omega
        · have hj8 : j = 8 := by omega
          have hR' : Holds wr R 47 (cellsR (blk s q) q n) := by rw [HBZ.out]; subst hj8; exact hR
          have HR := Lib.hid hR'
          clear hR' hR hj8
          go_wp2
          go_end0
          exact ⟨rfl, HR.out, hg⟩
end Go.Proofs.YtlndjmpopoihnaaDoor
