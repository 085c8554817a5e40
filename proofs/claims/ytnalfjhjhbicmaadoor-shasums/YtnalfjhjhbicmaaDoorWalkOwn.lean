/-
  ShaOwn walked: what is summed stays as it is, its spare room too. Conditions: the tables lie as they were laid.
-/
import Derived.Test.YtnalfjhjhbicmaaDoorAwake
import Derived.Laws.CopyOwn
import Derived.Laws.MakeOwn
import Derived.Deep.QuietTactic
import Derived.BigQuiet
namespace Go.Proofs.YtnalfjhjhbicmaaDoor
open Go.RowKit
set_option linter.unusedVariables false
theorem byteInfo : (Tryd.prog.info? 5).map (fun i => (i.zero, i.size, i.bytes)) = some (some (.int .u8 0), 1, 1) := by kernel_rfl
theorem make_bytes {n c : Nat} (hn : n ≤ c) (hc : c ≤ 100000) (w : World) : (Instr.makeSlice 22 (.int .i64 (n : Int)) (.int .i64 (c : Int))).run Tryd.prog w = .ok (.slice (some ⟨w.heap.size, 0, none⟩) n c) (w.alloc (.cells (List.replicate c (.int .u8 0)).toArray 5)) := by
  obtain ⟨i0, hi, hz0, hz1, hz2⟩ := info_parts byteInfo
  have hr := run_make (P := Tryd.prog) w 22 5 i0 (.int .u8 0) Tryd.underlying22 hi hz0 .i64 .i64 (n : Int) (c : Int) (by omega) (by omega) (by rw [hz2]; omega) (by omega)
  simp only [Int.toNat_natCast] at hr
  rw [hr, hz1, Nat.mul_one]
  congr 2
  congr 1
  apply Array.ext
  · simp [size_madeCells]
  · intro i h1 h2
    simp [madeCells, Value.cells]
    rw [Nat.mod_one]; rfl
set_option maxHeartbeats 1000000 in
theorem own_long (A : Option Addr) (n cap : Nat) (x : Int) (w : World) (hT : Tabs w) (hn : 300 < n) (hc : n ≤ cap) (hcm : cap ≤ 9223372036854775807) :
    Calls Tryd.prog 5 #[.slice A n cap, .int .u8 x] w fun e w' => e = .returned (.bool true) ∧ Below w.heap.size w w' := by
  have HT := Lib.hid hT
  clear hT
  have hz : (300 : Int) < n := by omega
  go_enter Tryd.func5, Tryd.ntmps5
  go_wp2_with fail
  refine (awake_any w HT.out).mono ?_
  rintro e w1 ⟨rfl, hb1⟩
  go_wp2_with fail
  refine (awake_any w1 (HT.out.below hb1 HT.out.two)).mono ?_
  rintro e w2 ⟨rfl, hb2⟩
  go_wp2
  go_ret
  exact ⟨rfl, hb1.trans (hb2.mono hb1.size)⟩
theorem copy_new {A : Option Addr} {bs : List UInt8} {cap : Nat} (w : World) (Z : List Value) {n r : Nat} (hn : bs.length = n) (hZ : Z.length = n + r)
    (hA : bs ≠ [] → ∃ b o, A = some ⟨b, o, none⟩ ∧ (w.alloc (.cells Z.toArray 5)).rangeAt b o (u8c bs)) :
    (Builtin.copy_ #[22, 22] 3 #[.slice (some ⟨w.heap.size, 0, none⟩) n (n + r), .slice A n cap]).run Tryd.prog (w.alloc (.cells Z.toArray 5)) = .ok (.int .i64 (n : Int)) (w.alloc (.cells (u8c bs ++ Z.drop n).toArray 5)) := by
  by_cases hb : bs = []
  · subst hb
    obtain rfl : n = 0 := by simpa using hn.symm
    have := run_copy_none (P := Tryd.prog) (w.alloc (.cells Z.toArray 5)) 22 22 3 5 (some ⟨w.heap.size, 0, none⟩) A 0 (0 + r) 0 cap Tryd.underlying22 (by kernel_rfl) rfl
    rw [this]; rfl
  · obtain ⟨b, o, rfl, hr⟩ := hA hb
    have := run_copy_row (P := Tryd.prog) (w.alloc (.cells Z.toArray 5)) 22 22 3 5 w.heap.size 0 n (n + r) ⟨b, o, none⟩ n cap Z.toArray 5 (u8c bs) Tryd.underlying22 (by kernel_rfl) (heap_alloc_last _ _)
      (by rw [u8c_length, hn]; exact (Nat.min_self n).symm) (fun j v hv => by rw [Addr_add_none]; exact hr j v hv) (by rw [u8c_length, hn, List.size_toArray, hZ]; omega) (fun v hv => by simp [u8c] at hv; obtain ⟨z, _, rfl⟩ := hv; rfl)
    rw [this, World.setRow_alloc_new, u8c_length, hn]
    simp [goInt]
def LW (G n r : Nat) (bs : List UInt8) (Y : List Value) (A : Option Addr) (w : World) (i : Value) (wr : World) : Prop :=
  ∃ k : Nat, k ≤ n + r ∧ i = .int .i64 k ∧ Holds wr G 5 Y ∧ (bs ≠ [] → ∃ b o, A = some ⟨b, o, none⟩ ∧ wr.rangeAt b o (u8c bs)) ∧ Below w.heap.size w wr
set_option maxHeartbeats 2000000 in
set_option maxRecDepth 100000 in
theorem own_walk (A : Option Addr) (bs : List UInt8) (cap : Nat) (x : Int) (w : World) (hT : Tabs w) (hn : bs.length ≤ 300) (hc : bs.length ≤ cap) (hcm : cap ≤ 9223372036854775807)
    (hA : bs ≠ [] → ∃ b o, A = some ⟨b, o, none⟩ ∧ b < w.heap.size ∧ w.rangeAt b o (u8c bs)) (h0 : 0 ≤ x) (h1 : x < 256) :
    Calls Tryd.prog 5 #[.slice A bs.length cap, .int .u8 x] w fun e w' => e = .returned (.bool true) ∧ Below w.heap.size w w' := by
  have HT := Lib.hid hT
  have HA := Lib.hid hA
  clear hT hA
  obtain ⟨n, hN⟩ : ∃ n, bs.length = n := ⟨_, rfl⟩
  rw [hN] at hn hc ⊢
  have HN := Lib.hid hN
  clear hN
  obtain ⟨r, rfl⟩ : ∃ r : Nat, x = (r : Int) := ⟨x.toNat, by omega⟩
  have hz : ¬ (300 : Int) < n := by omega
  have hzd : decide ((300 : Int) < n) = false := by simp; omega
  have hmk := fun W => make_bytes (n := n) (c := n + r) (by omega) (by omega) W
  rw [Int.natCast_add] at hmk
  obtain ⟨Z, hZ⟩ : ∃ Z, List.replicate (n + r) (Value.int .u8 0) = Z := ⟨_, rfl⟩
  rw [hZ] at hmk
  have hZl : Z.length = n + r := by rw [← hZ, List.length_replicate]
  have HZ := Lib.hid hZ
  have HZL := Lib.hid hZl
  clear hZ hZl
  go_enter Tryd.func5, Tryd.ntmps5
  go_wp2_with fail
  refine (awake_any w HT.out).mono ?_
  rintro e w1 ⟨rfl, hb1⟩
  have hB1 := hb1.alloc hb1.size (.cells Z.toArray 5)
  have hcp := copy_new (A := A) (bs := bs) (cap := cap) w1 Z (r := r) (n := n) HN.out HZL.out (fun hne => by
    obtain ⟨b, o, e, hlt, hr⟩ := HA.out hne
    exact ⟨b, o, e, range_keep hr (hB1.block b hlt)⟩)
  obtain ⟨Y, hY⟩ : ∃ Y, u8c bs ++ Z.drop n = Y := ⟨_, rfl⟩
  rw [hY] at hcp
  have hYl : Y.length = n + r := by rw [← hY, List.length_append, u8c_length, List.length_drop, HN.out, HZL.out]; omega
  have HYL := Lib.hid hYl
  have HY := Lib.hid hY
  clear hY hYl hB1
  have hY2 := Holds.fresh w1 5 Y
  have hB2 := hb1.alloc hb1.size (.cells Y.toArray 5)
  have hpl : (⟨some ⟨w1.heap.size, 0, none⟩, bs, n + r⟩ : Part).lies (w1.alloc (.cells Y.toArray 5)) := ⟨by show bs.length ≤ n + r; rw [HN.out]; omega, by show n + r ≤ _; omega, fun _ => ⟨_, _, rfl, hY2.lt, fun j v hv => by
    rw [Nat.zero_add, hY2.cell, ← HY.out, List.getElem?_append_left (List.getElem?_eq_some_iff.1 hv).1]; exact hv⟩⟩
  have hsum := sum_of [⟨some ⟨w1.heap.size, 0, none⟩, bs, n + r⟩, ⟨some ⟨w1.heap.size, 0, none⟩, bs, n + r⟩] (w1.heap.size + 1) (w1.alloc (.cells Y.toArray 5)) (by simp) (fun p hp => by
    simp at hp; subst hp; exact hpl) (show 2 ≤ 1000000000 by decide) (by simp [allOf, HN.out]; omega) (HT.out.below hB2 HT.out.two)
  simp only [List.map_cons, List.map_nil, Part.val, HN.out, List.length_cons, List.length_nil] at hsum
  generalize (u8c (sha (allOf _))).toArray = D at hsum
  have HSUM := Lib.hid hsum
  have HY2 := Lib.hid hY2
  have HB2 := Lib.hid hB2
  clear hpl hsum hY2 hB2
  go_wp2_with fail
  refine HSUM.out.mono ?_
  rintro e w3 ⟨rfl, hb3⟩
  have hY3 := HY2.out.below hb3 (by simp)
  have hb4 := HB2.out.trans (hb3.mono HB2.out.size)
  clear hb3 HSUM HY2 HB2 hcp hmk
  have HY3 := Lib.hid hY3
  clear hY3
  generalize w1.heap.size = G at *
  have HLW : Hid (LW G n r bs Y A w (.int .i64 0) w3) := ⟨0, by omega, rfl, HY3.out, fun hne => by
    obtain ⟨b, o, e, hlt, hr⟩ := HA.out hne
    exact ⟨b, o, e, range_keep hr (hb4.block b hlt)⟩, hb4⟩
  go_wp2
  go_loopw [37] (LW G n r bs Y A w) (fun i _ => n + r - (intOf i).toNat)
  case atStart => exact HLW.out
  case round =>
    clear HLW HY3 HA hb4
    obtain ⟨k, hk, rfl, hG, hA, hb⟩ := hrel
    have HHG := Lib.hid hG
    have HHA := Lib.hid hA
    clear hG hA
    by_cases hlt : k < n + r
    · by_cases hkn : k < n
      · obtain ⟨b, o, rfl, hr⟩ := HHA.out (fun h => by have := HN.out; rw [h] at this; simp at this; omega)
        have hat := u8c_at (l := bs) (i := k) (by rw [HN.out]; exact hkn)
        have c1 : wr.cell? ⟨G, k, none⟩ = some (.int .u8 (v8 (bs.getD k 0))) := by
          rw [HHG.out.cell, ← HY.out, List.getElem?_append_left (by rw [u8c_length, HN.out]; exact hkn)]; exact hat
        have c2 : wr.cell? ⟨b, o + k, none⟩ = some (.int .u8 (v8 (bs.getD k 0))) := hr k _ hat
        generalize v8 (bs.getD k 0) = x at *
        have hxx : (x != x) = false := by simp
        have t1 : (k : Int) < (n : Int) := by omega
        have t2 : (k : Int) < (n : Int) + (r : Int) := by omega
        have t3 : decide ((n : Int) ≤ (k : Int)) = false := by simp; omega
        have t4 : decide (n ≤ k) = false := by simp; omega
        clear hat hr
        go_wp2_with fail
        go_quiet (fail)
        go_wp2
        go_roundw
        case rel => exact ⟨k + 1, by omega, by go_num, HHG.out, HHA.out, below_drewN hb _⟩
        case measure => simp [intOf]; omega
      · have c1 : wr.cell? ⟨G, k, none⟩ = some (.int .u8 0) := by
          rw [HHG.out.cell, ← HY.out, List.getElem?_append_right (by rw [u8c_length, HN.out]; omega), u8c_length, HN.out, List.getElem?_drop, ← HZ.out, List.getElem?_replicate, if_pos (by omega)]
        have t1 : decide ((k : Int) < (n : Int)) = false := by simp; omega
        have t5 : decide (k < n) = false := by simp; omega
        have t2 : (k : Int) < (n : Int) + (r : Int) := by omega
        have t3 : (n : Int) ≤ (k : Int) := by omega
        have t4 : n ≤ k := by omega
        go_wp2_with fail
        go_quiet (fail)
        go_wp2
        go_roundw
        case rel => exact ⟨k + 1, by omega, by go_num, HHG.out, HHA.out, below_drewN hb _⟩
        case measure => simp [intOf]; omega
    · go_wp2
      go_ret
      exact ⟨rfl, hb⟩
theorem own_any (A : Option Addr) (bs : List UInt8) (cap : Nat) (x : Int) (w : World) (hT : Tabs w) (hc : bs.length ≤ cap) (hcm : cap ≤ 9223372036854775807)
    (hA : bs ≠ [] → ∃ b o, A = some ⟨b, o, none⟩ ∧ b < w.heap.size ∧ w.rangeAt b o (u8c bs)) (hx : (Lit.int .u8 x).wf = true) :
    Calls Tryd.prog 5 #[.slice A bs.length cap, .int .u8 x] w fun e w' => e = .returned (.bool true) ∧ Below w.heap.size w w' := by
  simp [Lit.wf, IntKind.min, IntKind.max, IntKind.signed, IntKind.bits] at hx
  by_cases hn : 300 < bs.length
  · exact own_long A bs.length cap x w hT hn hc hcm
  · exact own_walk A bs cap x w hT (by omega) hc hcm hA (by omega) (by omega)
end Go.Proofs.YtnalfjhjhbicmaaDoor
