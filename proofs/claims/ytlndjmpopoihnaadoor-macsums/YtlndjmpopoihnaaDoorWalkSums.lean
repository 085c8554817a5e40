/-
  MacSums walked: the HMAC of bytes, wherever they are parted. Conditions: the tables lie as they were laid.
-/
import Derived.Test.YtlndjmpopoihnaaDoorROf
import Derived.Test.YtlndjmpopoihnaaDoorAwake
import Derived.Deep.RegionHeld3
namespace Go.Proofs.YtlndjmpopoihnaaDoor
open Go.RowKit
set_option linter.unusedVariables false
set_option linter.unusedSimpArgs false
theorem Holds.range {w : World} {g : Nat} {t : TypeId} {l : List Value} (h : Holds w g t l) : w.rangeAt g 0 l := fun j v hv => by rw [Nat.zero_add]; exact (h.cell j).trans hv
theorem lies_to {W : World} {A : Option Addr} {bs : List UInt8} {cap n : Nat} (hn : n ≤ bs.length) (hc : bs.length ≤ cap) (hcm : cap ≤ 9223372036854775807) (hA : Lies W A bs) : (⟨A, bs.take n, cap⟩ : Part).lies W := by
  have l1 : (bs.take n).length = n := by rw [List.length_take]; omega
  refine ⟨by show (bs.take n).length ≤ cap; omega, hcm, fun hne => ?_⟩
  obtain ⟨b, o, e, hlt, hr⟩ := hA (fun h => hne (by show bs.take n = []; rw [h]; simp))
  refine ⟨b, o, e, hlt, fun j v hv => hr j v ?_⟩
  have hj : j < n := by have := (List.getElem?_eq_some_iff.1 hv).1; rwa [u8c_length, l1] at this
  rw [← hv, u8c_at (show j < bs.length by omega), u8c_at (show j < (bs.take n).length by rw [l1]; exact hj), List.getD_eq_getElem?_getD, List.getD_eq_getElem?_getD, List.getElem?_take_of_lt hj]
set_option maxHeartbeats 1000000 in
theorem sums_long (A : Option Addr) (n cap : Nat) (B : Option Addr) (m cap' : Nat) (x : Int) (w : World) (hT : Tabs w) (hn : 200 < n ∨ (n ≤ 200 ∧ 300 < m)) (hc : n ≤ cap) (hcm : cap ≤ 9223372036854775807) (hc' : m ≤ cap') (hcm' : cap' ≤ 9223372036854775807) :
    Calls Tryd.prog 3 #[.slice A n cap, .slice B m cap', .int .u16 x] w fun e w' => e = .returned (.bool true) ∧ Below w.heap.size w w' := by
  have HT := Lib.hid hT
  clear hT
  rcases hn with hn | ⟨hn, hm⟩
  all_goals
    first
      | have hz : (200 : Int) < n := by omega
      | (have hz : ¬ (200 : Int) < n := by omega
         have hz1 := decide_eq_false hz
         have hz2 : (300 : Int) < m := by omega)
    go_enter Tryd.func3, Tryd.ntmps3
    go_wp2_with fail
    refine (awake_any w HT.out).mono ?_
    rintro e w1 ⟨rfl, hb1⟩
    go_wp2_with fail
    refine (awake_any w1 (HT.out.below hb1 HT.out.two)).mono ?_
    rintro e w2 ⟨rfl, hb2⟩
    go_wp2
    go_ret
    exact ⟨rfl, hb1.trans (hb2.mono hb1.size)⟩
set_option maxHeartbeats 2000000 in
set_option maxRecDepth 100000 in
theorem sums_walk (A : Option Addr) (key : List UInt8) (cap : Nat) (B : Option Addr) (b : List UInt8) (cap' : Nat) (x : Int) (w : World) (hT : Tabs w) (hn : key.length ≤ 200) (hm : b.length ≤ 300)
    (hc : key.length ≤ cap) (hcm : cap ≤ 9223372036854775807) (hA0 : A = none → cap = 0) (hA : Lies w A key) (hc' : b.length ≤ cap') (hcm' : cap' ≤ 9223372036854775807) (hB0 : B = none → cap' = 0) (hB : Lies w B b) (hx0 : 0 ≤ x) (hx1 : x < 65536) :
    Calls Tryd.prog 3 #[.slice A key.length cap, .slice B b.length cap', .int .u16 x] w fun e w' => e = .returned (.bool true) ∧ Below w.heap.size w w' := by
  have HT := Lib.hid hT
  have HA : Hid (∀ W, Below w.heap.size w W → Lies W A key) := fun W hW => hA.below hW (Nat.le_refl _)
  have HB : Hid (∀ W, Below w.heap.size w W → Lies W B b) := fun W hW => hB.below hW (Nat.le_refl _)
  have HROF : Hid (∀ W, Below w.heap.size w W → Calls Tryd.prog 8 #[.slice A key.length cap, .slice B b.length cap'] W fun e w' => e = .returned (.agg (u8c (hmac key b)).toArray) ∧ Below W.heap.size W w') := fun W hW =>
    rof_any A key cap B b cap' W (hA.below hW (Nat.le_refl _)) hc hcm hA0 (by omega) (hB.below hW (Nat.le_refl _)) hc' hcm' hB0 (by omega)
  clear hT hA hB hA0 hB0
  obtain ⟨D, hD⟩ : ∃ D, hmac key b = D := ⟨_, rfl⟩
  rw [hD] at HROF
  have HDL : Hid (D.length = 32) := by unfold Hid; rw [← hD]; rfl
  have HD := Lib.hid hD
  obtain ⟨n, hN⟩ : ∃ n, key.length = n := ⟨_, rfl⟩
  obtain ⟨m, hM⟩ : ∃ m, b.length = m := ⟨_, rfl⟩
  have HN := Lib.hid hN
  have HM := Lib.hid hM
  rw [hN] at hn hc HROF ⊢
  rw [hM] at hm hc' HROF ⊢
  clear hN hM hD
  have hz : ¬ (200 : Int) < n := by omega
  have hz1 := decide_eq_false hz
  have hy : ¬ (300 : Int) < m := by omega
  have hy1 := decide_eq_false hy
  obtain ⟨k, hk1⟩ : ∃ k : Nat, x % ((m : Int) + 1) = (k : Int) := ⟨(x % ((m : Int) + 1)).toNat, by have := Int.emod_nonneg x (show (m : Int) + 1 ≠ 0 by omega); omega⟩
  have hkm : k ≤ m := by have := Int.emod_lt_of_pos x (show (0 : Int) < (m : Int) + 1 by omega); omega
  have hkt : x.tmod ((m : Int) + 1) = (k : Int) := by rw [Int.tmod_eq_emod_of_nonneg hx0]; exact hk1
  have HI32 := Lib.hid (info32 HDL.out)
  have HZ32 := Lib.hid (size_of HDL.out)
  go_enter Tryd.func3, Tryd.ntmps3
  go_wp2_with fail
  refine (awake_any w HT.out).mono ?_
  rintro e w1 ⟨rfl, hb1⟩
  go_wp2_with fail
  refine (HROF.out w1 hb1).mono ?_
  rintro e w5 ⟨rfl, hb5⟩
  have HK5 : Hid (Kept [] w w5) := ⟨hb1.trans (hb5.mono hb1.size), fun x hx => by cases hx⟩
  clear hb1 hb5 HROF
  go_upto_region 5 with (refine store_row_as rfl 25 (.tmp 8) (.tmp 30) rfl w5.heap.size _ rfl rfl 25 _ (heap_alloc_last _ _) HI32.out (HZ32.out _ rfl) (u8c_one _) (Kept [(w5.heap.size, 25, u8c D)] w) (HK5.out.set _ _ _) ?_; intro w6 hK6)
  generalize w5.heap.size = G at *
  clear HK5 HI32 HZ32 hk1 hkt hx0 hx1
  dsimp only [Act.put]
  have sl1 := slice_to (A := B) (len := m) (cap := cap') (m := k) hkm hc'
  have sl3 := slice_from (A := B) (len := m) (cap := cap') (m := k) hkm
  have HOF1 : Hid (∀ (W : World) (g : Nat), Kept [(G, 25, u8c D)] w W → Holds W g 22 [.slice B m cap'] → Calls Tryd.prog 9 #[.slice A n cap, .slice (some ⟨g, 0, none⟩) 1 1] W fun e w' => e = .returned (.agg (u8c D).toArray) ∧ Below W.heap.size W w') := fun W g hW hg => by
    have h := mac_any A key cap (some ⟨g, 0, none⟩) [⟨B, b, cap'⟩] 1 W (HA.out W hW.bl) (by rw [HN.out]; exact hc) hcm (by rw [HN.out]; omega) (fun h => by cases h) (fun _ => ⟨g, 0, rfl, hg.lt, fun j v hv => by
      rw [Nat.zero_add, hg.cell, ← hv]
      simp only [List.map_cons, List.map_nil, Part.val, HM.out]⟩) (fun p hp => by
      obtain rfl := List.mem_singleton.1 hp
      exact ⟨by show b.length ≤ cap'; rw [HM.out]; exact hc', hcm', HB.out W hW.bl⟩) (by simp) (by simp [allOf, HM.out]; omega) (HT.out.below hW.bl HT.out.two)
    have hall : allOf [⟨B, b, cap'⟩] = b := by simp [allOf]
    rw [hall, HD.out, HN.out] at h
    exact h
  have HOF2 : Hid (∀ (W : World) (g : Nat), Kept [(G, 25, u8c D)] w W → Holds W g 22 [.slice B k cap', .slice (if cap' = k then B else B.map (·.add k)) (m - k) (cap' - k)] → Calls Tryd.prog 9 #[.slice A n cap, .slice (some ⟨g, 0, none⟩) 2 2] W fun e w' => e = .returned (.agg (u8c D).toArray) ∧ Below W.heap.size W w') := fun W g hW hg => by
    have l1 : (b.take k).length = k := by rw [List.length_take, HM.out]; omega
    have l2 : ((b.drop k).take (m - k)).length = m - k := by rw [List.length_take, List.length_drop, HM.out]; omega
    have hall : allOf [⟨B, b.take k, cap'⟩, ⟨if cap' = k then B else B.map (·.add k), (b.drop k).take (m - k), cap' - k⟩] = b := by
      simp only [allOf, List.flatMap_cons, List.flatMap_nil, List.append_nil]
      rw [List.take_of_length_le (l := b.drop k) (by rw [List.length_drop, HM.out]; omega), List.take_append_drop]
    have h := mac_any A key cap (some ⟨g, 0, none⟩) [⟨B, b.take k, cap'⟩, ⟨if cap' = k then B else B.map (·.add k), (b.drop k).take (m - k), cap' - k⟩] 2 W (HA.out W hW.bl) (by rw [HN.out]; exact hc) hcm (by rw [HN.out]; omega) (fun h => by cases h) (fun _ => ⟨g, 0, rfl, hg.lt, fun j v hv => by
      rw [Nat.zero_add, hg.cell, ← hv]
      simp only [List.map_cons, List.map_nil, Part.val, l1, l2]⟩) (fun p hp => by
      simp only [List.mem_cons, List.not_mem_nil, or_false] at hp
      rcases hp with rfl | rfl
      · exact lies_to (by rw [HM.out]; exact hkm) (by rw [HM.out]; exact hc') hcm' (HB.out W hW.bl)
      · exact lies_cut (by rw [HM.out]; omega) (by rw [HM.out]; exact hc') hcm' (HB.out W hW.bl)) (by simp) (by rw [hall, HM.out]; omega) (HT.out.below hW.bl HT.out.two)
    rw [hall, HD.out, HN.out] at h
    exact h
  have hq := same_sum D HDL.out
  have hgd := eqGuard25
  have hi25 : (Tryd.prog.info? 25).map (·.size) = some (u8c D).length := by rw [u8c_length, HDL.out]; kernel_rfl
  clear HA HB HT HN HM HD HDL
  generalize (if cap' = k then B else B.map (·.add k)) = B3 at *
  refine wp_region_noPanic ?_
  refine wp_region_held_drew (S := Kept [(G, 25, u8c D)] w) (by kernel_rfl) hK6.drew (fun hS1 => ?_)
  obtain ⟨wd, hwd⟩ : ∃ wd, w6.drew = wd := ⟨_, rfl⟩
  rw [hwd] at hS1 ⊢
  clear hwd hK6
  refine wpAnyH_take (i := 0) (oi := { dst := some 31, op := Go.Op.move (Go.Operand.tmp 0), type := 22, pos := "law.go:23", after := #[], guard := none }) (v := .slice A n cap) rfl (by kernel_rfl) (by kernel_rfl) (by kernel_rfl) (fun _ _ _ h => h) (Or.inl ⟨by kernel_rfl, ?_⟩) hS1 ?_
  · intro w hSw; go_simp
  try simp only [Act.put, List.setIfInBounds_toArray, List.set_cons_zero, List.set_cons_succ]
  refine wpAnyH_take (i := 1) (oi := { dst := some 32, op := Go.Op.move (Go.Operand.tmp 1), type := 22, pos := "law.go:23", after := #[], guard := none }) (v := .slice B m cap') rfl (by kernel_rfl) (by kernel_rfl) (by kernel_rfl) (fun _ _ _ h => h) (Or.inl ⟨by kernel_rfl, ?_⟩) hS1 ?_
  · intro w hSw; go_simp
  try simp only [Act.put, List.setIfInBounds_toArray, List.set_cons_zero, List.set_cons_succ]
  refine wpAnyH_take (i := 4) (oi := { dst := some 35, op := Go.Op.load 25 (Go.Operand.tmp 8), type := 25, pos := "law.go:23", after := #[], guard := none }) (v := .agg (u8c D).toArray) rfl (by kernel_rfl) (by kernel_rfl) (by kernel_rfl) (fun _ _ _ h => h) ?_ hS1 ?_
  · exact yieldsIf_load_mid (by kernel_rfl) 25 (.tmp 8) rfl G 0 (by kernel_rfl) (u8c D) _ (fun w h => (h.got (.head _)).range) Tryd.underlying25 rfl hi25
  try simp only [Act.put, List.setIfInBounds_toArray, List.set_cons_zero, List.set_cons_succ]
  refine wpAnyH_ready (rs := [2]) (by kernel_rfl) (by simp) ?_
  refine AllReadyH.cons (o := { dst := some 33, op := Go.Op.buildSlice 35 1 #[(0, Go.Operand.tmp 32)], type := 35, pos := "law.go:23", after := #[{ on := 1, ground := Go.Ground.data }], guard := none }) rfl (fun K hK => ?_) AllReadyH.nil
  go_simp
  have hSn := hS1.new 22 [.slice B m cap']
  have hSm : Kept [(G, 25, u8c D)] w (wd.alloc (.cells ([.slice B m cap'] : List Value).toArray 22)) := ⟨hSn.bl, fun x hx => hSn.hs x (.tail _ hx)⟩
  have hH1 : Holds (wd.alloc (.cells ([.slice B m cap'] : List Value).toArray 22)) wd.heap.size 22 [.slice B m cap'] := Holds.fresh wd _ _
  refine hK.out _ _ hSm (fun _ => ?_)
  clear hK K
  try simp only [Act.put, List.setIfInBounds_toArray, List.set_cons_zero, List.set_cons_succ]
  clear hSn
  generalize wd.alloc (.cells ([.slice B m cap'] : List Value).toArray 22) = wa at *
  generalize wd.heap.size = p1 at *
  replace hS1 := hSm
  refine wpAnyH_ready (rs := [3]) (by kernel_rfl) (by simp) ?_
  refine AllReadyH.cons (o := { dst := some 34, op := Go.Op.call { callee := Go.Callee.value (Go.Operand.func 9), args := #[Go.Operand.tmp 31, Go.Operand.tmp 33], argTypes := #[22, 35] }, type := 25, pos := "law.go:23", after := #[{ on := 0, ground := Go.Ground.data }, { on := 2, ground := Go.Ground.data }], guard := none }) rfl (fun K hK => ?_) AllReadyH.nil
  go_simp
  (with_reducible refine (HOF1.out _ _ hS1 hH1).mono ?_)
  rintro e wb ⟨rfl, hbc⟩
  replace hS1 := hS1.below hbc (Nat.le_refl _)
  dsimp only
  refine hK.out _ _ hS1 (fun _ => ?_)
  clear hK K
  try simp only [Act.put, List.setIfInBounds_toArray, List.set_cons_zero, List.set_cons_succ]
  clear hbc
  refine wpAnyH_take (i := 5) (oi := { dst := some 36, op := Go.Op.binOp Go.BinOp.eql 25 (Go.Operand.tmp 34) (Go.Operand.tmp 35) 25, type := 4, pos := "law.go:23", after := #[{ on := 3, ground := Go.Ground.data }, { on := 4, ground := Go.Ground.data }], guard := none }) (v := .bool true) rfl (by kernel_rfl) (by kernel_rfl) (by kernel_rfl) (fun _ _ _ h => h) (Or.inl ⟨by kernel_rfl, ?_⟩) hS1 ?_
  · intro w hSw; go_simp
  try simp only [Act.put, List.setIfInBounds_toArray, List.set_cons_zero, List.set_cons_succ]
  refine wpAnyH_take (i := 6) (oi := { dst := some 37, op := Go.Op.move (Go.Operand.tmp 36), type := 4, pos := "law.go:23", after := #[{ on := 5, ground := Go.Ground.data }, { on := 3, ground := Go.Ground.chain }], guard := none }) (v := .bool true) rfl (by kernel_rfl) (by kernel_rfl) (by kernel_rfl) (fun _ _ _ h => h) (Or.inl ⟨by kernel_rfl, ?_⟩) hS1 ?_
  · intro w hSw; go_simp
  try simp only [Act.put, List.setIfInBounds_toArray, List.set_cons_zero, List.set_cons_succ]
  refine wpAnyH_take (i := 7) (oi := { dst := some 38, op := Go.Op.move (Go.Operand.tmp 0), type := 22, pos := "law.go:23", after := #[{ on := 6, ground := Go.Ground.guard }], guard := some (6, true) }) (v := .slice A n cap) rfl (by kernel_rfl) (by kernel_rfl) (by kernel_rfl) (fun _ _ _ h => h) (Or.inl ⟨by kernel_rfl, ?_⟩) hS1 ?_
  · intro w hSw; go_simp
  try simp only [Act.put, List.setIfInBounds_toArray, List.set_cons_zero, List.set_cons_succ]
  refine wpAnyH_take (i := 8) (oi := { dst := some 39, op := Go.Op.move (Go.Operand.tmp 1), type := 22, pos := "law.go:23", after := #[{ on := 6, ground := Go.Ground.guard }], guard := some (6, true) }) (v := .slice B m cap') rfl (by kernel_rfl) (by kernel_rfl) (by kernel_rfl) (fun _ _ _ h => h) (Or.inl ⟨by kernel_rfl, ?_⟩) hS1 ?_
  · intro w hSw; go_simp
  try simp only [Act.put, List.setIfInBounds_toArray, List.set_cons_zero, List.set_cons_succ]
  refine wpAnyH_take (i := 9) (oi := { dst := some 40, op := Go.Op.move (Go.Operand.tmp 7), type := 3, pos := "law.go:23", after := #[{ on := 6, ground := Go.Ground.guard }], guard := some (6, true) }) (v := .int .i64 (k : Int)) rfl (by kernel_rfl) (by kernel_rfl) (by kernel_rfl) (fun _ _ _ h => h) (Or.inl ⟨by kernel_rfl, ?_⟩) hS1 ?_
  · intro w hSw; go_simp
  try simp only [Act.put, List.setIfInBounds_toArray, List.set_cons_zero, List.set_cons_succ]
  refine wpAnyH_take (i := 10) (oi := { dst := some 41, op := Go.Op.slice 22 (Go.Operand.tmp 39) none (some (Go.Operand.tmp 40)) none, type := 22, pos := "law.go:23", after := #[{ on := 8, ground := Go.Ground.data }, { on := 9, ground := Go.Ground.data }, { on := 6, ground := Go.Ground.guard }], guard := some (6, true) }) (v := .slice B k cap') rfl (by kernel_rfl) (by kernel_rfl) (by kernel_rfl) (fun _ _ _ h => h) (Or.inl ⟨by kernel_rfl, ?_⟩) hS1 ?_
  · intro w hSw; go_simp
  try simp only [Act.put, List.setIfInBounds_toArray, List.set_cons_zero, List.set_cons_succ]
  refine wpAnyH_take (i := 11) (oi := { dst := some 42, op := Go.Op.move (Go.Operand.tmp 1), type := 22, pos := "law.go:23", after := #[{ on := 6, ground := Go.Ground.guard }], guard := some (6, true) }) (v := .slice B m cap') rfl (by kernel_rfl) (by kernel_rfl) (by kernel_rfl) (fun _ _ _ h => h) (Or.inl ⟨by kernel_rfl, ?_⟩) hS1 ?_
  · intro w hSw; go_simp
  try simp only [Act.put, List.setIfInBounds_toArray, List.set_cons_zero, List.set_cons_succ]
  refine wpAnyH_take (i := 12) (oi := { dst := some 43, op := Go.Op.move (Go.Operand.tmp 7), type := 3, pos := "law.go:23", after := #[{ on := 6, ground := Go.Ground.guard }], guard := some (6, true) }) (v := .int .i64 (k : Int)) rfl (by kernel_rfl) (by kernel_rfl) (by kernel_rfl) (fun _ _ _ h => h) (Or.inl ⟨by kernel_rfl, ?_⟩) hS1 ?_
  · intro w hSw; go_simp
  try simp only [Act.put, List.setIfInBounds_toArray, List.set_cons_zero, List.set_cons_succ]
  refine wpAnyH_take (i := 13) (oi := { dst := some 44, op := Go.Op.slice 22 (Go.Operand.tmp 42) (some (Go.Operand.tmp 43)) none none, type := 22, pos := "law.go:23", after := #[{ on := 11, ground := Go.Ground.data }, { on := 12, ground := Go.Ground.data }, { on := 6, ground := Go.Ground.guard }], guard := some (6, true) }) (v := .slice B3 (m - k) (cap' - k)) rfl (by kernel_rfl) (by kernel_rfl) (by kernel_rfl) (fun _ _ _ h => h) (Or.inl ⟨by kernel_rfl, ?_⟩) hS1 ?_
  · intro w hSw; go_simp
  try simp only [Act.put, List.setIfInBounds_toArray, List.set_cons_zero, List.set_cons_succ]
  refine wpAnyH_take (i := 16) (oi := { dst := some 47, op := Go.Op.load 25 (Go.Operand.tmp 8), type := 25, pos := "law.go:23", after := #[{ on := 6, ground := Go.Ground.guard }], guard := some (6, true) }) (v := .agg (u8c D).toArray) rfl (by kernel_rfl) (by kernel_rfl) (by kernel_rfl) (fun _ _ _ h => h) ?_ hS1 ?_
  · exact yieldsIf_load_mid (by kernel_rfl) 25 (.tmp 8) rfl G 0 (by kernel_rfl) (u8c D) _ (fun w h => (h.got (.head _)).range) Tryd.underlying25 rfl hi25
  try simp only [Act.put, List.setIfInBounds_toArray, List.set_cons_zero, List.set_cons_succ]
  refine wpAnyH_ready (rs := [14]) (by kernel_rfl) (by simp) ?_
  refine AllReadyH.cons (o := { dst := some 45, op := Go.Op.buildSlice 35 2 #[(0, Go.Operand.tmp 41), (1, Go.Operand.tmp 44)], type := 35, pos := "law.go:23", after := #[{ on := 10, ground := Go.Ground.data }, { on := 13, ground := Go.Ground.data }, { on := 6, ground := Go.Ground.guard }], guard := some (6, true) }) rfl (fun K hK => ?_) AllReadyH.nil
  go_simp
  have hSn := hS1.new 22 [.slice B k cap', .slice B3 (m - k) (cap' - k)]
  have hSm : Kept [(G, 25, u8c D)] w (wb.alloc (.cells ([.slice B k cap', .slice B3 (m - k) (cap' - k)] : List Value).toArray 22)) := ⟨hSn.bl, fun x hx => hSn.hs x (.tail _ hx)⟩
  have hH2 : Holds (wb.alloc (.cells ([.slice B k cap', .slice B3 (m - k) (cap' - k)] : List Value).toArray 22)) wb.heap.size 22 [.slice B k cap', .slice B3 (m - k) (cap' - k)] := Holds.fresh wb _ _
  refine hK.out _ _ hSm (fun _ => ?_)
  clear hK K
  try simp only [Act.put, List.setIfInBounds_toArray, List.set_cons_zero, List.set_cons_succ]
  clear hSn
  generalize wb.alloc (.cells ([.slice B k cap', .slice B3 (m - k) (cap' - k)] : List Value).toArray 22) = wc at *
  generalize wb.heap.size = p2 at *
  replace hS1 := hSm
  refine wpAnyH_ready (rs := [15]) (by kernel_rfl) (by simp) ?_
  refine AllReadyH.cons (o := { dst := some 46, op := Go.Op.call { callee := Go.Callee.value (Go.Operand.func 9), args := #[Go.Operand.tmp 38, Go.Operand.tmp 45], argTypes := #[22, 35] }, type := 25, pos := "law.go:23", after := #[{ on := 7, ground := Go.Ground.data }, { on := 14, ground := Go.Ground.data }, { on := 6, ground := Go.Ground.chain }, { on := 6, ground := Go.Ground.guard }], guard := some (6, true) }) rfl (fun K hK => ?_) AllReadyH.nil
  go_simp
  (with_reducible refine (HOF2.out _ _ hS1 hH2).mono ?_)
  rintro e we ⟨rfl, hbc⟩
  replace hS1 := hS1.below hbc (Nat.le_refl _)
  dsimp only
  refine hK.out _ _ hS1 (fun _ => ?_)
  clear hK K
  try simp only [Act.put, List.setIfInBounds_toArray, List.set_cons_zero, List.set_cons_succ]
  clear hbc
  refine wpAnyH_take (i := 17) (oi := { dst := some 48, op := Go.Op.binOp Go.BinOp.eql 25 (Go.Operand.tmp 46) (Go.Operand.tmp 47) 25, type := 4, pos := "law.go:23", after := #[{ on := 15, ground := Go.Ground.data }, { on := 16, ground := Go.Ground.data }, { on := 6, ground := Go.Ground.guard }], guard := some (6, true) }) (v := .bool true) rfl (by kernel_rfl) (by kernel_rfl) (by kernel_rfl) (fun _ _ _ h => h) (Or.inl ⟨by kernel_rfl, ?_⟩) hS1 ?_
  · intro w hSw; go_simp
  try simp only [Act.put, List.setIfInBounds_toArray, List.set_cons_zero, List.set_cons_succ]
  refine wpAnyH_take (i := 18) (oi := { dst := some 49, op := Go.Op.pick (Go.Operand.tmp 37) (Go.Operand.tmp 48) (Go.Operand.const (Go.Value.bool false)), type := 4, pos := "law.go:23", after := #[{ on := 6, ground := Go.Ground.data }, { on := 17, ground := Go.Ground.data }], guard := none }) (v := .bool true) rfl (by kernel_rfl) (by kernel_rfl) (by kernel_rfl) (fun _ _ _ h => h) (Or.inl ⟨by kernel_rfl, ?_⟩) hS1 ?_
  · intro w hSw; go_simp
  try simp only [Act.put, List.setIfInBounds_toArray, List.set_cons_zero, List.set_cons_succ]
  refine wpAnyH_take (i := 19) (oi := { dst := some 6, op := Go.Op.assign (Go.Operand.tmp 49), type := 4, pos := "law.go:23", after := #[{ on := 18, ground := Go.Ground.data }, { on := 15, ground := Go.Ground.chain }, { on := 0, ground := Go.Ground.phase }, { on := 1, ground := Go.Ground.phase }, { on := 2, ground := Go.Ground.phase }, { on := 3, ground := Go.Ground.phase }, { on := 4, ground := Go.Ground.phase }, { on := 5, ground := Go.Ground.phase }, { on := 6, ground := Go.Ground.phase }, { on := 7, ground := Go.Ground.phase }, { on := 8, ground := Go.Ground.phase }, { on := 9, ground := Go.Ground.phase }, { on := 10, ground := Go.Ground.phase }, { on := 11, ground := Go.Ground.phase }, { on := 12, ground := Go.Ground.phase }, { on := 13, ground := Go.Ground.phase }, { on := 14, ground := Go.Ground.phase }, { on := 15, ground := Go.Ground.phase }, { on := 16, ground := Go.Ground.phase }, { on := 17, ground := Go.Ground.phase }, { on := 18, ground := Go.Ground.phase }], guard := none }) (v := .bool true) rfl (by kernel_rfl) (by kernel_rfl) (by kernel_rfl) (fun _ _ _ h => h) (Or.inl ⟨by kernel_rfl, ?_⟩) hS1 ?_
  · intro w hSw; go_simp
  try simp only [Act.put, List.setIfInBounds_toArray, List.set_cons_zero, List.set_cons_succ]
  refine wpAnyH_done (by kernel_rfl) ?_ _
  refine NoPanic.normal ?_
  go_wp2
  go_ret
  exact ⟨rfl, hS1.bl⟩
theorem sums_any (A : Option Addr) (key : List UInt8) (cap : Nat) (B : Option Addr) (b : List UInt8) (cap' : Nat) (x : Int) (w : World) (hT : Tabs w)
    (hc : key.length ≤ cap) (hcm : cap ≤ 9223372036854775807) (hA0 : A = none → cap = 0) (hA : Lies w A key) (hc' : b.length ≤ cap') (hcm' : cap' ≤ 9223372036854775807) (hB0 : B = none → cap' = 0) (hB : Lies w B b) (hx : (Lit.int .u16 x).wf = true) :
    Calls Tryd.prog 3 #[.slice A key.length cap, .slice B b.length cap', .int .u16 x] w fun e w' => e = .returned (.bool true) ∧ Below w.heap.size w w' := by
  simp [Lit.wf, IntKind.min, IntKind.max, IntKind.signed, IntKind.bits] at hx
  by_cases hn : 200 < key.length ∨ (key.length ≤ 200 ∧ 300 < b.length)
  · exact sums_long A key.length cap B b.length cap' x w hT hn hc hcm hc' hcm'
  · exact sums_walk A key cap B b cap' x w hT (by omega) (by omega) hc hcm hA0 hA hc' hcm' hB0 hB (by omega) (by omega)
end Go.Proofs.YtlndjmpopoihnaaDoor

