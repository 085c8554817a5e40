/-
  ShaSums walked: the sum of bytes, wherever they are parted. Conditions: the tables lie as they were laid.
-/
import Derived.Test.YtnalfjhjhbicmaaDoorRSum
import Derived.Test.YtnalfjhjhbicmaaDoorRHex
import Derived.Test.YtnalfjhjhbicmaaDoorREq
import Derived.Test.YtnalfjhjhbicmaaDoorAwake
import Derived.Deep.RegionHeld3
namespace Go.Proofs.YtnalfjhjhbicmaaDoor
open Go.RowKit
set_option linter.unusedVariables false
set_option linter.unusedSimpArgs false
theorem keepA {G : Nat} {l : List Value} {w6 W : World} (O : Obj) (h : W.rangeAt G 0 l ∧ Below w6.heap.size w6 W) (hG : G < w6.heap.size) : (W.alloc O).rangeAt G 0 l ∧ Below w6.heap.size w6 (W.alloc O) :=
  ⟨range_keep h.1 (Below.heap_alloc _ _ _ (Nat.lt_of_lt_of_le hG h.2.size)), h.2.alloc h.2.size O⟩
theorem keepD {G : Nat} {l : List Value} {w6 W : World} (h : W.rangeAt G 0 l ∧ Below w6.heap.size w6 W) : W.drew.rangeAt G 0 l ∧ Below w6.heap.size w6 W.drew := ⟨h.1, h.2.drew⟩
theorem keepC {G : Nat} {l : List Value} {w6 W W' : World} (h : W.rangeAt G 0 l ∧ Below w6.heap.size w6 W) (hb : Below W.heap.size W W') (hG : G < w6.heap.size) : W'.rangeAt G 0 l ∧ Below w6.heap.size w6 W' :=
  ⟨range_keep h.1 (hb.block G (Nat.lt_of_lt_of_le hG h.2.size)), h.2.trans (hb.mono h.2.size)⟩
/-- Slices of a slice. -/
theorem slice_to {A : Option Addr} {len cap m : Nat} (hm : m ≤ len) (hc : len ≤ cap) (W : World) : (Instr.slice 22 (.slice A len cap) none (some (.int .i64 (m : Int))) none).run Tryd.prog W = .ok (.slice A m cap) W := by
  have hs : ∀ w, (sizeOf 5).run Tryd.prog w = .ok 1 w := fun w => by kernel_rfl
  have h1 : (m : Int) ≤ (cap : Int) := by omega
  have h2 : m ≤ cap := by omega
  have hA : A.map (·.add 0) = A := by cases A <;> simp [Addr.add]
  simp [Instr.slice, run_underlying Tryd.underlying22, Instr.sliceBounds, Instr.sliceBound, asIntOf, hs, h2, hA]
theorem slice_in {A : Option Addr} {len cap n m : Nat} (hn : n ≤ m) (hm : m ≤ len) (hc : len ≤ cap) (W : World) : (Instr.slice 22 (.slice A len cap) (some (.int .i64 (n : Int))) (some (.int .i64 (m : Int))) none).run Tryd.prog W = .ok (.slice (if cap = n then A else A.map (·.add n)) (m - n) (cap - n)) W := by
  have hs : ∀ w, (sizeOf 5).run Tryd.prog w = .ok 1 w := fun w => by kernel_rfl
  have h2 : m ≤ cap := by omega
  simp [Instr.slice, run_underlying Tryd.underlying22, Instr.sliceBounds, Instr.sliceBound, asIntOf, hs, h2, hn]
theorem lies_cut {W : World} {A : Option Addr} {bs : List UInt8} {cap n k : Nat} (hk : n + k ≤ bs.length) (hc : bs.length ≤ cap) (hcm : cap ≤ 9223372036854775807)
    (hA : bs ≠ [] → ∃ b o, A = some ⟨b, o, none⟩ ∧ b < W.heap.size ∧ W.rangeAt b o (u8c bs)) : (⟨if cap = n then A else A.map (·.add n), (bs.drop n).take k, cap - n⟩ : Part).lies W := by
  have hl : ((bs.drop n).take k).length = k := by rw [List.length_take, List.length_drop]; omega
  refine ⟨by show ((bs.drop n).take k).length ≤ cap - n; rw [hl]; omega, by show cap - n ≤ _; omega, fun hne => ?_⟩
  have hk0 : 0 < k := by rw [← hl]; exact List.length_pos_iff.2 hne
  obtain ⟨b, o, e, hlt, hr⟩ := hA (fun h => by rw [h] at hk; simp at hk; omega)
  refine ⟨b, o + n, ?_, hlt, fun j v hv => ?_⟩
  · show (if cap = n then A else A.map (·.add n)) = _
    rw [if_neg (by omega), e]; simp [Addr_add_none]
  · have hj : j < k := by have := (List.getElem?_eq_some_iff.1 hv).1; rwa [u8c_length, hl] at this
    rw [Nat.add_assoc]
    refine hr (n + j) v ?_
    rw [← hv, u8c_at (by omega), u8c_at (by rw [hl]; exact hj), List.getD_eq_getElem?_getD, List.getD_eq_getElem?_getD, List.getElem?_take_of_lt hj, List.getElem?_drop]
set_option maxHeartbeats 1000000 in
theorem sums_long (A : Option Addr) (n cap : Nat) (x y : Int) (w : World) (hT : Tabs w) (hn : 600 < n) (hc : n ≤ cap) (hcm : cap ≤ 9223372036854775807) :
    Calls Tryd.prog 3 #[.slice A n cap, .int .u16 x, .int .u16 y] w fun e w' => e = .returned (.bool true) ∧ Below w.heap.size w w' := by
  have HT := Lib.hid hT
  clear hT
  have hz : (600 : Int) < n := by omega
  go_enter Tryd.func3, Tryd.ntmps3
  go_wp2_with fail
  refine (awake_any w HT.out).mono ?_
  rintro e w1 ⟨rfl, hb1⟩
  go_wp2_with fail
  refine (awake_any w1 (HT.out.below hb1 HT.out.two)).mono ?_
  rintro e w2 ⟨rfl, hb2⟩
  go_wp2
  go_ret
  exact ⟨rfl, hb1.trans (hb2.mono hb1.size)⟩
structure R6 (G : Nat) (D : List UInt8) (w wr : World) : Prop where
  hd : Holds wr G 25 (u8c D)
  bl : Below w.heap.size w wr
  wg : w.heap.size ≤ G
set_option maxHeartbeats 2000000 in
theorem sums_walk (A : Option Addr) (bs : List UInt8) (cap : Nat) (x y : Int) (w : World) (hT : Tabs w) (hn : bs.length ≤ 600) (hc : bs.length ≤ cap) (hcm : cap ≤ 9223372036854775807) (hA0 : A = none → cap = 0)
    (hA : bs ≠ [] → ∃ b o, A = some ⟨b, o, none⟩ ∧ b < w.heap.size ∧ w.rangeAt b o (u8c bs)) (hx0 : 0 ≤ x) (hx1 : x < 65536) (hy0 : 0 ≤ y) (hy1 : y < 65536) :
    Calls Tryd.prog 3 #[.slice A bs.length cap, .int .u16 x, .int .u16 y] w fun e w' => e = .returned (.bool true) ∧ Below w.heap.size w w' := by
  have HT := Lib.hid hT
  have HA := Lib.hid hA
  have HA0 := Lib.hid hA0
  clear hT hA hA0
  obtain ⟨N, hN⟩ : ∃ N, bs.length = N := ⟨_, rfl⟩
  rw [hN] at hn hc ⊢
  have HN := Lib.hid hN
  obtain ⟨n, hn1⟩ : ∃ n : Nat, x % ((N : Int) + 1) = (n : Int) := ⟨(x % ((N : Int) + 1)).toNat, by have := Int.emod_nonneg x (show (N : Int) + 1 ≠ 0 by omega); omega⟩
  have hnN : n ≤ N := by have := Int.emod_lt_of_pos x (show (0 : Int) < (N : Int) + 1 by omega); omega
  obtain ⟨k, hk1⟩ : ∃ k : Nat, y % ((N : Int) - (n : Int) + 1) = (k : Int) := ⟨(y % ((N : Int) - (n : Int) + 1)).toNat, by have := Int.emod_nonneg y (show (N : Int) - (n : Int) + 1 ≠ 0 by omega); omega⟩
  have hkN : n + k ≤ N := by have := Int.emod_lt_of_pos y (show (0 : Int) < (N : Int) - (n : Int) + 1 by omega); omega
  have hz : ¬ (600 : Int) < N := by omega
  have hzd : decide ((600 : Int) < N) = false := by simp; omega
  clear hN
  go_enter Tryd.func3, Tryd.ntmps3
  go_wp2_with fail
  refine (awake_any w HT.out).mono ?_
  rintro e w1 ⟨rfl, hb1⟩
  have HRS := Lib.hid (rsum_any A bs cap w1 (by rw [HN.out]; exact hc) hcm HA0.out (by rw [HN.out]; omega) (fun hne => by
    obtain ⟨b, o, e, hlt, hr⟩ := HA.out hne
    exact ⟨b, o, e, Nat.lt_of_lt_of_le hlt hb1.size, range_keep hr (hb1.block b hlt)⟩))
  rw [HN.out] at HRS
  go_wp2_with fail
  refine HRS.out.mono ?_
  rintro e w5 ⟨rfl, hb5⟩
  have hb5' := hb1.trans (hb5.mono hb1.size)
  have HI25 : Hid ((Tryd.prog.info? 25).map (·.size) = some (u8c (sha bs)).toArray.size) := by unfold Hid; rw [List.size_toArray, u8c_length, sha_length]; kernel_rfl
  have HZ25 : Hid (∀ E : Array Value, E.size = 32 → E.size = (u8c (sha bs)).toArray.size) := fun E h => by rw [h, List.size_toArray, u8c_length, sha_length]
  have HSS : Hid (∀ E : Array Value, R6 w5.heap.size (sha bs) w ((w5.alloc (.cells E 25)).setRow w5.heap.size (u8c (sha bs)).toArray)) := fun E => by
    rw [World.setRow_alloc_new]
    exact ⟨Holds.fresh w5 _ _, hb5'.alloc hb5'.size _, hb5'.size⟩
  clear hb1 hb5 hb5' HRS
  go_upto_region 6 with (refine store_row_as rfl 25 (.tmp 9) (.tmp 35) rfl w5.heap.size _ rfl rfl 25 _ (heap_alloc_last _ _) HI25.out (HZ25.out _ rfl) (u8c_one _) (R6 w5.heap.size (sha bs) w) (HSS.out _) ?_; intro w6 hR6)
  clear HSS HI25 HZ25
  generalize w5.heap.size = G at *
  clear w5
  dsimp only [Act.put]
  obtain ⟨M, hM⟩ : ∃ M : Nat, (n : Int) + (k : Int) = (M : Int) := ⟨n + k, by omega⟩
  rw [hM]
  have hnM : n ≤ M := by omega
  have hMN : M ≤ N := by omega
  have hMk : M = n + k := by omega
  have hG6 := hR6.hd.lt
  have hR0 : w6.rangeAt G 0 (u8c (sha bs)) := fun j v hv => by rw [Nat.zero_add, hR6.hd.cell]; exact hv
  have sl1 := slice_to (A := A) (len := N) (cap := cap) (m := n) hnN hc
  have sl2 := slice_in (A := A) (len := N) (cap := cap) (n := n) (m := M) hnM hMN hc
  have sl3 := slice_from (A := A) (len := N) (cap := cap) (m := M) hMN
  have hHA : ∀ W : World, Below w6.heap.size w6 W → bs ≠ [] → ∃ b o, A = some ⟨b, o, none⟩ ∧ b < W.heap.size ∧ W.rangeAt b o (u8c bs) := fun W hW hne => by
    obtain ⟨b, o, e, hlt, hr⟩ := HA.out hne
    have h1 := hR6.bl.trans (hW.mono hR6.bl.size)
    exact ⟨b, o, e, Nat.lt_of_lt_of_le hlt h1.size, range_keep hr (h1.block b hlt)⟩
  have hHT : ∀ W : World, Below w6.heap.size w6 W → Tabs W := fun W hW => HT.out.below (hR6.bl.trans (hW.mono hR6.bl.size)) HT.out.two
  have hL := HN.out
  have HC1 : Hid (∀ W : World, Below w6.heap.size w6 W → Calls Tryd.prog 9 #[.slice (some ⟨W.heap.size, 0, none⟩) 1 1] (W.alloc (.cells #[.slice A N cap] 22)) fun e w' => e = .returned (.agg (u8c (sha bs)).toArray) ∧ Below W.heap.size W w') := fun W hW => by
    have h := sum_of [⟨A, bs, cap⟩] W.heap.size W rfl (fun p hp => by obtain rfl := List.mem_singleton.1 hp; exact ⟨by show bs.length ≤ cap; omega, hcm, hHA W hW⟩) (show 1 ≤ 1000000000 by decide) (by simp [allOf]; omega) (hHT W hW)
    have hall : allOf [⟨A, bs, cap⟩] = bs := by simp [allOf]
    rw [hall] at h
    simp only [List.map_cons, List.map_nil, Part.val, List.length_cons, List.length_nil, hL] at h
    exact h
  have HC2 : Hid (∀ W : World, Below w6.heap.size w6 W → Calls Tryd.prog 9 #[.slice (some ⟨W.heap.size, 0, none⟩) 4 4] (W.alloc (.cells #[.slice A n cap, .slice (if cap = n then A else A.map (·.add n)) (M - n) (cap - n), .slice none 0 0, .slice (if cap = M then A else A.map (·.add M)) (N - M) (cap - M)] 22)) fun e w' => e = .returned (.agg (u8c (sha bs)).toArray) ∧ Below W.heap.size W w') := fun W hW => by
    have hb := hHA W hW
    have l1 : (bs.take n).length = n := by rw [List.length_take]; omega
    have l2 : ((bs.drop n).take (M - n)).length = M - n := by rw [List.length_take, List.length_drop]; omega
    have l3 : ((bs.drop M).take (N - M)).length = N - M := by rw [List.length_take, List.length_drop]; omega
    have p1 : (⟨A, bs.take n, cap⟩ : Part).lies W := ⟨by show (bs.take n).length ≤ cap; omega, hcm, fun hne => by
      obtain ⟨b, o, e, hlt, hr⟩ := hb (fun h => hne (by rw [h]; simp))
      refine ⟨b, o, e, hlt, fun j v hv => hr j v ?_⟩
      have hj : j < n := by have := (List.getElem?_eq_some_iff.1 hv).1; rwa [u8c_length, l1] at this
      rw [← hv, u8c_at (show j < bs.length by omega), u8c_at (show j < (bs.take n).length by rw [l1]; exact hj), List.getD_eq_getElem?_getD, List.getD_eq_getElem?_getD, List.getElem?_take_of_lt hj]⟩
    have p2 := lies_cut (W := W) (A := A) (bs := bs) (cap := cap) (n := n) (k := M - n) (by omega) (by omega) hcm hb
    have p3 : (⟨none, [], 0⟩ : Part).lies W := ⟨Nat.le_refl _, show 0 ≤ 9223372036854775807 by decide, fun h => absurd rfl h⟩
    have p4 := lies_cut (W := W) (A := A) (bs := bs) (cap := cap) (n := M) (k := N - M) (by omega) (by omega) hcm hb
    have hall : allOf [⟨A, bs.take n, cap⟩, ⟨if cap = n then A else A.map (·.add n), (bs.drop n).take (M - n), cap - n⟩, ⟨none, [], 0⟩, ⟨if cap = M then A else A.map (·.add M), (bs.drop M).take (N - M), cap - M⟩] = bs := by
      simp only [allOf, List.flatMap_cons, List.flatMap_nil, List.append_nil, List.nil_append]
      rw [List.take_of_length_le (l := bs.drop M) (by rw [List.length_drop]; omega)]
      have e : bs.drop M = (bs.drop n).drop (M - n) := by rw [List.drop_drop]; exact congrArg (fun i => bs.drop i) (show M = n + (M - n) by omega)
      rw [e, List.take_append_drop, List.take_append_drop]
    have h := sum_of [⟨A, bs.take n, cap⟩, ⟨if cap = n then A else A.map (·.add n), (bs.drop n).take (M - n), cap - n⟩, ⟨none, [], 0⟩, ⟨if cap = M then A else A.map (·.add M), (bs.drop M).take (N - M), cap - M⟩] W.heap.size W rfl (fun p hp => by
      simp only [List.mem_cons, List.not_mem_nil, or_false] at hp
      rcases hp with rfl | rfl | rfl | rfl
      · exact p1
      · exact p2
      · exact p3
      · exact p4) (show 4 ≤ 1000000000 by decide) (by rw [hall]; omega) (hHT W hW)
    rw [hall] at h
    simp only [List.map_cons, List.map_nil, Part.val, List.length_cons, List.length_nil, l1, l2, l3] at h
    exact h
  have hD := sha_length bs
  have hbl6 := hR6.bl
  clear hHA hHT hL HA HT HA0 HN hR6 hn1 hk1 hM hMk
  generalize sha bs = D at *
  generalize (if cap = n then A else A.map (·.add n)) = A2 at *
  generalize (if cap = M then A else A.map (·.add M)) = A3 at *
  have hq := same_sum D hD
  have hgd := eqGuard25
  have HHX : Hid (∀ W, Calls Tryd.prog 10 #[.agg (u8c D).toArray] W fun e w' => e = .returned (.string ⟨(hexB D).toArray⟩) ∧ Below W.heap.size W w') := fun W => hex_any D hD W
  have HRX : Hid (∀ W : World, G < W.heap.size → W.rangeAt G 0 (u8c D) → Calls Tryd.prog 11 #[.slice (some ⟨G, 0, none⟩) 32 32] W fun e w' => e = .returned (.string ⟨(hexB D).toArray⟩) ∧ Below W.heap.size W w') := fun W h1 h2 => rhex_any D hD G W h1 h2
  generalize (⟨(hexB D).toArray⟩ : ByteArray) = SX at *
  have hi25 : (Tryd.prog.info? 25).map (·.size) = some (u8c D).length := by rw [u8c_length, hD]; kernel_rfl
  have hu25 := Tryd.underlying25
  have hsx : (SX.toList == SX.toList) = true := by simp
  have hS0 : w6.rangeAt G 0 (u8c D) ∧ Below w6.heap.size w6 w6 := ⟨hR0, Below.refl _ _⟩
  have HC1d : Hid (Calls Tryd.prog 9 #[.slice (some ⟨w6.heap.size, 0, none⟩) 1 1] (w6.alloc (.cells #[.slice A N cap] 22)).drew fun e w' => e = .returned (.agg (u8c D).toArray) ∧ Below w6.heap.size w6 w') := (HC1.out w6.drew (keepD hS0).2).mono fun e w' ⟨h1, h2⟩ => ⟨h1, ⟨h2.os, h2.tape, h2.output, h2.size, h2.block⟩⟩
  clear hD hR0 HC1
  refine wp_region_noPanic ?_
  refine wp_region_held_drew (S := fun w' => w'.rangeAt G 0 (u8c D) ∧ Below w6.heap.size w6 w') (by kernel_rfl) (keepD hS0) (fun hS1 => ?_)
  refine wpAnyH_take (i := 0) (oi := { dst := some 36, op := Go.Op.move (Go.Operand.tmp 0), type := 22, pos := "law.go:22", after := #[], guard := none }) (v := .slice A N cap) rfl (by kernel_rfl) (by kernel_rfl) (by kernel_rfl) (fun _ _ _ h => h) (Or.inl ⟨by kernel_rfl, ?_⟩) hS1 ?_
  · intro w hSw; go_simp
  try simp only [Act.put, List.setIfInBounds_toArray, List.set_cons_zero, List.set_cons_succ]
  refine wpAnyH_take (i := 3) (oi := { dst := some 39, op := Go.Op.load 25 (Go.Operand.tmp 9), type := 25, pos := "law.go:22", after := #[], guard := none }) (v := .agg (u8c D).toArray) rfl (by kernel_rfl) (by kernel_rfl) (by kernel_rfl) (fun _ _ _ h => h) ?_ hS1 ?_
  · exact yieldsIf_load_mid (by kernel_rfl) 25 (.tmp 9) rfl G 0 (by kernel_rfl) (u8c D) _ (fun w h => h.1) Tryd.underlying25 rfl hi25
  try simp only [Act.put, List.setIfInBounds_toArray, List.set_cons_zero, List.set_cons_succ]
  refine wpAnyH_ready (rs := [1]) (by kernel_rfl) (by simp) ?_
  refine AllReadyH.cons (o := { dst := some 37, op := Go.Op.buildSlice 40 1 #[(0, Go.Operand.tmp 36)], type := 40, pos := "law.go:22", after := #[{ on := 0, ground := Go.Ground.data }], guard := none }) rfl (fun K hK => ?_) AllReadyH.nil
  go_simp
  have hS2 := keepD (keepA (.cells #[.slice A N cap] 22) hS0 hG6)
  refine hK.out _ _ hS2 (fun _ => ?_)
  clear hK K
  try simp only [Act.put, List.setIfInBounds_toArray, List.set_cons_zero, List.set_cons_succ]
  refine wpAnyH_ready (rs := [2]) (by kernel_rfl) (by simp) ?_
  refine AllReadyH.cons (o := { dst := some 38, op := Go.Op.call { callee := Go.Callee.value (Go.Operand.func 9), args := #[Go.Operand.tmp 37], argTypes := #[40] }, type := 25, pos := "law.go:22", after := #[{ on := 1, ground := Go.Ground.data }], guard := none }) rfl (fun K hK => ?_) AllReadyH.nil
  go_simp
  (with_reducible refine HC1d.out.mono ?_)
  rintro e w7 ⟨rfl, hb7⟩
  have hS7 := keepC hS0 hb7 hG6
  dsimp only
  refine hK.out _ _ hS7 (fun _ => ?_)
  clear hK K
  try simp only [Act.put, List.setIfInBounds_toArray, List.set_cons_zero, List.set_cons_succ]
  refine wpAnyH_take (i := 4) (oi := { dst := some 40, op := Go.Op.binOp Go.BinOp.eql 25 (Go.Operand.tmp 38) (Go.Operand.tmp 39) 25, type := 4, pos := "law.go:22", after := #[{ on := 2, ground := Go.Ground.data }, { on := 3, ground := Go.Ground.data }], guard := none }) (v := .bool true) rfl (by kernel_rfl) (by kernel_rfl) (by kernel_rfl) (fun _ _ _ h => h) (Or.inl ⟨by kernel_rfl, ?_⟩) hS7 ?_
  · intro w hSw; go_simp
  try simp only [Act.put, List.setIfInBounds_toArray, List.set_cons_zero, List.set_cons_succ]
  refine wpAnyH_take (i := 5) (oi := { dst := some 41, op := Go.Op.move (Go.Operand.tmp 40), type := 4, pos := "law.go:22", after := #[{ on := 4, ground := Go.Ground.data }, { on := 2, ground := Go.Ground.chain }], guard := none }) (v := .bool true) rfl (by kernel_rfl) (by kernel_rfl) (by kernel_rfl) (fun _ _ _ h => h) (Or.inl ⟨by kernel_rfl, ?_⟩) hS7 ?_
  · intro w hSw; go_simp
  try simp only [Act.put, List.setIfInBounds_toArray, List.set_cons_zero, List.set_cons_succ]
  refine wpAnyH_take (i := 6) (oi := { dst := some 42, op := Go.Op.move (Go.Operand.tmp 0), type := 22, pos := "law.go:22", after := #[{ on := 5, ground := Go.Ground.guard }], guard := some (5, true) }) (v := .slice A N cap) rfl (by kernel_rfl) (by kernel_rfl) (by kernel_rfl) (fun _ _ _ h => h) (Or.inl ⟨by kernel_rfl, ?_⟩) hS7 ?_
  · intro w hSw; go_simp
  try simp only [Act.put, List.setIfInBounds_toArray, List.set_cons_zero, List.set_cons_succ]
  refine wpAnyH_take (i := 7) (oi := { dst := some 43, op := Go.Op.move (Go.Operand.tmp 7), type := 3, pos := "law.go:22", after := #[{ on := 5, ground := Go.Ground.guard }], guard := some (5, true) }) (v := .int .i64 (n : Int)) rfl (by kernel_rfl) (by kernel_rfl) (by kernel_rfl) (fun _ _ _ h => h) (Or.inl ⟨by kernel_rfl, ?_⟩) hS7 ?_
  · intro w hSw; go_simp
  try simp only [Act.put, List.setIfInBounds_toArray, List.set_cons_zero, List.set_cons_succ]
  refine wpAnyH_take (i := 8) (oi := { dst := some 44, op := Go.Op.slice 22 (Go.Operand.tmp 42) none (some (Go.Operand.tmp 43)) none, type := 22, pos := "law.go:22", after := #[{ on := 6, ground := Go.Ground.data }, { on := 7, ground := Go.Ground.data }, { on := 5, ground := Go.Ground.guard }], guard := some (5, true) }) (v := .slice A n cap) rfl (by kernel_rfl) (by kernel_rfl) (by kernel_rfl) (fun _ _ _ h => h) (Or.inl ⟨by kernel_rfl, ?_⟩) hS7 ?_
  · intro w hSw; go_simp
  try simp only [Act.put, List.setIfInBounds_toArray, List.set_cons_zero, List.set_cons_succ]
  refine wpAnyH_take (i := 9) (oi := { dst := some 45, op := Go.Op.move (Go.Operand.tmp 0), type := 22, pos := "law.go:22", after := #[{ on := 5, ground := Go.Ground.guard }], guard := some (5, true) }) (v := .slice A N cap) rfl (by kernel_rfl) (by kernel_rfl) (by kernel_rfl) (fun _ _ _ h => h) (Or.inl ⟨by kernel_rfl, ?_⟩) hS7 ?_
  · intro w hSw; go_simp
  try simp only [Act.put, List.setIfInBounds_toArray, List.set_cons_zero, List.set_cons_succ]
  refine wpAnyH_take (i := 10) (oi := { dst := some 46, op := Go.Op.move (Go.Operand.tmp 7), type := 3, pos := "law.go:22", after := #[{ on := 5, ground := Go.Ground.guard }], guard := some (5, true) }) (v := .int .i64 (n : Int)) rfl (by kernel_rfl) (by kernel_rfl) (by kernel_rfl) (fun _ _ _ h => h) (Or.inl ⟨by kernel_rfl, ?_⟩) hS7 ?_
  · intro w hSw; go_simp
  try simp only [Act.put, List.setIfInBounds_toArray, List.set_cons_zero, List.set_cons_succ]
  refine wpAnyH_take (i := 11) (oi := { dst := some 47, op := Go.Op.move (Go.Operand.tmp 8), type := 3, pos := "law.go:22", after := #[{ on := 5, ground := Go.Ground.guard }], guard := some (5, true) }) (v := .int .i64 (M : Int)) rfl (by kernel_rfl) (by kernel_rfl) (by kernel_rfl) (fun _ _ _ h => h) (Or.inl ⟨by kernel_rfl, ?_⟩) hS7 ?_
  · intro w hSw; go_simp
  try simp only [Act.put, List.setIfInBounds_toArray, List.set_cons_zero, List.set_cons_succ]
  refine wpAnyH_take (i := 12) (oi := { dst := some 48, op := Go.Op.slice 22 (Go.Operand.tmp 45) (some (Go.Operand.tmp 46)) (some (Go.Operand.tmp 47)) none, type := 22, pos := "law.go:22", after := #[{ on := 9, ground := Go.Ground.data }, { on := 10, ground := Go.Ground.data }, { on := 11, ground := Go.Ground.data }, { on := 5, ground := Go.Ground.guard }], guard := some (5, true) }) (v := .slice A2 (M - n) (cap - n)) rfl (by kernel_rfl) (by kernel_rfl) (by kernel_rfl) (fun _ _ _ h => h) (Or.inl ⟨by kernel_rfl, ?_⟩) hS7 ?_
  · intro w hSw; go_simp
  try simp only [Act.put, List.setIfInBounds_toArray, List.set_cons_zero, List.set_cons_succ]
  refine wpAnyH_take (i := 13) (oi := { dst := some 49, op := Go.Op.move (Go.Operand.tmp 0), type := 22, pos := "law.go:22", after := #[{ on := 5, ground := Go.Ground.guard }], guard := some (5, true) }) (v := .slice A N cap) rfl (by kernel_rfl) (by kernel_rfl) (by kernel_rfl) (fun _ _ _ h => h) (Or.inl ⟨by kernel_rfl, ?_⟩) hS7 ?_
  · intro w hSw; go_simp
  try simp only [Act.put, List.setIfInBounds_toArray, List.set_cons_zero, List.set_cons_succ]
  refine wpAnyH_take (i := 14) (oi := { dst := some 50, op := Go.Op.move (Go.Operand.tmp 8), type := 3, pos := "law.go:22", after := #[{ on := 5, ground := Go.Ground.guard }], guard := some (5, true) }) (v := .int .i64 (M : Int)) rfl (by kernel_rfl) (by kernel_rfl) (by kernel_rfl) (fun _ _ _ h => h) (Or.inl ⟨by kernel_rfl, ?_⟩) hS7 ?_
  · intro w hSw; go_simp
  try simp only [Act.put, List.setIfInBounds_toArray, List.set_cons_zero, List.set_cons_succ]
  refine wpAnyH_take (i := 15) (oi := { dst := some 51, op := Go.Op.slice 22 (Go.Operand.tmp 49) (some (Go.Operand.tmp 50)) none none, type := 22, pos := "law.go:22", after := #[{ on := 13, ground := Go.Ground.data }, { on := 14, ground := Go.Ground.data }, { on := 5, ground := Go.Ground.guard }], guard := some (5, true) }) (v := .slice A3 (N - M) (cap - M)) rfl (by kernel_rfl) (by kernel_rfl) (by kernel_rfl) (fun _ _ _ h => h) (Or.inl ⟨by kernel_rfl, ?_⟩) hS7 ?_
  · intro w hSw; go_simp
  try simp only [Act.put, List.setIfInBounds_toArray, List.set_cons_zero, List.set_cons_succ]
  refine wpAnyH_take (i := 18) (oi := { dst := some 54, op := Go.Op.load 25 (Go.Operand.tmp 9), type := 25, pos := "law.go:22", after := #[{ on := 5, ground := Go.Ground.guard }], guard := some (5, true) }) (v := .agg (u8c D).toArray) rfl (by kernel_rfl) (by kernel_rfl) (by kernel_rfl) (fun _ _ _ h => h) ?_ hS7 ?_
  · exact yieldsIf_load_mid (by kernel_rfl) 25 (.tmp 9) rfl G 0 (by kernel_rfl) (u8c D) _ (fun w h => h.1) Tryd.underlying25 rfl hi25
  try simp only [Act.put, List.setIfInBounds_toArray, List.set_cons_zero, List.set_cons_succ]
  refine wpAnyH_ready (rs := [16]) (by kernel_rfl) (by simp) ?_
  refine AllReadyH.cons (o := { dst := some 52, op := Go.Op.buildSlice 40 4 #[(0, Go.Operand.tmp 44), (1, Go.Operand.tmp 48), (2, Go.Operand.const (Go.Value.slice none 0 0)), (3, Go.Operand.tmp 51)], type := 40, pos := "law.go:22", after := #[{ on := 8, ground := Go.Ground.data }, { on := 12, ground := Go.Ground.data }, { on := 15, ground := Go.Ground.data }, { on := 5, ground := Go.Ground.guard }], guard := some (5, true) }) rfl (fun K hK => ?_) AllReadyH.nil
  go_simp
  have hS8 := keepA (.cells #[.slice A n cap, .slice A2 (M - n) (cap - n), .slice none 0 0, .slice A3 (N - M) (cap - M)] 22) hS7 hG6
  refine hK.out _ _ hS8 (fun _ => ?_)
  clear hK K
  try simp only [Act.put, List.setIfInBounds_toArray, List.set_cons_zero, List.set_cons_succ]
  refine wpAnyH_ready (rs := [17]) (by kernel_rfl) (by simp) ?_
  refine AllReadyH.cons (o := { dst := some 53, op := Go.Op.call { callee := Go.Callee.value (Go.Operand.func 9), args := #[Go.Operand.tmp 52], argTypes := #[40] }, type := 25, pos := "law.go:22", after := #[{ on := 16, ground := Go.Ground.data }, { on := 5, ground := Go.Ground.chain }, { on := 5, ground := Go.Ground.guard }], guard := some (5, true) }) rfl (fun K hK => ?_) AllReadyH.nil
  go_simp
  (with_reducible refine (HC2.out w7 hS7.2).mono ?_)
  rintro e w8 ⟨rfl, hb8⟩
  have hS9 := keepC hS7 hb8 hG6
  dsimp only
  refine hK.out _ _ hS9 (fun _ => ?_)
  clear hK K
  try simp only [Act.put, List.setIfInBounds_toArray, List.set_cons_zero, List.set_cons_succ]
  refine wpAnyH_take (i := 19) (oi := { dst := some 55, op := Go.Op.binOp Go.BinOp.eql 25 (Go.Operand.tmp 53) (Go.Operand.tmp 54) 25, type := 4, pos := "law.go:22", after := #[{ on := 17, ground := Go.Ground.data }, { on := 18, ground := Go.Ground.data }, { on := 5, ground := Go.Ground.guard }], guard := some (5, true) }) (v := .bool true) rfl (by kernel_rfl) (by kernel_rfl) (by kernel_rfl) (fun _ _ _ h => h) (Or.inl ⟨by kernel_rfl, ?_⟩) hS9 ?_
  · intro w hSw; go_simp
  try simp only [Act.put, List.setIfInBounds_toArray, List.set_cons_zero, List.set_cons_succ]
  refine wpAnyH_take (i := 20) (oi := { dst := some 56, op := Go.Op.pick (Go.Operand.tmp 41) (Go.Operand.tmp 55) (Go.Operand.const (Go.Value.bool false)), type := 4, pos := "law.go:22", after := #[{ on := 5, ground := Go.Ground.data }, { on := 19, ground := Go.Ground.data }], guard := none }) (v := .bool true) rfl (by kernel_rfl) (by kernel_rfl) (by kernel_rfl) (fun _ _ _ h => h) (Or.inl ⟨by kernel_rfl, ?_⟩) hS9 ?_
  · intro w hSw; go_simp
  try simp only [Act.put, List.setIfInBounds_toArray, List.set_cons_zero, List.set_cons_succ]
  refine wpAnyH_take (i := 21) (oi := { dst := some 57, op := Go.Op.move (Go.Operand.tmp 56), type := 4, pos := "law.go:22", after := #[{ on := 20, ground := Go.Ground.data }, { on := 17, ground := Go.Ground.chain }], guard := none }) (v := .bool true) rfl (by kernel_rfl) (by kernel_rfl) (by kernel_rfl) (fun _ _ _ h => h) (Or.inl ⟨by kernel_rfl, ?_⟩) hS9 ?_
  · intro w hSw; go_simp
  try simp only [Act.put, List.setIfInBounds_toArray, List.set_cons_zero, List.set_cons_succ]
  refine wpAnyH_take (i := 22) (oi := { dst := some 58, op := Go.Op.load 25 (Go.Operand.tmp 9), type := 25, pos := "law.go:22", after := #[{ on := 21, ground := Go.Ground.guard }], guard := some (21, true) }) (v := .agg (u8c D).toArray) rfl (by kernel_rfl) (by kernel_rfl) (by kernel_rfl) (fun _ _ _ h => h) ?_ hS9 ?_
  · exact yieldsIf_load_mid (by kernel_rfl) 25 (.tmp 9) rfl G 0 (by kernel_rfl) (u8c D) _ (fun w h => h.1) Tryd.underlying25 rfl hi25
  try simp only [Act.put, List.setIfInBounds_toArray, List.set_cons_zero, List.set_cons_succ]
  refine wpAnyH_take (i := 24) (oi := { dst := some 60, op := Go.Op.slice 25 (Go.Operand.tmp 9) none none none, type := 22, pos := "law.go:22", after := #[{ on := 21, ground := Go.Ground.guard }], guard := some (21, true) }) (v := .slice (some ⟨G, 0, none⟩) 32 32) rfl (by kernel_rfl) (by kernel_rfl) (by kernel_rfl) (fun _ _ _ h => h) (Or.inl ⟨by kernel_rfl, ?_⟩) hS9 ?_
  · intro w hSw; go_simp
  try simp only [Act.put, List.setIfInBounds_toArray, List.set_cons_zero, List.set_cons_succ]
  refine wpAnyH_ready (rs := [23]) (by kernel_rfl) (by simp) ?_
  refine AllReadyH.cons (o := { dst := some 59, op := Go.Op.call { callee := Go.Callee.value (Go.Operand.func 10), args := #[Go.Operand.tmp 58], argTypes := #[25] }, type := 9, pos := "law.go:22", after := #[{ on := 22, ground := Go.Ground.data }, { on := 21, ground := Go.Ground.chain }, { on := 21, ground := Go.Ground.guard }], guard := some (21, true) }) rfl (fun K hK => ?_) AllReadyH.nil
  go_simp
  (with_reducible refine (HHX.out w8).mono ?_)
  rintro e w9 ⟨rfl, hb9⟩
  have hS10 := keepC hS9 hb9 hG6
  dsimp only
  refine hK.out _ _ hS10 (fun _ => ?_)
  clear hK K
  try simp only [Act.put, List.setIfInBounds_toArray, List.set_cons_zero, List.set_cons_succ]
  refine wpAnyH_ready (rs := [25]) (by kernel_rfl) (by simp) ?_
  refine AllReadyH.cons (o := { dst := some 61, op := Go.Op.call { callee := Go.Callee.value (Go.Operand.func 11), args := #[Go.Operand.tmp 60], argTypes := #[22] }, type := 9, pos := "law.go:22", after := #[{ on := 24, ground := Go.Ground.data }, { on := 23, ground := Go.Ground.chain }, { on := 21, ground := Go.Ground.guard }], guard := some (21, true) }) rfl (fun K hK => ?_) AllReadyH.nil
  go_simp
  (with_reducible refine (HRX.out w9 (Nat.lt_of_lt_of_le hG6 hS10.2.size) hS10.1).mono ?_)
  rintro e w10 ⟨rfl, hb10⟩
  have hS11 := keepC hS10 hb10 hG6
  dsimp only
  refine hK.out _ _ hS11 (fun _ => ?_)
  clear hK K
  try simp only [Act.put, List.setIfInBounds_toArray, List.set_cons_zero, List.set_cons_succ]
  refine wpAnyH_take (i := 26) (oi := { dst := some 62, op := Go.Op.binOp Go.BinOp.eql 9 (Go.Operand.tmp 59) (Go.Operand.tmp 61) 9, type := 4, pos := "law.go:22", after := #[{ on := 23, ground := Go.Ground.data }, { on := 25, ground := Go.Ground.data }, { on := 21, ground := Go.Ground.guard }], guard := some (21, true) }) (v := .bool true) rfl (by kernel_rfl) (by kernel_rfl) (by kernel_rfl) (fun _ _ _ h => h) (Or.inl ⟨by kernel_rfl, ?_⟩) hS11 ?_
  · intro w hSw; go_simp
  try simp only [Act.put, List.setIfInBounds_toArray, List.set_cons_zero, List.set_cons_succ]
  refine wpAnyH_take (i := 27) (oi := { dst := some 63, op := Go.Op.pick (Go.Operand.tmp 57) (Go.Operand.tmp 62) (Go.Operand.const (Go.Value.bool false)), type := 4, pos := "law.go:22", after := #[{ on := 21, ground := Go.Ground.data }, { on := 26, ground := Go.Ground.data }], guard := none }) (v := .bool true) rfl (by kernel_rfl) (by kernel_rfl) (by kernel_rfl) (fun _ _ _ h => h) (Or.inl ⟨by kernel_rfl, ?_⟩) hS11 ?_
  · intro w hSw; go_simp
  try simp only [Act.put, List.setIfInBounds_toArray, List.set_cons_zero, List.set_cons_succ]
  refine wpAnyH_take (i := 28) (oi := { dst := some 6, op := Go.Op.assign (Go.Operand.tmp 63), type := 4, pos := "law.go:22", after := #[{ on := 27, ground := Go.Ground.data }, { on := 25, ground := Go.Ground.chain }, { on := 0, ground := Go.Ground.phase }, { on := 1, ground := Go.Ground.phase }, { on := 2, ground := Go.Ground.phase }, { on := 3, ground := Go.Ground.phase }, { on := 4, ground := Go.Ground.phase }, { on := 5, ground := Go.Ground.phase }, { on := 6, ground := Go.Ground.phase }, { on := 7, ground := Go.Ground.phase }, { on := 8, ground := Go.Ground.phase }, { on := 9, ground := Go.Ground.phase }, { on := 10, ground := Go.Ground.phase }, { on := 11, ground := Go.Ground.phase }, { on := 12, ground := Go.Ground.phase }, { on := 13, ground := Go.Ground.phase }, { on := 14, ground := Go.Ground.phase }, { on := 15, ground := Go.Ground.phase }, { on := 16, ground := Go.Ground.phase }, { on := 17, ground := Go.Ground.phase }, { on := 18, ground := Go.Ground.phase }, { on := 19, ground := Go.Ground.phase }, { on := 20, ground := Go.Ground.phase }, { on := 21, ground := Go.Ground.phase }, { on := 22, ground := Go.Ground.phase }, { on := 23, ground := Go.Ground.phase }, { on := 24, ground := Go.Ground.phase }, { on := 25, ground := Go.Ground.phase }, { on := 26, ground := Go.Ground.phase }, { on := 27, ground := Go.Ground.phase }], guard := none }) (v := .bool true) rfl (by kernel_rfl) (by kernel_rfl) (by kernel_rfl) (fun _ _ _ h => h) (Or.inl ⟨by kernel_rfl, ?_⟩) hS11 ?_
  · intro w hSw; go_simp
  try simp only [Act.put, List.setIfInBounds_toArray, List.set_cons_zero, List.set_cons_succ]
  refine wpAnyH_done (by kernel_rfl) ?_ _
  refine NoPanic.normal ?_
  go_wp2
  go_ret
  exact ⟨rfl, hbl6.trans (hS11.2.mono hbl6.size)⟩
theorem sums_any (A : Option Addr) (bs : List UInt8) (cap : Nat) (x y : Int) (w : World) (hT : Tabs w) (hc : bs.length ≤ cap) (hcm : cap ≤ 9223372036854775807) (hA0 : A = none → cap = 0)
    (hA : bs ≠ [] → ∃ b o, A = some ⟨b, o, none⟩ ∧ b < w.heap.size ∧ w.rangeAt b o (u8c bs)) (hx : (Lit.int .u16 x).wf = true) (hy : (Lit.int .u16 y).wf = true) :
    Calls Tryd.prog 3 #[.slice A bs.length cap, .int .u16 x, .int .u16 y] w fun e w' => e = .returned (.bool true) ∧ Below w.heap.size w w' := by
  simp [Lit.wf, IntKind.min, IntKind.max, IntKind.signed, IntKind.bits] at hx hy
  by_cases hn : 600 < bs.length
  · exact sums_long A bs.length cap x y w hT hn hc hcm
  · exact sums_walk A bs cap x y w hT (by omega) hc hcm hA0 hA (by omega) (by omega) (by omega) (by omega)
end Go.Proofs.YtnalfjhjhbicmaaDoor
