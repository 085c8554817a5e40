/-
  BaseEncodes walked: the letters of bytes, wherever they are parted, read again. Conditions: none.
-/
import Derived.Test.YthadagnebnakhaaBCuts
import Derived.Deep.RegionHeld3
import Derived.Deep.Cut
namespace Go.Proofs.Ythadagnebnakhaa
open Go.RowKit
set_option linter.unusedVariables false
set_option linter.unusedSimpArgs false
set_option maxHeartbeats 1000000 in
theorem encodes_long (A : Option Addr) (n cap : Nat) (x : Int) (w : World) (hn : 300 < n) (hc : n ≤ cap) (hcm : cap ≤ 9223372036854775807) :
    Calls Try.prog 3 #[.slice A n cap, .int .u16 x] w fun e w' => e = .returned (.bool true) ∧ Below w.heap.size w w' := by
  have hz : (300 : Int) < n := by omega
  go_enter Try.func3, Try.ntmps3
  go_wp2_with fail
  refine (awake_any w).mono ?_
  rintro e w1 ⟨rfl, hb1⟩
  go_wp2_with fail
  refine (awake_any w1).mono ?_
  rintro e w2 ⟨rfl, hb2⟩
  go_wp2
  go_ret
  exact ⟨rfl, hb1.trans (hb2.mono hb1.size)⟩
set_option maxHeartbeats 2000000 in
set_option maxRecDepth 100000 in
theorem encodes_walk (A : Option Addr) (b : List UInt8) (cap : Nat) (x : Int) (w : World) (hn : b.length ≤ 300) (hc : b.length ≤ cap) (hcm : cap ≤ 9223372036854775807) (hA : Lies w A b) (hx0 : 0 ≤ x) (hx1 : x < 65536) :
    Calls Try.prog 3 #[.slice A b.length cap, .int .u16 x] w fun e w' => e = .returned (.bool true) ∧ Below w.heap.size w w' := by
  obtain ⟨m, hM⟩ : ∃ m, b.length = m := ⟨_, rfl⟩
  obtain ⟨S, hS⟩ : ∃ S : ByteArray, ⟨(enc b).toArray⟩ = S := ⟨_, rfl⟩
  have HA : Hid (∀ W, Below w.heap.size w W → Lies W A b) := fun W hW => hA.below hW (Nat.le_refl _)
  obtain ⟨k, hk1⟩ : ∃ k : Nat, x % ((m : Int) + 1) = (k : Int) := ⟨(x % ((m : Int) + 1)).toNat, by have := Int.emod_nonneg x (show (m : Int) + 1 ≠ 0 by omega); omega⟩
  have hkm : k ≤ m := by have := Int.emod_lt_of_pos x (show (0 : Int) < (m : Int) + 1 by omega); omega
  have hkt : x.tmod ((m : Int) + 1) = (k : Int) := by rw [Int.tmod_eq_emod_of_nonneg hx0]; exact hk1
  have HEN1 : Hid (∀ W, Below w.heap.size w W → Calls Try.prog 9 #[.slice (some ⟨W.heap.size, 0, none⟩) 1 1] (W.alloc (.cells #[.slice A m cap] 22)) fun e w' => e = .returned (.string S) ∧ Below W.heap.size W w') := fun W hW => by
    rw [← hS, ← hM]; exact encode_part A b cap W (HA.out W hW) hc hcm (by omega)
  have HDE : Hid (∀ W, Calls Try.prog 10 #[.string S] W fun e w' => (∃ v, e = .returned (.tuple #[v, .bool true]) ∧ w'.ownsRow W.heap.size 5 1 v m (u8c b)) ∧ Below W.heap.size W w') := fun W => by
    rw [← hS]
    have hd := dec_enc b
    have hel := enc_length b
    refine (decode_any _ W (by omega)).mono ?_
    rintro e w' ⟨⟨b', v, hdb, rfl, hown⟩ | ⟨hdb, _⟩, hb'⟩
    · rw [hd] at hdb
      injection hdb with hdb
      subst hdb
      exact ⟨⟨v, rfl, by rw [← hM]; exact hown⟩, hb'⟩
    · rw [hd] at hdb; cases hdb
  have HRE : Hid (∀ W, Below w.heap.size w W → Calls Try.prog 11 #[.slice A m cap] W fun e w' => e = .returned (.string S) ∧ Below W.heap.size W w') := fun W hW => by
    rw [← hS, ← hM]; exact refenc_any A b cap W (HA.out W hW) (by omega)
  have HEN2 : Hid (∀ (W : World) (g : Nat), Below w.heap.size w W → Holds W g 22 [.slice A k cap, .slice (if cap = k then A else A.map (·.add k)) (m - k) (cap - k)] → Calls Try.prog 9 #[.slice (some ⟨g, 0, none⟩) 2 2] W fun e w' => e = .returned (.string S) ∧ Below W.heap.size W w') := fun W g hW hg => by
    have l1 : (b.take k).length = k := by rw [List.length_take, hM]; omega
    have l2 : ((b.drop k).take (m - k)).length = m - k := by rw [List.length_take, List.length_drop, hM]; omega
    have hall : allOf [⟨A, b.take k, cap⟩, ⟨if cap = k then A else A.map (·.add k), (b.drop k).take (m - k), cap - k⟩] = b := by
      simp only [allOf, List.flatMap_cons, List.flatMap_nil, List.append_nil]
      rw [List.take_of_length_le (l := b.drop k) (by rw [List.length_drop, hM]; omega), List.take_append_drop]
    have h := encode_any (some ⟨g, 0, none⟩) [⟨A, b.take k, cap⟩, ⟨if cap = k then A else A.map (·.add k), (b.drop k).take (m - k), cap - k⟩] 2 W (fun _ => ⟨g, 0, rfl, Holds.lt hg, fun j v hv => by
      rw [Nat.zero_add, Holds.cell hg, ← hv]
      simp only [List.map_cons, List.map_nil, Part.val, l1, l2]⟩) (fun p hp => by
      simp only [List.mem_cons, List.not_mem_nil, or_false] at hp
      rcases hp with rfl | rfl
      · exact lies_to (by rw [hM]; exact hkm) hc hcm (HA.out W hW)
      · exact lies_cut (by rw [hM]; omega) hc hcm (HA.out W hW)) (by simp) (by rw [hall]; omega)
    rw [hall, hS] at h
    exact h
  have HM := Lib.hid hM
  rw [hM] at hn hc ⊢
  have hz : ¬ (300 : Int) < m := by omega
  have hz1 := decide_eq_false hz
  clear hA hM hS
  go_enter Try.func3, Try.ntmps3
  go_wp2_with fail
  refine (awake_any w).mono ?_
  rintro e w1 ⟨rfl, hb1⟩
  go_wp2_with fail
  refine (HEN1.out w1 hb1).mono ?_
  rintro e w2 ⟨rfl, hb2⟩
  have hK2 := hb1.trans (hb2.mono hb1.size)
  clear hb1 hb2 HEN1
  go_wp2_with fail
  refine (HDE.out w2).mono ?_
  rintro e w6 ⟨⟨v, rfl, hown⟩, hb6⟩
  have hK6 := hK2.trans (hb6.mono hK2.size)
  obtain ⟨A2, cap2, hv, _, _, _, hli2⟩ := own_full hown HM.out
  subst hv
  go_upto_region 6 with fail
  have sl1 := slice_to (A := A) (len := m) (cap := cap) (m := k) hkm hc
  have sl3 := slice_from (A := A) (len := m) (cap := cap) (n := k) hkm
  have HC1 : Hid (∀ W, Below w6.heap.size w6 W → (convert 22 9 (.slice A2 m cap2)).run Try.prog W = .ok (.string ⟨b.toArray⟩) W) := fun W hW => by
    have := conv_lies cap2 (hli2.below hW (Nat.le_refl _))
    rwa [HM.out] at this
  have HC2 : Hid (∀ W, Below w6.heap.size w6 W → (convert 22 9 (.slice A m cap)).run Try.prog W = .ok (.string ⟨b.toArray⟩) W) := fun W hW => by
    have := conv_lies cap (HA.out W (hK6.trans (hW.mono hK6.size)))
    rwa [HM.out] at this
  have HL : Hid (∀ W, Below w6.heap.size w6 W → Below w.heap.size w W) := fun W hW => hK6.trans (hW.mono hK6.size)
  clear HA HM hown hli2 hb6 hK2 hk1 hkt hx0 hx1
  generalize (if cap = k then A else A.map (·.add k)) = A3 at *
  generalize (⟨b.toArray⟩ : ByteArray) = E at *
  refine wp_region_noPanic ?_
  refine wp_region_held_drew (S := Below w6.heap.size w6) (by kernel_rfl) (Below.refl _ w6).drew (fun hS1 => ?_)
  obtain ⟨wd, hwd⟩ : ∃ wd, w6.drew = wd := ⟨_, rfl⟩
  rw [hwd] at hS1 ⊢
  clear hwd hK6
  refine wpAnyH_take (i := 0) (oi := { dst := some 31, op := Go.Op.move (Go.Operand.tmp 6), type := 9, pos := "law.go:23", after := #[], guard := none }) (v := .string S) rfl (by kernel_rfl) (by kernel_rfl) (by kernel_rfl) (fun _ _ _ h => h) (Or.inl ⟨by kernel_rfl, ?_⟩) hS1 ?_
  · intro w hSw; go_simp
  try simp only [Act.put, List.setIfInBounds_toArray, List.set_cons_zero, List.set_cons_succ]
  refine wpAnyH_take (i := 1) (oi := { dst := some 32, op := Go.Op.move (Go.Operand.tmp 0), type := 22, pos := "law.go:23", after := #[], guard := none }) (v := .slice A m cap) rfl (by kernel_rfl) (by kernel_rfl) (by kernel_rfl) (fun _ _ _ h => h) (Or.inl ⟨by kernel_rfl, ?_⟩) hS1 ?_
  · intro w hSw; go_simp
  try simp only [Act.put, List.setIfInBounds_toArray, List.set_cons_zero, List.set_cons_succ]
  refine wpAnyH_ready (rs := [2]) (by kernel_rfl) (by simp) ?_
  refine AllReadyH.cons (o := { dst := some 33, op := Go.Op.call { callee := Go.Callee.value (Go.Operand.func 11), args := #[Go.Operand.tmp 32], argTypes := #[22] }, type := 9, pos := "law.go:23", after := #[{ on := 1, ground := Go.Ground.data }], guard := none }) rfl (fun K hK => ?_) AllReadyH.nil
  go_simp
  (with_reducible refine (HRE.out wd (HL.out wd hS1)).mono ?_)
  rintro e wa ⟨rfl, hbc⟩
  have hSb := hS1.trans (hbc.mono hS1.size)
  dsimp only
  refine hK.out _ _ hSb (fun _ => ?_)
  clear hK K
  try simp only [Act.put, List.setIfInBounds_toArray, List.set_cons_zero, List.set_cons_succ]
  replace hS1 := hSb
  clear hbc
  refine wpAnyH_take (i := 3) (oi := { dst := some 34, op := Go.Op.binOp Go.BinOp.eql 9 (Go.Operand.tmp 31) (Go.Operand.tmp 33) 9, type := 4, pos := "law.go:23", after := #[{ on := 0, ground := Go.Ground.data }, { on := 2, ground := Go.Ground.data }], guard := none }) (v := .bool true) rfl (by kernel_rfl) (by kernel_rfl) (by kernel_rfl) (fun _ _ _ h => h) (Or.inl ⟨by kernel_rfl, ?_⟩) hS1 ?_
  · intro w hSw; go_simp
  try simp only [Act.put, List.setIfInBounds_toArray, List.set_cons_zero, List.set_cons_succ]
  refine wpAnyH_take (i := 4) (oi := { dst := some 35, op := Go.Op.move (Go.Operand.tmp 34), type := 4, pos := "law.go:23", after := #[{ on := 3, ground := Go.Ground.data }, { on := 2, ground := Go.Ground.chain }], guard := none }) (v := .bool true) rfl (by kernel_rfl) (by kernel_rfl) (by kernel_rfl) (fun _ _ _ h => h) (Or.inl ⟨by kernel_rfl, ?_⟩) hS1 ?_
  · intro w hSw; go_simp
  try simp only [Act.put, List.setIfInBounds_toArray, List.set_cons_zero, List.set_cons_succ]
  refine wpAnyH_take (i := 5) (oi := { dst := some 36, op := Go.Op.move (Go.Operand.tmp 0), type := 22, pos := "law.go:23", after := #[{ on := 4, ground := Go.Ground.guard }], guard := some (4, true) }) (v := .slice A m cap) rfl (by kernel_rfl) (by kernel_rfl) (by kernel_rfl) (fun _ _ _ h => h) (Or.inl ⟨by kernel_rfl, ?_⟩) hS1 ?_
  · intro w hSw; go_simp
  try simp only [Act.put, List.setIfInBounds_toArray, List.set_cons_zero, List.set_cons_succ]
  refine wpAnyH_take (i := 6) (oi := { dst := some 37, op := Go.Op.move (Go.Operand.tmp 5), type := 3, pos := "law.go:23", after := #[{ on := 4, ground := Go.Ground.guard }], guard := some (4, true) }) (v := .int .i64 (k : Int)) rfl (by kernel_rfl) (by kernel_rfl) (by kernel_rfl) (fun _ _ _ h => h) (Or.inl ⟨by kernel_rfl, ?_⟩) hS1 ?_
  · intro w hSw; go_simp
  try simp only [Act.put, List.setIfInBounds_toArray, List.set_cons_zero, List.set_cons_succ]
  refine wpAnyH_take (i := 7) (oi := { dst := some 38, op := Go.Op.slice 22 (Go.Operand.tmp 36) none (some (Go.Operand.tmp 37)) none, type := 22, pos := "law.go:23", after := #[{ on := 5, ground := Go.Ground.data }, { on := 6, ground := Go.Ground.data }, { on := 4, ground := Go.Ground.guard }], guard := some (4, true) }) (v := .slice A k cap) rfl (by kernel_rfl) (by kernel_rfl) (by kernel_rfl) (fun _ _ _ h => h) (Or.inl ⟨by kernel_rfl, ?_⟩) hS1 ?_
  · intro w hSw; go_simp
  try simp only [Act.put, List.setIfInBounds_toArray, List.set_cons_zero, List.set_cons_succ]
  refine wpAnyH_take (i := 8) (oi := { dst := some 39, op := Go.Op.move (Go.Operand.tmp 0), type := 22, pos := "law.go:23", after := #[{ on := 4, ground := Go.Ground.guard }], guard := some (4, true) }) (v := .slice A m cap) rfl (by kernel_rfl) (by kernel_rfl) (by kernel_rfl) (fun _ _ _ h => h) (Or.inl ⟨by kernel_rfl, ?_⟩) hS1 ?_
  · intro w hSw; go_simp
  try simp only [Act.put, List.setIfInBounds_toArray, List.set_cons_zero, List.set_cons_succ]
  refine wpAnyH_take (i := 9) (oi := { dst := some 40, op := Go.Op.move (Go.Operand.tmp 5), type := 3, pos := "law.go:23", after := #[{ on := 4, ground := Go.Ground.guard }], guard := some (4, true) }) (v := .int .i64 (k : Int)) rfl (by kernel_rfl) (by kernel_rfl) (by kernel_rfl) (fun _ _ _ h => h) (Or.inl ⟨by kernel_rfl, ?_⟩) hS1 ?_
  · intro w hSw; go_simp
  try simp only [Act.put, List.setIfInBounds_toArray, List.set_cons_zero, List.set_cons_succ]
  refine wpAnyH_take (i := 10) (oi := { dst := some 41, op := Go.Op.slice 22 (Go.Operand.tmp 39) (some (Go.Operand.tmp 40)) none none, type := 22, pos := "law.go:23", after := #[{ on := 8, ground := Go.Ground.data }, { on := 9, ground := Go.Ground.data }, { on := 4, ground := Go.Ground.guard }], guard := some (4, true) }) (v := .slice A3 (m - k) (cap - k)) rfl (by kernel_rfl) (by kernel_rfl) (by kernel_rfl) (fun _ _ _ h => h) (Or.inl ⟨by kernel_rfl, ?_⟩) hS1 ?_
  · intro w hSw; go_simp
  try simp only [Act.put, List.setIfInBounds_toArray, List.set_cons_zero, List.set_cons_succ]
  refine wpAnyH_take (i := 13) (oi := { dst := some 44, op := Go.Op.move (Go.Operand.tmp 6), type := 9, pos := "law.go:23", after := #[{ on := 4, ground := Go.Ground.guard }], guard := some (4, true) }) (v := .string S) rfl (by kernel_rfl) (by kernel_rfl) (by kernel_rfl) (fun _ _ _ h => h) (Or.inl ⟨by kernel_rfl, ?_⟩) hS1 ?_
  · intro w hSw; go_simp
  try simp only [Act.put, List.setIfInBounds_toArray, List.set_cons_zero, List.set_cons_succ]
  refine wpAnyH_ready (rs := [11]) (by kernel_rfl) (by simp) ?_
  refine AllReadyH.cons (o := { dst := some 42, op := Go.Op.buildSlice 35 2 #[(0, Go.Operand.tmp 38), (1, Go.Operand.tmp 41)], type := 35, pos := "law.go:23", after := #[{ on := 7, ground := Go.Ground.data }, { on := 10, ground := Go.Ground.data }, { on := 4, ground := Go.Ground.guard }], guard := some (4, true) }) rfl (fun K hK => ?_) AllReadyH.nil
  go_simp
  have hSm : Below w6.heap.size w6 (wa.alloc (.cells ([.slice A k cap, .slice A3 (m - k) (cap - k)] : List Value).toArray 22)) := hS1.alloc hS1.size _
  have hH1 : Holds (wa.alloc (.cells ([.slice A k cap, .slice A3 (m - k) (cap - k)] : List Value).toArray 22)) wa.heap.size 22 [.slice A k cap, .slice A3 (m - k) (cap - k)] := Holds.fresh wa _ _
  refine hK.out _ _ hSm (fun _ => ?_)
  clear hK K
  try simp only [Act.put, List.setIfInBounds_toArray, List.set_cons_zero, List.set_cons_succ]
  generalize wa.alloc (.cells ([.slice A k cap, .slice A3 (m - k) (cap - k)] : List Value).toArray 22) = wb at *
  generalize wa.heap.size = g at *
  replace hS1 := hSm
  refine wpAnyH_ready (rs := [12]) (by kernel_rfl) (by simp) ?_
  refine AllReadyH.cons (o := { dst := some 43, op := Go.Op.call { callee := Go.Callee.value (Go.Operand.func 9), args := #[Go.Operand.tmp 42], argTypes := #[35] }, type := 9, pos := "law.go:23", after := #[{ on := 11, ground := Go.Ground.data }, { on := 4, ground := Go.Ground.chain }, { on := 4, ground := Go.Ground.guard }], guard := some (4, true) }) rfl (fun K hK => ?_) AllReadyH.nil
  go_simp
  (with_reducible refine (HEN2.out wb g (HL.out wb hS1) hH1).mono ?_)
  rintro e wc ⟨rfl, hbc⟩
  have hSb := hS1.trans (hbc.mono hS1.size)
  dsimp only
  refine hK.out _ _ hSb (fun _ => ?_)
  clear hK K
  try simp only [Act.put, List.setIfInBounds_toArray, List.set_cons_zero, List.set_cons_succ]
  replace hS1 := hSb
  clear hbc
  refine wpAnyH_take (i := 14) (oi := { dst := some 45, op := Go.Op.binOp Go.BinOp.eql 9 (Go.Operand.tmp 43) (Go.Operand.tmp 44) 9, type := 4, pos := "law.go:23", after := #[{ on := 12, ground := Go.Ground.data }, { on := 13, ground := Go.Ground.data }, { on := 4, ground := Go.Ground.guard }], guard := some (4, true) }) (v := .bool true) rfl (by kernel_rfl) (by kernel_rfl) (by kernel_rfl) (fun _ _ _ h => h) (Or.inl ⟨by kernel_rfl, ?_⟩) hS1 ?_
  · intro w hSw; go_simp
  try simp only [Act.put, List.setIfInBounds_toArray, List.set_cons_zero, List.set_cons_succ]
  refine wpAnyH_take (i := 15) (oi := { dst := some 46, op := Go.Op.pick (Go.Operand.tmp 35) (Go.Operand.tmp 45) (Go.Operand.const (Go.Value.bool false)), type := 4, pos := "law.go:23", after := #[{ on := 4, ground := Go.Ground.data }, { on := 14, ground := Go.Ground.data }], guard := none }) (v := .bool true) rfl (by kernel_rfl) (by kernel_rfl) (by kernel_rfl) (fun _ _ _ h => h) (Or.inl ⟨by kernel_rfl, ?_⟩) hS1 ?_
  · intro w hSw; go_simp
  try simp only [Act.put, List.setIfInBounds_toArray, List.set_cons_zero, List.set_cons_succ]
  refine wpAnyH_take (i := 16) (oi := { dst := some 47, op := Go.Op.move (Go.Operand.tmp 46), type := 4, pos := "law.go:23", after := #[{ on := 15, ground := Go.Ground.data }, { on := 12, ground := Go.Ground.chain }], guard := none }) (v := .bool true) rfl (by kernel_rfl) (by kernel_rfl) (by kernel_rfl) (fun _ _ _ h => h) (Or.inl ⟨by kernel_rfl, ?_⟩) hS1 ?_
  · intro w hSw; go_simp
  try simp only [Act.put, List.setIfInBounds_toArray, List.set_cons_zero, List.set_cons_succ]
  refine wpAnyH_take (i := 17) (oi := { dst := some 48, op := Go.Op.move (Go.Operand.tmp 8), type := 4, pos := "law.go:23", after := #[{ on := 16, ground := Go.Ground.guard }], guard := some (16, true) }) (v := .bool true) rfl (by kernel_rfl) (by kernel_rfl) (by kernel_rfl) (fun _ _ _ h => h) (Or.inl ⟨by kernel_rfl, ?_⟩) hS1 ?_
  · intro w hSw; go_simp
  try simp only [Act.put, List.setIfInBounds_toArray, List.set_cons_zero, List.set_cons_succ]
  refine wpAnyH_take (i := 18) (oi := { dst := some 49, op := Go.Op.pick (Go.Operand.tmp 47) (Go.Operand.tmp 48) (Go.Operand.const (Go.Value.bool false)), type := 4, pos := "law.go:23", after := #[{ on := 16, ground := Go.Ground.data }, { on := 17, ground := Go.Ground.data }], guard := none }) (v := .bool true) rfl (by kernel_rfl) (by kernel_rfl) (by kernel_rfl) (fun _ _ _ h => h) (Or.inl ⟨by kernel_rfl, ?_⟩) hS1 ?_
  · intro w hSw; go_simp
  try simp only [Act.put, List.setIfInBounds_toArray, List.set_cons_zero, List.set_cons_succ]
  refine wpAnyH_take (i := 19) (oi := { dst := some 50, op := Go.Op.move (Go.Operand.tmp 49), type := 4, pos := "law.go:23", after := #[{ on := 18, ground := Go.Ground.data }, { on := 16, ground := Go.Ground.chain }], guard := none }) (v := .bool true) rfl (by kernel_rfl) (by kernel_rfl) (by kernel_rfl) (fun _ _ _ h => h) (Or.inl ⟨by kernel_rfl, ?_⟩) hS1 ?_
  · intro w hSw; go_simp
  try simp only [Act.put, List.setIfInBounds_toArray, List.set_cons_zero, List.set_cons_succ]
  refine wpAnyH_take (i := 20) (oi := { dst := some 51, op := Go.Op.move (Go.Operand.tmp 7), type := 22, pos := "law.go:23", after := #[{ on := 19, ground := Go.Ground.guard }], guard := some (19, true) }) (v := .slice A2 m cap2) rfl (by kernel_rfl) (by kernel_rfl) (by kernel_rfl) (fun _ _ _ h => h) (Or.inl ⟨by kernel_rfl, ?_⟩) hS1 ?_
  · intro w hSw; go_simp
  try simp only [Act.put, List.setIfInBounds_toArray, List.set_cons_zero, List.set_cons_succ]
  refine wpAnyH_take (i := 22) (oi := { dst := some 53, op := Go.Op.move (Go.Operand.tmp 0), type := 22, pos := "law.go:23", after := #[{ on := 19, ground := Go.Ground.guard }], guard := some (19, true) }) (v := .slice A m cap) rfl (by kernel_rfl) (by kernel_rfl) (by kernel_rfl) (fun _ _ _ h => h) (Or.inl ⟨by kernel_rfl, ?_⟩) hS1 ?_
  · intro w hSw; go_simp
  try simp only [Act.put, List.setIfInBounds_toArray, List.set_cons_zero, List.set_cons_succ]
  refine wpAnyH_take (i := 21) (oi := { dst := some 52, op := Go.Op.convert 22 9 (Go.Operand.tmp 51), type := 9, pos := "law.go:23", after := #[{ on := 20, ground := Go.Ground.data }, { on := 19, ground := Go.Ground.guard }], guard := some (19, true) }) (v := .string E) rfl (by kernel_rfl) (by kernel_rfl) (by kernel_rfl) (fun _ _ _ h => h) (Or.inl ⟨by kernel_rfl, ?_⟩) hS1 ?_
  · intro w hSw; have hcv := HC1.out w hSw; go_simp
  try simp only [Act.put, List.setIfInBounds_toArray, List.set_cons_zero, List.set_cons_succ]
  refine wpAnyH_take (i := 23) (oi := { dst := some 54, op := Go.Op.convert 22 9 (Go.Operand.tmp 53), type := 9, pos := "law.go:23", after := #[{ on := 22, ground := Go.Ground.data }, { on := 19, ground := Go.Ground.guard }], guard := some (19, true) }) (v := .string E) rfl (by kernel_rfl) (by kernel_rfl) (by kernel_rfl) (fun _ _ _ h => h) (Or.inl ⟨by kernel_rfl, ?_⟩) hS1 ?_
  · intro w hSw; have hcv := HC2.out w hSw; go_simp
  try simp only [Act.put, List.setIfInBounds_toArray, List.set_cons_zero, List.set_cons_succ]
  refine wpAnyH_take (i := 24) (oi := { dst := some 55, op := Go.Op.binOp Go.BinOp.eql 9 (Go.Operand.tmp 52) (Go.Operand.tmp 54) 9, type := 4, pos := "law.go:23", after := #[{ on := 21, ground := Go.Ground.data }, { on := 23, ground := Go.Ground.data }, { on := 19, ground := Go.Ground.guard }], guard := some (19, true) }) (v := .bool true) rfl (by kernel_rfl) (by kernel_rfl) (by kernel_rfl) (fun _ _ _ h => h) (Or.inl ⟨by kernel_rfl, ?_⟩) hS1 ?_
  · intro w hSw; go_simp
  try simp only [Act.put, List.setIfInBounds_toArray, List.set_cons_zero, List.set_cons_succ]
  refine wpAnyH_take (i := 25) (oi := { dst := some 56, op := Go.Op.pick (Go.Operand.tmp 50) (Go.Operand.tmp 55) (Go.Operand.const (Go.Value.bool false)), type := 4, pos := "law.go:23", after := #[{ on := 19, ground := Go.Ground.data }, { on := 24, ground := Go.Ground.data }], guard := none }) (v := .bool true) rfl (by kernel_rfl) (by kernel_rfl) (by kernel_rfl) (fun _ _ _ h => h) (Or.inl ⟨by kernel_rfl, ?_⟩) hS1 ?_
  · intro w hSw; go_simp
  try simp only [Act.put, List.setIfInBounds_toArray, List.set_cons_zero, List.set_cons_succ]
  refine wpAnyH_take (i := 26) (oi := { dst := some 4, op := Go.Op.assign (Go.Operand.tmp 56), type := 4, pos := "law.go:23", after := #[{ on := 25, ground := Go.Ground.data }, { on := 19, ground := Go.Ground.chain }, { on := 0, ground := Go.Ground.phase }, { on := 1, ground := Go.Ground.phase }, { on := 2, ground := Go.Ground.phase }, { on := 3, ground := Go.Ground.phase }, { on := 4, ground := Go.Ground.phase }, { on := 5, ground := Go.Ground.phase }, { on := 6, ground := Go.Ground.phase }, { on := 7, ground := Go.Ground.phase }, { on := 8, ground := Go.Ground.phase }, { on := 9, ground := Go.Ground.phase }, { on := 10, ground := Go.Ground.phase }, { on := 11, ground := Go.Ground.phase }, { on := 12, ground := Go.Ground.phase }, { on := 13, ground := Go.Ground.phase }, { on := 14, ground := Go.Ground.phase }, { on := 15, ground := Go.Ground.phase }, { on := 16, ground := Go.Ground.phase }, { on := 17, ground := Go.Ground.phase }, { on := 18, ground := Go.Ground.phase }, { on := 19, ground := Go.Ground.phase }, { on := 20, ground := Go.Ground.phase }, { on := 21, ground := Go.Ground.phase }, { on := 22, ground := Go.Ground.phase }, { on := 23, ground := Go.Ground.phase }, { on := 24, ground := Go.Ground.phase }, { on := 25, ground := Go.Ground.phase }], guard := none }) (v := .bool true) rfl (by kernel_rfl) (by kernel_rfl) (by kernel_rfl) (fun _ _ _ h => h) (Or.inl ⟨by kernel_rfl, ?_⟩) hS1 ?_
  · intro w hSw; go_simp
  try simp only [Act.put, List.setIfInBounds_toArray, List.set_cons_zero, List.set_cons_succ]
  refine wpAnyH_done (by kernel_rfl) ?_ _
  refine NoPanic.normal ?_
  go_wp2
  go_ret
  exact ⟨rfl, HL.out _ hS1⟩
theorem encodes_any (A : Option Addr) (b : List UInt8) (cap : Nat) (x : Int) (w : World) (hc : b.length ≤ cap) (hcm : cap ≤ 9223372036854775807) (hA : Lies w A b) (hx : (Lit.int .u16 x).wf = true) :
    Calls Try.prog 3 #[.slice A b.length cap, .int .u16 x] w fun e w' => e = .returned (.bool true) ∧ Below w.heap.size w w' := by
  simp [Lit.wf, IntKind.min, IntKind.max, IntKind.signed, IntKind.bits] at hx
  by_cases hn : 300 < b.length
  · exact encodes_long A b.length cap x w hn hc hcm
  · exact encodes_walk A b cap x w (by omega) hc hcm hA (by omega) (by omega)
end Go.Proofs.Ythadagnebnakhaa

