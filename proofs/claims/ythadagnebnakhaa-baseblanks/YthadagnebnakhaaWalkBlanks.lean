/-
  BaseBlanks walked: letters with a blank among them. Conditions: none.
-/
import Derived.Test.YthadagnebnakhaaBAwake
import Derived.Deep.RegionHeld3
import Derived.Deep.Cut
namespace Go.Proofs.Ythadagnebnakhaa
open Go.RowKit
set_option linter.unusedVariables false
set_option linter.unusedSimpArgs false
theorem ext_to (l : List UInt8) (k : Nat) : (ByteArray.mk l.toArray).extract 0 k = ⟨(l.take k).toArray⟩ := by
  apply ByteArray.ext
  simp [ByteArray.data_extract]
theorem ext_from (l : List UInt8) (k N : Nat) (h : l.length = N) : (ByteArray.mk l.toArray).extract k N = ⟨(l.drop k).toArray⟩ := by
  apply ByteArray.ext
  subst h
  simp [ByteArray.data_extract, List.take_of_length_le]
/-- The blanks, one text each. -/
def bls (j : Nat) : UInt8 := [32, 9, 10, 13].getD j 0
theorem bls_blank {j : Nat} (h : j < 4) : blank (bls j) = true := by
  have : j = 0 ∨ j = 1 ∨ j = 2 ∨ j = 3 := by omega
  rcases this with rfl | rfl | rfl | rfl <;> rfl
theorem bls_at {j : Nat} (h : j < 4) : ([.string ⟨#[32]⟩, .string ⟨#[9]⟩, .string ⟨#[10]⟩, .string ⟨#[13]⟩] : List Value)[j]? = some (.string ⟨#[bls j]⟩) := by
  have : j = 0 ∨ j = 1 ∨ j = 2 ∨ j = 3 := by omega
  rcases this with rfl | rfl | rfl | rfl <;> rfl
set_option maxHeartbeats 1000000 in
theorem blanks_long (A : Option Addr) (n cap : Nat) (x y : Int) (w : World) (hn : 200 < n) (hc : n ≤ cap) (hcm : cap ≤ 9223372036854775807) :
    Calls Try.prog 6 #[.slice A n cap, .int .u16 x, .int .u8 y] w fun e w' => e = .returned (.bool true) ∧ Below w.heap.size w w' := by
  have hz : (200 : Int) < n := by omega
  go_enter Try.func6, Try.ntmps6
  go_wp2_with fail
  refine (awake_any w).mono ?_
  rintro e w1 ⟨rfl, hb1⟩
  go_wp2_with fail
  refine (awake_any w1).mono ?_
  rintro e w2 ⟨rfl, hb2⟩
  go_wp2
  go_ret
  exact ⟨rfl, hb1.trans (hb2.mono hb1.size)⟩
set_option maxHeartbeats 2000000 in
set_option maxRecDepth 100000 in
theorem blanks_walk (A : Option Addr) (b : List UInt8) (cap : Nat) (x y : Int) (w : World) (hn : b.length ≤ 200) (hc : b.length ≤ cap) (hcm : cap ≤ 9223372036854775807) (hA : Lies w A b) (hx0 : 0 ≤ x) (hx1 : x < 65536) (hy0 : 0 ≤ y) (hy1 : y < 256) :
    Calls Try.prog 6 #[.slice A b.length cap, .int .u16 x, .int .u8 y] w fun e w' => e = .returned (.bool true) ∧ Below w.heap.size w w' := by
  have HA : Hid (∀ W, Below w.heap.size w W → Lies W A b) := fun W hW => hA.below hW (Nat.le_refl _)
  obtain ⟨N, hN⟩ : ∃ N, (enc b).length = N := ⟨_, rfl⟩
  have hN2 : N ≤ 1000 := by rw [← hN, enc_length]; omega
  obtain ⟨S, hS⟩ : ∃ S : ByteArray, ⟨(enc b).toArray⟩ = S := ⟨_, rfl⟩
  have hSs : S.size = N := by rw [← hS, ← hN]; rfl
  obtain ⟨k, hk1⟩ : ∃ k : Nat, x % ((N : Int) + 1) = (k : Int) := ⟨(x % ((N : Int) + 1)).toNat, by have := Int.emod_nonneg x (show (N : Int) + 1 ≠ 0 by omega); omega⟩
  have hkm : k ≤ N := by have := Int.emod_lt_of_pos x (show (0 : Int) < (N : Int) + 1 by omega); omega
  have hkt : x.tmod ((N : Int) + 1) = (k : Int) := by rw [Int.tmod_eq_emod_of_nonneg hx0]; exact hk1
  obtain ⟨j, hj1⟩ : ∃ j : Nat, y % 4 = (j : Int) := ⟨(y % 4).toNat, by omega⟩
  have hj4 : j < 4 := by omega
  have hjt : y.tmod 4 = (j : Int) := by rw [Int.tmod_eq_emod_of_nonneg hy0]; exact hj1
  have HRE : Hid (∀ W, Below w.heap.size w W → Calls Try.prog 11 #[.slice A b.length cap] W fun e w' => e = .returned (.string S) ∧ Below W.heap.size W w') := fun W hW => by
    rw [← hS]; exact refenc_any A b cap W (hA.below hW (Nat.le_refl _)) (by omega)
  have HDE : Hid (∀ W, Calls Try.prog 10 #[.string ((S.extract 0 k ++ ⟨#[bls j]⟩) ++ S.extract k N)] W fun e w' => (∃ v, e = .returned (.tuple #[v, .bool true]) ∧ w'.ownsRow W.heap.size 5 1 v b.length (u8c b)) ∧ Below W.heap.size W w') := fun W => by
    have e1 : (S.extract 0 k ++ ⟨#[bls j]⟩) ++ S.extract k N = ⟨((enc b).take k ++ [bls j] ++ (enc b).drop k).toArray⟩ := by
      rw [← hS, ext_to, ext_from _ _ _ hN, ← ByteArray.mk_append_mk, ← ByteArray.mk_append_mk]
    rw [e1]
    have hd := dec_in b k (bls_blank hj4)
    refine (decode_any _ W (by simp; omega)).mono ?_
    rintro e w' ⟨⟨b', v, hdb, rfl, hown⟩ | ⟨hdb, _⟩, hb'⟩
    · rw [hd] at hdb
      injection hdb with hdb
      subst hdb
      exact ⟨⟨v, rfl, hown⟩, hb'⟩
    · rw [hd] at hdb; cases hdb
  have HBJ := Lib.hid (bls_at hj4)
  obtain ⟨m, hM⟩ : ∃ m, b.length = m := ⟨_, rfl⟩
  have HM := Lib.hid hM
  rw [hM] at hn hc HRE ⊢
  have hz : ¬ (200 : Int) < m := by omega
  have hz1 := decide_eq_false hz
  clear hA hN hS hM
  go_enter Try.func6, Try.ntmps6
  go_wp2_with fail
  refine (awake_any w).mono ?_
  rintro e w1 ⟨rfl, hb1⟩
  go_wp2_with fail
  refine (HRE.out w1 hb1).mono ?_
  rintro e w6 ⟨rfl, hb6⟩
  have hK6 := hb1.trans (hb6.mono hb1.size)
  clear hb1 hb6 HRE
  go_upto_region 5 with fail
  obtain ⟨C, hC⟩ : ∃ C : ByteArray, ⟨#[bls j]⟩ = C := ⟨_, rfl⟩
  rw [hC] at HDE HBJ
  have hCs : C.size = 1 := by rw [← hC]; rfl
  have hp1 : (S.extract 0 k).size ≤ 1000 := by rw [ByteArray.size_extract]; omega
  have hp2 : (S.extract k N).size ≤ 1000 := by rw [ByteArray.size_extract]; omega
  have hk0 : (k : Int) ≤ (N : Int) := by omega
  clear hC hk1 hkt
  try dsimp only [Act.put]
  refine wp_region_noPanic ?_
  refine wp_region_held_drew (S := Below w.heap.size w) (by kernel_rfl) hK6.drew (fun hS1 => ?_)
  obtain ⟨wd, hwd⟩ : ∃ wd, w6.drew = wd := ⟨_, rfl⟩
  rw [hwd] at hS1 ⊢
  clear hwd hK6
  refine wpAnyH_take (i := 0) (oi := { dst := some 28, op := Go.Op.move (Go.Operand.tmp 7), type := 9, pos := "law.go:52", after := #[], guard := none }) (v := .string S) rfl (by kernel_rfl) (by kernel_rfl) (by kernel_rfl) (fun _ _ _ h => h) (Or.inl ⟨by kernel_rfl, ?_⟩) hS1 ?_
  · intro w hSw; go_simp
  try simp only [Act.put, List.setIfInBounds_toArray, List.set_cons_zero, List.set_cons_succ]
  refine wpAnyH_take (i := 1) (oi := { dst := some 29, op := Go.Op.move (Go.Operand.tmp 8), type := 3, pos := "law.go:52", after := #[], guard := none }) (v := .int .i64 (k : Int)) rfl (by kernel_rfl) (by kernel_rfl) (by kernel_rfl) (fun _ _ _ h => h) (Or.inl ⟨by kernel_rfl, ?_⟩) hS1 ?_
  · intro w hSw; go_simp
  try simp only [Act.put, List.setIfInBounds_toArray, List.set_cons_zero, List.set_cons_succ]
  refine wpAnyH_take (i := 2) (oi := { dst := some 30, op := Go.Op.slice 9 (Go.Operand.tmp 28) none (some (Go.Operand.tmp 29)) none, type := 9, pos := "law.go:52", after := #[{ on := 0, ground := Go.Ground.data }, { on := 1, ground := Go.Ground.data }], guard := none }) (v := .string (S.extract 0 k)) rfl (by kernel_rfl) (by kernel_rfl) (by kernel_rfl) (fun _ _ _ h => h) (Or.inl ⟨by kernel_rfl, ?_⟩) hS1 ?_
  · intro w hSw; go_simp
  try simp only [Act.put, List.setIfInBounds_toArray, List.set_cons_zero, List.set_cons_succ]
  refine wpAnyH_take (i := 4) (oi := { dst := some 32, op := Go.Op.move (Go.Operand.tmp 2), type := 5, pos := "law.go:52", after := #[], guard := none }) (v := .int .u8 y) rfl (by kernel_rfl) (by kernel_rfl) (by kernel_rfl) (fun _ _ _ h => h) (Or.inl ⟨by kernel_rfl, ?_⟩) hS1 ?_
  · intro w hSw; go_simp
  try simp only [Act.put, List.setIfInBounds_toArray, List.set_cons_zero, List.set_cons_succ]
  refine wpAnyH_take (i := 5) (oi := { dst := some 33, op := Go.Op.binOp Go.BinOp.rem 5 (Go.Operand.tmp 32) (Go.Operand.const (Go.Value.int Go.IntKind.u8 4)) 5, type := 5, pos := "law.go:52", after := #[{ on := 4, ground := Go.Ground.data }], guard := none }) (v := .int .u8 (j : Int)) rfl (by kernel_rfl) (by kernel_rfl) (by kernel_rfl) (fun _ _ _ h => h) (Or.inl ⟨by kernel_rfl, ?_⟩) hS1 ?_
  · intro w hSw; go_simp
  try simp only [Act.put, List.setIfInBounds_toArray, List.set_cons_zero, List.set_cons_succ]
  refine wpAnyH_take (i := 9) (oi := { dst := some 37, op := Go.Op.move (Go.Operand.tmp 7), type := 9, pos := "law.go:52", after := #[], guard := none }) (v := .string S) rfl (by kernel_rfl) (by kernel_rfl) (by kernel_rfl) (fun _ _ _ h => h) (Or.inl ⟨by kernel_rfl, ?_⟩) hS1 ?_
  · intro w hSw; go_simp
  try simp only [Act.put, List.setIfInBounds_toArray, List.set_cons_zero, List.set_cons_succ]
  refine wpAnyH_take (i := 10) (oi := { dst := some 38, op := Go.Op.move (Go.Operand.tmp 8), type := 3, pos := "law.go:52", after := #[], guard := none }) (v := .int .i64 (k : Int)) rfl (by kernel_rfl) (by kernel_rfl) (by kernel_rfl) (fun _ _ _ h => h) (Or.inl ⟨by kernel_rfl, ?_⟩) hS1 ?_
  · intro w hSw; go_simp
  try simp only [Act.put, List.setIfInBounds_toArray, List.set_cons_zero, List.set_cons_succ]
  refine wpAnyH_take (i := 11) (oi := { dst := some 39, op := Go.Op.slice 9 (Go.Operand.tmp 37) (some (Go.Operand.tmp 38)) none none, type := 9, pos := "law.go:52", after := #[{ on := 9, ground := Go.Ground.data }, { on := 10, ground := Go.Ground.data }], guard := none }) (v := .string (S.extract k N)) rfl (by kernel_rfl) (by kernel_rfl) (by kernel_rfl) (fun _ _ _ h => h) (Or.inl ⟨by kernel_rfl, ?_⟩) hS1 ?_
  · intro w hSw; go_simp
  try simp only [Act.put, List.setIfInBounds_toArray, List.set_cons_zero, List.set_cons_succ]
  refine wpAnyH_ready (rs := [3]) (by kernel_rfl) (by simp) ?_
  refine AllReadyH.cons (o := { dst := some 31, op := Go.Op.buildSlice 32 4 #[(0, Go.Operand.const (Go.Value.string { data := #[32] })), (1, Go.Operand.const (Go.Value.string { data := #[9] })), (2, Go.Operand.const (Go.Value.string { data := #[10] })), (3, Go.Operand.const (Go.Value.string { data := #[13] }))], type := 32, pos := "law.go:52", after := #[], guard := none }) rfl (fun K hK => ?_) AllReadyH.nil
  go_simp
  have hSm : Below w.heap.size w (wd.alloc (.cells ([.string ⟨#[32]⟩, .string ⟨#[9]⟩, .string ⟨#[10]⟩, .string ⟨#[13]⟩] : List Value).toArray 9)) := hS1.alloc hS1.size _
  have cj : (wd.alloc (.cells ([.string ⟨#[32]⟩, .string ⟨#[9]⟩, .string ⟨#[10]⟩, .string ⟨#[13]⟩] : List Value).toArray 9)).cell? ⟨wd.heap.size, j, none⟩ = some (.string C) := (Holds.cell (Holds.fresh wd _ _) j).trans HBJ.out
  refine hK.out _ _ hSm (fun _ => ?_)
  clear hK K
  try simp only [Act.put, List.setIfInBounds_toArray, List.set_cons_zero, List.set_cons_succ]
  generalize wd.alloc (.cells ([.string ⟨#[32]⟩, .string ⟨#[9]⟩, .string ⟨#[10]⟩, .string ⟨#[13]⟩] : List Value).toArray 9) = wa at *
  generalize wd.heap.size = g at *
  replace hS1 := hSm
  refine wpAnyH_take (i := 6) (oi := { dst := some 34, op := Go.Op.indexAddr 32 (Go.Operand.tmp 31) (Go.Operand.tmp 33), type := 0, pos := "law.go:52", after := #[{ on := 3, ground := Go.Ground.data }, { on := 5, ground := Go.Ground.data }], guard := none }) (v := .pointer (some ⟨g, j, none⟩)) rfl (by kernel_rfl) (by kernel_rfl) (by kernel_rfl) (fun _ _ _ h => h) (Or.inl ⟨by kernel_rfl, ?_⟩) hS1 ?_
  · intro w hSw; go_simp; intro h; omega
  try simp only [Act.put, List.setIfInBounds_toArray, List.set_cons_zero, List.set_cons_succ]
  refine wpAnyH_ready (rs := [7]) (by kernel_rfl) (by simp) ?_
  refine AllReadyH.cons (o := { dst := some 35, op := Go.Op.load 9 (Go.Operand.tmp 34), type := 9, pos := "law.go:52", after := #[{ on := 6, ground := Go.Ground.data }], guard := none }) rfl (fun K hK => ?_) AllReadyH.nil
  go_simp
  refine hK.out _ _ hS1 (fun _ => ?_)
  clear hK K
  try simp only [Act.put, List.setIfInBounds_toArray, List.set_cons_zero, List.set_cons_succ]
  refine wpAnyH_take (i := 8) (oi := { dst := some 36, op := Go.Op.binOp Go.BinOp.add 9 (Go.Operand.tmp 30) (Go.Operand.tmp 35) 9, type := 9, pos := "law.go:52", after := #[{ on := 2, ground := Go.Ground.data }, { on := 7, ground := Go.Ground.data }], guard := none }) (v := .string (S.extract 0 k ++ C)) rfl (by kernel_rfl) (by kernel_rfl) (by kernel_rfl) (fun _ _ _ h => h) (Or.inl ⟨by kernel_rfl, ?_⟩) hS1 ?_
  · intro w hSw; go_simp; omega
  try simp only [Act.put, List.setIfInBounds_toArray, List.set_cons_zero, List.set_cons_succ]
  refine wpAnyH_take (i := 12) (oi := { dst := some 40, op := Go.Op.binOp Go.BinOp.add 9 (Go.Operand.tmp 36) (Go.Operand.tmp 39) 9, type := 9, pos := "law.go:52", after := #[{ on := 8, ground := Go.Ground.data }, { on := 11, ground := Go.Ground.data }], guard := none }) (v := .string ((S.extract 0 k ++ C) ++ S.extract k N)) rfl (by kernel_rfl) (by kernel_rfl) (by kernel_rfl) (fun _ _ _ h => h) (Or.inl ⟨by kernel_rfl, ?_⟩) hS1 ?_
  · intro w hSw; go_simp; omega
  try simp only [Act.put, List.setIfInBounds_toArray, List.set_cons_zero, List.set_cons_succ]
  refine wpAnyH_ready (rs := [13]) (by kernel_rfl) (by simp) ?_
  refine AllReadyH.cons (o := { dst := some 41, op := Go.Op.call { callee := Go.Callee.value (Go.Operand.func 10), args := #[Go.Operand.tmp 40], argTypes := #[9] }, type := 26, pos := "law.go:52", after := #[{ on := 12, ground := Go.Ground.data }], guard := none }) rfl (fun K hK => ?_) AllReadyH.nil
  go_simp
  refine (HDE.out wa).mono ?_
  rintro e wb ⟨⟨v, rfl, hown⟩, hbc⟩
  have hSb := hS1.trans (hbc.mono hS1.size)
  dsimp only
  refine hK.out _ _ hSb (fun _ => ?_)
  clear hK K
  try simp only [Act.put, List.setIfInBounds_toArray, List.set_cons_zero, List.set_cons_succ]
  replace hS1 := hSb
  refine wpAnyH_take (i := 14) (oi := { dst := some 27, op := Go.Op.move (Go.Operand.tmp 41), type := 26, pos := "law.go:52", after := #[{ on := 13, ground := Go.Ground.data }], guard := none }) (v := .tuple #[v, .bool true]) rfl (by kernel_rfl) (by kernel_rfl) (by kernel_rfl) (fun _ _ _ h => h) (Or.inl ⟨by kernel_rfl, ?_⟩) hS1 ?_
  · intro w hSw; go_simp
  try simp only [Act.put, List.setIfInBounds_toArray, List.set_cons_zero, List.set_cons_succ]
  refine wpAnyH_take (i := 15) (oi := { dst := some 42, op := Go.Op.extract (Go.Operand.tmp 27) 0, type := 22, pos := "law.go:52", after := #[{ on := 14, ground := Go.Ground.data }], guard := none }) (v := v) rfl (by kernel_rfl) (by kernel_rfl) (by kernel_rfl) (fun _ _ _ h => h) (Or.inl ⟨by kernel_rfl, ?_⟩) hS1 ?_
  · intro w hSw; go_simp
  try simp only [Act.put, List.setIfInBounds_toArray, List.set_cons_zero, List.set_cons_succ]
  refine wpAnyH_take (i := 16) (oi := { dst := some 43, op := Go.Op.extract (Go.Operand.tmp 27) 1, type := 4, pos := "law.go:52", after := #[{ on := 14, ground := Go.Ground.data }, { on := 17, ground := Go.Ground.gcOnly Go.Departure.lateStores }], guard := none }) (v := .bool true) rfl (by kernel_rfl) (by kernel_rfl) (by kernel_rfl) (fun _ _ _ h => h) (Or.inl ⟨by kernel_rfl, ?_⟩) hS1 ?_
  · intro w hSw; go_simp
  try simp only [Act.put, List.setIfInBounds_toArray, List.set_cons_zero, List.set_cons_succ]
  refine wpAnyH_take (i := 17) (oi := { dst := some 9, op := Go.Op.assign (Go.Operand.tmp 42), type := 22, pos := "law.go:52", after := #[{ on := 15, ground := Go.Ground.data }, { on := 13, ground := Go.Ground.chain }, { on := 0, ground := Go.Ground.phase }, { on := 1, ground := Go.Ground.phase }, { on := 2, ground := Go.Ground.phase }, { on := 3, ground := Go.Ground.phase }, { on := 4, ground := Go.Ground.phase }, { on := 5, ground := Go.Ground.phase }, { on := 6, ground := Go.Ground.phase }, { on := 7, ground := Go.Ground.phase }, { on := 8, ground := Go.Ground.phase }, { on := 9, ground := Go.Ground.phase }, { on := 10, ground := Go.Ground.phase }, { on := 11, ground := Go.Ground.phase }, { on := 12, ground := Go.Ground.phase }, { on := 13, ground := Go.Ground.phase }, { on := 14, ground := Go.Ground.phase }, { on := 15, ground := Go.Ground.phase }, { on := 16, ground := Go.Ground.textOnly Go.Departure.lateStores }], guard := none }) (v := v) rfl (by kernel_rfl) (by kernel_rfl) (by kernel_rfl) (fun _ _ _ h => h) (Or.inl ⟨by kernel_rfl, ?_⟩) hS1 ?_
  · intro w hSw; go_simp
  try simp only [Act.put, List.setIfInBounds_toArray, List.set_cons_zero, List.set_cons_succ]
  refine wpAnyH_take (i := 18) (oi := { dst := some 10, op := Go.Op.assign (Go.Operand.tmp 43), type := 4, pos := "law.go:52", after := #[{ on := 16, ground := Go.Ground.data }, { on := 17, ground := Go.Ground.chain }, { on := 0, ground := Go.Ground.phase }, { on := 1, ground := Go.Ground.phase }, { on := 2, ground := Go.Ground.phase }, { on := 3, ground := Go.Ground.phase }, { on := 4, ground := Go.Ground.phase }, { on := 5, ground := Go.Ground.phase }, { on := 6, ground := Go.Ground.phase }, { on := 7, ground := Go.Ground.phase }, { on := 8, ground := Go.Ground.phase }, { on := 9, ground := Go.Ground.phase }, { on := 10, ground := Go.Ground.phase }, { on := 11, ground := Go.Ground.phase }, { on := 12, ground := Go.Ground.phase }, { on := 13, ground := Go.Ground.phase }, { on := 14, ground := Go.Ground.phase }, { on := 15, ground := Go.Ground.phase }, { on := 16, ground := Go.Ground.phase }, { on := 17, ground := Go.Ground.phase }], guard := none }) (v := .bool true) rfl (by kernel_rfl) (by kernel_rfl) (by kernel_rfl) (fun _ _ _ h => h) (Or.inl ⟨by kernel_rfl, ?_⟩) hS1 ?_
  · intro w hSw; go_simp
  try simp only [Act.put, List.setIfInBounds_toArray, List.set_cons_zero, List.set_cons_succ]
  refine wpAnyH_done (by kernel_rfl) ?_ _
  refine NoPanic.normal ?_
  obtain ⟨A2, cap2, hv, _, _, _, hli2⟩ := own_full hown rfl
  have hc1 := conv_lies cap2 hli2
  have hc2 := conv_lies cap (HA.out wb hS1)
  rw [HM.out] at hc1 hc2 hv
  subst hv
  generalize (⟨b.toArray⟩ : ByteArray) = E at *
  clear hown hli2 HDE
  go_wp2
  go_ret
  exact ⟨rfl, hS1⟩
theorem blanks_law (A : Option Addr) (b : List UInt8) (cap : Nat) (x y : Int) (w : World) (hc : b.length ≤ cap) (hcm : cap ≤ 9223372036854775807) (hA : Lies w A b) (hx : (Lit.int .u16 x).wf = true) (hy : (Lit.int .u8 y).wf = true) :
    Calls Try.prog 6 #[.slice A b.length cap, .int .u16 x, .int .u8 y] w fun e w' => e = .returned (.bool true) ∧ Below w.heap.size w w' := by
  simp [Lit.wf, IntKind.min, IntKind.max, IntKind.signed, IntKind.bits] at hx hy
  by_cases hn : 200 < b.length
  · exact blanks_long A b.length cap x y w hn hc hcm
  · exact blanks_walk A b cap x y w (by omega) hc hcm hA (by omega) (by omega) (by omega) (by omega)
end Go.Proofs.Ythadagnebnakhaa

