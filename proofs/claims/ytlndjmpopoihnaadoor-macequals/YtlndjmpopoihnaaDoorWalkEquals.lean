/-
  MacEquals walked: bytes are told to be the same just if they are. Conditions: the tables lie as they were laid.
-/
import Derived.Test.YtlndjmpopoihnaaDoorAppK
import Derived.Test.YtlndjmpopoihnaaDoorAwake
import Derived.Deep.RegionHeld3
namespace Go.Proofs.YtlndjmpopoihnaaDoor
open Go.RowKit
set_option linter.unusedVariables false
set_option linter.unusedSimpArgs false
theorem v_inc (x : UInt8) : IntKind.u8.wrap (v8 x + 1) = v8 (x + 1) := by
  unfold v8; rw [IntKind.wrap_u8', UInt8.toNat_add]; simp
theorem v_inc' (x : UInt8) : (v8 x + 1) % 256 = v8 (x + 1) := by rw [← v_inc, IntKind.wrap_u8']
theorem inc_ne (x : UInt8) : x + 1 ≠ x := by
  intro h
  have := congrArg UInt8.toNat h
  rw [UInt8.toNat_add] at this
  have h2 := x.toNat_lt
  simp at this
  omega
theorem set_ne {l : List UInt8} {i : Nat} (h : i < l.length) : decide (l = l.set i (l.getD i 0 + 1)) = false := by
  apply decide_eq_false
  intro e
  have := congrArg (fun m => m.getD i 0) e
  simp only [List.getD_eq_getElem?_getD, List.getElem?_set_self h, Option.getD_some] at this
  exact inc_ne _ this.symm
theorem cons_ne (l : List UInt8) : decide (l = 0 :: l) = false := by
  apply decide_eq_false
  intro e
  have := congrArg List.length e
  simp at this
attribute [local go_sem] v_inc v_inc'
set_option maxHeartbeats 1000000 in
theorem equals_long (A : Option Addr) (n cap : Nat) (B : Option Addr) (m cap' : Nat) (x : Int) (w : World) (hT : Tabs w) (hn : 500 < n ∨ (n ≤ 500 ∧ 500 < m)) (hc : n ≤ cap) (hcm : cap ≤ 9223372036854775807) (hc' : m ≤ cap') (hcm' : cap' ≤ 9223372036854775807) :
    Calls Tryd.prog 5 #[.slice A n cap, .slice B m cap', .int .u16 x] w fun e w' => e = .returned (.bool true) ∧ Below w.heap.size w w' := by
  have HT := Lib.hid hT
  clear hT
  rcases hn with hn | ⟨hn, hm⟩
  all_goals
    first
      | have hz : (500 : Int) < n := by omega
      | (have hz : ¬ (500 : Int) < n := by omega
         have hz1 := decide_eq_false hz
         have hz2 : (500 : Int) < m := by omega)
    go_enter Tryd.func5, Tryd.ntmps5
    go_wp2_with fail
    refine (awake_any w HT.out).mono ?_
    rintro e w1 ⟨rfl, hb1⟩
    go_wp2_with fail
    refine (awake_any w1 (HT.out.below hb1 HT.out.two)).mono ?_
    rintro e w2 ⟨rfl, hb2⟩
    go_wp2
    go_ret
    exact ⟨rfl, hb1.trans (hb2.mono hb1.size)⟩
set_option maxHeartbeats 2000000 in
set_option maxRecDepth 100000 in
theorem equals_walk (A : Option Addr) (a : List UInt8) (cap : Nat) (B : Option Addr) (b : List UInt8) (cap' : Nat) (x : Int) (w : World) (hT : Tabs w) (hn : a.length ≤ 500) (hm : b.length ≤ 500)
    (hc : a.length ≤ cap) (hcm : cap ≤ 9223372036854775807) (hA0 : A = none → cap = 0) (hA : Lies w A a) (hc' : b.length ≤ cap') (hcm' : cap' ≤ 9223372036854775807) (hB : Lies w B b) (hx0 : 0 ≤ x) (hx1 : x < 65536) :
    Calls Tryd.prog 5 #[.slice A a.length cap, .slice B b.length cap', .int .u16 x] w fun e w' => e = .returned (.bool true) ∧ Below w.heap.size w w' := by
  have HT := Lib.hid hT
  have HA0 := Lib.hid hA0
  have HA : Hid (∀ W, Below w.heap.size w W → Lies W A a) := fun W hW => hA.below hW (Nat.le_refl _)
  have HB : Hid (∀ W, Below w.heap.size w W → Lies W B b) := fun W hW => hB.below hW (Nat.le_refl _)
  clear hT hA hB hA0
  obtain ⟨n, hN⟩ : ∃ n, a.length = n := ⟨_, rfl⟩
  obtain ⟨m, hM⟩ : ∃ m, b.length = m := ⟨_, rfl⟩
  rw [hN] at hn hc ⊢
  rw [hM] at hm hc' ⊢
  have HN := Lib.hid hN
  have HM := Lib.hid hM
  have hz : ¬ (500 : Int) < n := by omega
  have hz1 := decide_eq_false hz
  have hy : ¬ (500 : Int) < m := by omega
  have hy1 := decide_eq_false hy
  by_cases h0 : n = 0
  all_goals
    have HNM := Lib.hid (And.intro hN hM)
    clear hN hM
    first
      | (have h00 : decide ((0 : Int) < (n : Int)) = false := by simp; omega
         have h01 : decide (0 < n) = false := by simp; omega
         clear h0
         go_enter Tryd.func5, Tryd.ntmps5
         go_wp2_with fail
         refine (awake_any w HT.out).mono ?_
         rintro e w6 ⟨rfl, hb6⟩
         go_upto_region 8 with fail)
      | (have h00 : (0 : Int) < (n : Int) := by omega
         have h01 : 0 < n := by omega
         obtain ⟨i, hi⟩ : ∃ i : Nat, x % (n : Int) = (i : Int) := ⟨(x % (n : Int)).toNat, by have := Int.emod_nonneg x (show (n : Int) ≠ 0 by omega); omega⟩
         have hin : i < n := by have := Int.emod_lt_of_pos x (show (0 : Int) < (n : Int) by omega); omega
         have hti : x.tmod (n : Int) = (i : Int) := by rw [Int.tmod_eq_emod_of_nonneg hx0]; exact hi
         clear h0
         go_enter Tryd.func5, Tryd.ntmps5
         go_wp2_with fail
         refine (awake_any w HT.out).mono ?_
         rintro e w1 ⟨rfl, hb1⟩
         have HOWN := Lib.hid (own_new w1 [] (by simp))
         have HL1 : Hid (∀ O, Lies (w1.alloc O) A a) := fun O => HA.out _ (hb1.alloc hb1.size O)
         have HL2 : Hid (([] : List UInt8).length + n ≤ 1000000000000) := by unfold Hid; simp; omega
         go_upto_region 5 with (refine app_list rfl (.tmp 24) (.tmp 25) rfl w1.heap.size [] _ rfl HOWN.out (by simp) A n cap a rfl HN.out HA0.out (HL1.out _) HL2.out ?_; intro v2 w2 hO2 hg2)
         rw [List.nil_append] at hO2
         have hb2 : Below w.heap.size w w2 := (hb1.alloc hb1.size _).trans ((below_own HOWN.out hg2 (by simp)).mono hb1.size)
         obtain ⟨hl2, h2 | ⟨g, cc, cur, rfl, hg', hh, hnn, hcc, hsz, ht⟩⟩ := hO2
         · exact absurd h2.2 (by rw [HN.out]; omega)
         rw [HN.out]
         rw [HN.out] at hnn ht
         rw [Nat.mul_one] at ht
         have hH : Holds w2 g 5 cur.toList := by unfold Holds; simpa using hh
         have hila : i < a.length := by rw [HN.out]; exact hin
         have c0 : w2.cell? ⟨g, i, none⟩ = some (.int .u8 (v8 (a.getD i 0))) := by
           rw [hH.cell, ← u8c_at hila, ← ht, List.getElem?_take_of_lt hin]
         have f0 : w2.frozen? ⟨g, i, none⟩ = false := hH.soft i
         have HEQ0 : Hid (Calls Tryd.prog 11 #[.slice A n cap, .slice (some ⟨g, 0, none⟩) n cc] (w2.setCell ⟨g, i, none⟩ (.int .u8 (v8 (a.getD i 0 + 1)))) fun e w' => e = .returned (.bool false) ∧ Below w.heap.size w w') := by
           have hbs : Below w.heap.size w (w2.setCell ⟨g, i, none⟩ (.int .u8 (v8 (a.getD i 0 + 1)))) := hb2.setCell (by show w.heap.size ≤ g; have := hb1.size; omega) _
           have hH3 := hH.put i (.int .u8 (v8 (a.getD i 0 + 1)))
           have h := equal_any A a cap (some ⟨g, 0, none⟩) (a.set i (a.getD i 0 + 1)) cc (w2.setCell ⟨g, i, none⟩ (.int .u8 (v8 (a.getD i 0 + 1)))) (HA.out _ hbs) (fun _ => ⟨g, 0, rfl, hH3.lt, fun j v hv => by
             have hj : j < n := by
               have := (List.getElem?_eq_some_iff.1 hv).1
               rwa [u8c_length, List.length_set, HN.out] at this
             rw [Nat.zero_add, hH3.cell, ← hv]
             unfold u8c
             rw [List.map_set, show a.map (fun b => Value.int .u8 (v8 b)) = u8c a from rfl, ← ht, ← List.take_set, List.getElem?_take_of_lt hj]⟩) (by rw [HN.out]; omega) (by rw [List.length_set, HN.out]; omega)
           rw [set_ne hila, List.length_set, HN.out] at h
           exact h.mono fun e w' hh => ⟨hh.1, hh.2 ▸ hbs⟩
         generalize a.getD i 0 = y at *
         clear hl2 hh hsz ht hH hg2 HOWN HL1 HL2 hb2 hb1 hg' hnn hcc hila
         go_wp2_with fail
         refine HEQ0.out.mono ?_
         rintro e w6 ⟨rfl, hb6⟩
         clear HEQ0 c0 f0
         go_upto_region 8 with fail)
    have hHA : ∀ W : World, Below w6.heap.size w6 W → Lies W A a := fun W hW => HA.out W (hb6.trans (hW.mono hb6.size))
    have hHB : ∀ W : World, Below w6.heap.size w6 W → Lies W B b := fun W hW => HB.out W (hb6.trans (hW.mono hb6.size))
    have hLN := HN.out
    have hLM := HM.out
    obtain ⟨d, hd⟩ : ∃ d, decide (a = b) = d := ⟨_, rfl⟩
    have HEQ : Hid (∀ W : World, Below w6.heap.size w6 W → Calls Tryd.prog 11 #[.slice A n cap, .slice B m cap'] W fun e w' => e = .returned (.bool d) ∧ W = w') := fun W hW => by
      have h := equal_any A a cap B b cap' W (hHA W hW) (hHB W hW) (by omega) (by omega)
      rw [hLN, hLM, hd] at h
      exact h
    have HE2 : Hid (∀ (W : World) (A1 : Option Addr) (c1 : Nat), Below w6.heap.size w6 W → Lies W A1 a → Calls Tryd.prog 11 #[.slice A n cap, .slice A1 n c1] W fun e w' => e = .returned (.bool true) ∧ W = w') := fun W A1 c1 hW hl => by
      have h := equal_any A a cap A1 a c1 W (hHA W hW) hl (by omega) (by omega)
      rw [hLN, decide_eq_true (rfl : a = a)] at h
      exact h
    have HE3 : Hid (∀ (W : World) (A1 : Option Addr) (c1 : Nat), Below w6.heap.size w6 W → Lies W A1 (0 :: a) → Calls Tryd.prog 11 #[.slice A n cap, .slice A1 (n + 1) c1] W fun e w' => e = .returned (.bool false) ∧ W = w') := fun W A1 c1 hW hl => by
      have h := equal_any A a cap A1 (0 :: a) c1 W (hHA W hW) hl (by omega) (by rw [List.length_cons]; omega)
      rw [List.length_cons, hLN, cons_ne] at h
      exact h
    obtain ⟨SA, hSA⟩ : ∃ SA : ByteArray, ⟨a.toArray⟩ = SA := ⟨_, rfl⟩
    obtain ⟨SB, hSB⟩ : ∃ SB : ByteArray, ⟨b.toArray⟩ = SB := ⟨_, rfl⟩
    have cA : ∀ W : World, Below w6.heap.size w6 W → (convert 22 9 (.slice A n cap)).run Tryd.prog W = .ok (.string SA) W := fun W hW => by
      have h := conv_lies cap (hHA W hW)
      rw [hLN, hSA] at h
      exact h
    have cB : ∀ W : World, Below w6.heap.size w6 W → (convert 22 9 (.slice B m cap')).run Tryd.prog W = .ok (.string SB) W := fun W hW => by
      have h := conv_lies cap' (hHB W hW)
      rw [hLM, hSB] at h
      exact h
    have HCA := Lib.hid cA
    have HCB := Lib.hid cB
    have hse : (SA.toList == SB.toList) = d := by
      rw [← hSA, ← hSB, ← hd, ByteArray.toList_eq, ByteArray.toList_eq]
      show (a == b) = decide (a = b)
      by_cases h : a = b
      · rw [decide_eq_true h, h]; exact beq_self_eq_true b
      · rw [decide_eq_false h]; exact beq_eq_false_iff_ne.2 h
    have HHA := Lib.hid hHA
    have hS0 : Below w6.heap.size w6 w6 := Below.refl _ _
    clear hd hSA hSB cA cB hHA hHB hLN hLM HA HB HM HNM HT
    refine wp_region_noPanic ?_
    refine wp_region_held_drew (S := fun w' => Below w6.heap.size w6 w') (by kernel_rfl) hS0.drew (fun hS1 => ?_)
    refine wpAnyH_take (i := 0) (oi := { dst := some 40, op := Go.Op.move (Go.Operand.tmp 0), type := 22, pos := "law.go:54", after := #[], guard := none }) (v := .slice A n cap) rfl (by kernel_rfl) (by kernel_rfl) (by kernel_rfl) (fun _ _ _ h => h) (Or.inl ⟨by kernel_rfl, ?_⟩) hS1 ?_
    · intro w hSw; go_simp
    try simp only [Act.put, List.setIfInBounds_toArray, List.set_cons_zero, List.set_cons_succ]
    refine wpAnyH_take (i := 1) (oi := { dst := some 41, op := Go.Op.move (Go.Operand.tmp 1), type := 22, pos := "law.go:54", after := #[], guard := none }) (v := .slice B m cap') rfl (by kernel_rfl) (by kernel_rfl) (by kernel_rfl) (fun _ _ _ h => h) (Or.inl ⟨by kernel_rfl, ?_⟩) hS1 ?_
    · intro w hSw; go_simp
    try simp only [Act.put, List.setIfInBounds_toArray, List.set_cons_zero, List.set_cons_succ]
    refine wpAnyH_take (i := 3) (oi := { dst := some 43, op := Go.Op.move (Go.Operand.tmp 0), type := 22, pos := "law.go:54", after := #[], guard := none }) (v := .slice A n cap) rfl (by kernel_rfl) (by kernel_rfl) (by kernel_rfl) (fun _ _ _ h => h) (Or.inl ⟨by kernel_rfl, ?_⟩) hS1 ?_
    · intro w hSw; go_simp
    try simp only [Act.put, List.setIfInBounds_toArray, List.set_cons_zero, List.set_cons_succ]
    refine wpAnyH_take (i := 5) (oi := { dst := some 45, op := Go.Op.move (Go.Operand.tmp 1), type := 22, pos := "law.go:54", after := #[], guard := none }) (v := .slice B m cap') rfl (by kernel_rfl) (by kernel_rfl) (by kernel_rfl) (fun _ _ _ h => h) (Or.inl ⟨by kernel_rfl, ?_⟩) hS1 ?_
    · intro w hSw; go_simp
    try simp only [Act.put, List.setIfInBounds_toArray, List.set_cons_zero, List.set_cons_succ]
    refine wpAnyH_take (i := 4) (oi := { dst := some 44, op := Go.Op.convert 22 9 (Go.Operand.tmp 43), type := 9, pos := "law.go:54", after := #[{ on := 3, ground := Go.Ground.data }], guard := none }) (v := .string SA) rfl (by kernel_rfl) (by kernel_rfl) (by kernel_rfl) (fun _ _ _ h => h) (Or.inl ⟨by kernel_rfl, ?_⟩) hS1 ?_
    · intro w hSw; have hcv := HCA.out w hSw; go_simp
    try simp only [Act.put, List.setIfInBounds_toArray, List.set_cons_zero, List.set_cons_succ]
    refine wpAnyH_take (i := 6) (oi := { dst := some 46, op := Go.Op.convert 22 9 (Go.Operand.tmp 45), type := 9, pos := "law.go:54", after := #[{ on := 5, ground := Go.Ground.data }], guard := none }) (v := .string SB) rfl (by kernel_rfl) (by kernel_rfl) (by kernel_rfl) (fun _ _ _ h => h) (Or.inl ⟨by kernel_rfl, ?_⟩) hS1 ?_
    · intro w hSw; have hcv := HCB.out w hSw; go_simp
    try simp only [Act.put, List.setIfInBounds_toArray, List.set_cons_zero, List.set_cons_succ]
    refine wpAnyH_take (i := 7) (oi := { dst := some 47, op := Go.Op.binOp Go.BinOp.eql 9 (Go.Operand.tmp 44) (Go.Operand.tmp 46) 9, type := 4, pos := "law.go:54", after := #[{ on := 4, ground := Go.Ground.data }, { on := 6, ground := Go.Ground.data }], guard := none }) (v := .bool d) rfl (by kernel_rfl) (by kernel_rfl) (by kernel_rfl) (fun _ _ _ h => h) (Or.inl ⟨by kernel_rfl, ?_⟩) hS1 ?_
    · intro w hSw; go_simp
    try simp only [Act.put, List.setIfInBounds_toArray, List.set_cons_zero, List.set_cons_succ]
    refine wpAnyH_ready (rs := [2]) (by kernel_rfl) (by simp) ?_
    refine AllReadyH.cons (o := { dst := some 42, op := Go.Op.call { callee := Go.Callee.value (Go.Operand.func 11), args := #[Go.Operand.tmp 40, Go.Operand.tmp 41], argTypes := #[22, 22] }, type := 4, pos := "law.go:54", after := #[{ on := 0, ground := Go.Ground.data }, { on := 1, ground := Go.Ground.data }], guard := none }) rfl (fun K hK => ?_) AllReadyH.nil
    go_simp
    (with_reducible refine (HEQ.out _ hS1).mono ?_)
    rintro e w7 ⟨rfl, rfl⟩
    dsimp only
    refine hK.out _ _ hS1 (fun _ => ?_)
    clear hK K
    try simp only [Act.put, List.setIfInBounds_toArray, List.set_cons_zero, List.set_cons_succ]
    refine wpAnyH_take (i := 8) (oi := { dst := some 48, op := Go.Op.binOp Go.BinOp.eql 4 (Go.Operand.tmp 42) (Go.Operand.tmp 47) 4, type := 4, pos := "law.go:54", after := #[{ on := 2, ground := Go.Ground.data }, { on := 7, ground := Go.Ground.data }], guard := none }) (v := .bool true) rfl (by kernel_rfl) (by kernel_rfl) (by kernel_rfl) (fun _ _ _ h => h) (Or.inl ⟨by kernel_rfl, ?_⟩) hS1 ?_
    · intro w hSw; go_simp
    try simp only [Act.put, List.setIfInBounds_toArray, List.set_cons_zero, List.set_cons_succ]
    refine wpAnyH_take (i := 9) (oi := { dst := some 49, op := Go.Op.move (Go.Operand.tmp 48), type := 4, pos := "law.go:54", after := #[{ on := 8, ground := Go.Ground.data }, { on := 2, ground := Go.Ground.chain }], guard := none }) (v := .bool true) rfl (by kernel_rfl) (by kernel_rfl) (by kernel_rfl) (fun _ _ _ h => h) (Or.inl ⟨by kernel_rfl, ?_⟩) hS1 ?_
    · intro w hSw; go_simp
    try simp only [Act.put, List.setIfInBounds_toArray, List.set_cons_zero, List.set_cons_succ]
    refine wpAnyH_take (i := 10) (oi := { dst := some 50, op := Go.Op.move (Go.Operand.tmp 0), type := 22, pos := "law.go:54", after := #[{ on := 9, ground := Go.Ground.guard }], guard := some (9, true) }) (v := .slice A n cap) rfl (by kernel_rfl) (by kernel_rfl) (by kernel_rfl) (fun _ _ _ h => h) (Or.inl ⟨by kernel_rfl, ?_⟩) hS1 ?_
    · intro w hSw; go_simp
    try simp only [Act.put, List.setIfInBounds_toArray, List.set_cons_zero, List.set_cons_succ]
    refine wpAnyH_take (i := 12) (oi := { dst := some 52, op := Go.Op.move (Go.Operand.tmp 0), type := 22, pos := "law.go:54", after := #[{ on := 9, ground := Go.Ground.guard }], guard := some (9, true) }) (v := .slice A n cap) rfl (by kernel_rfl) (by kernel_rfl) (by kernel_rfl) (fun _ _ _ h => h) (Or.inl ⟨by kernel_rfl, ?_⟩) hS1 ?_
    · intro w hSw; go_simp
    try simp only [Act.put, List.setIfInBounds_toArray, List.set_cons_zero, List.set_cons_succ]
    refine wpAnyH_ready (rs := [11]) (by kernel_rfl) (by simp) ?_
    refine AllReadyH.cons (o := { dst := some 51, op := Go.Op.buildSlice 22 0 #[], type := 22, pos := "law.go:54", after := #[{ on := 9, ground := Go.Ground.guard }], guard := some (9, true) }) rfl (fun K hK => ?_) AllReadyH.nil
    go_simp
    have hS2 := hS1.alloc (Nat.le_refl _) (.cells #[] 5)
    refine hK.out _ _ hS2 (fun _ => ?_)
    clear hK K
    try simp only [Act.put, List.setIfInBounds_toArray, List.set_cons_zero, List.set_cons_succ]
    refine wpAnyH_ready (rs := [13]) (by kernel_rfl) (by simp) ?_
    refine AllReadyH.cons (o := { dst := some 53, op := Go.Op.call { callee := Go.Callee.builtin Go.Builtin.append, args := #[Go.Operand.tmp 51, Go.Operand.tmp 52], argTypes := #[22, 22] }, type := 22, pos := "law.go:54", after := #[{ on := 11, ground := Go.Ground.data }, { on := 12, ground := Go.Ground.data }, { on := 9, ground := Go.Ground.chain }, { on := 9, ground := Go.Ground.guard }], guard := some (9, true) }) rfl (fun K hK => ?_) AllReadyH.nil
    rw [if_pos (by kernel_rfl)]
    have hO : (w6.alloc (.cells #[] 5)).drew.ownsRow w6.heap.size 5 1 (.slice (some ⟨w6.heap.size, 0, none⟩) 0 0) 0 (u8c []) := own_new w6 [] (by simp)
    refine app_wp (.tmp 51) (.tmp 52) rfl w6.heap.size [] _ rfl hO (by simp) A n cap a rfl HN.out HA0.out (HHA.out _ hS2) (by simp; omega) (fun v8 w8 hO8 hg8 => ?_)
    have hS3 := hS2.trans ((below_own hO hg8 (by simp)).mono (Nat.le_refl _))
    obtain ⟨A1, c1, rfl, hl1⟩ := own_at (k := n) hO8 (by simp [HN.out])
    clear hO hO8 hg8
    refine hK.out _ _ hS3 (fun _ => ?_)
    clear hK K
    try simp only [Act.put, List.setIfInBounds_toArray, List.set_cons_zero, List.set_cons_succ]
    refine wpAnyH_ready (rs := [14]) (by kernel_rfl) (by simp) ?_
    refine AllReadyH.cons (o := { dst := some 54, op := Go.Op.call { callee := Go.Callee.value (Go.Operand.func 11), args := #[Go.Operand.tmp 50, Go.Operand.tmp 53], argTypes := #[22, 22] }, type := 4, pos := "law.go:54", after := #[{ on := 10, ground := Go.Ground.data }, { on := 13, ground := Go.Ground.data }, { on := 13, ground := Go.Ground.chain }, { on := 9, ground := Go.Ground.guard }], guard := some (9, true) }) rfl (fun K hK => ?_) AllReadyH.nil
    go_simp
    (with_reducible refine (HE2.out _ _ _ hS3 hl1).mono ?_)
    rintro e w7 ⟨rfl, rfl⟩
    dsimp only
    refine hK.out _ _ hS3 (fun _ => ?_)
    clear hK K
    try simp only [Act.put, List.setIfInBounds_toArray, List.set_cons_zero, List.set_cons_succ]
    refine wpAnyH_take (i := 15) (oi := { dst := some 55, op := Go.Op.pick (Go.Operand.tmp 49) (Go.Operand.tmp 54) (Go.Operand.const (Go.Value.bool false)), type := 4, pos := "law.go:54", after := #[{ on := 9, ground := Go.Ground.data }, { on := 14, ground := Go.Ground.data }], guard := none }) (v := .bool true) rfl (by kernel_rfl) (by kernel_rfl) (by kernel_rfl) (fun _ _ _ h => h) (Or.inl ⟨by kernel_rfl, ?_⟩) hS3 ?_
    · intro w hSw; go_simp
    try simp only [Act.put, List.setIfInBounds_toArray, List.set_cons_zero, List.set_cons_succ]
    refine wpAnyH_take (i := 16) (oi := { dst := some 56, op := Go.Op.move (Go.Operand.tmp 55), type := 4, pos := "law.go:54", after := #[{ on := 15, ground := Go.Ground.data }, { on := 14, ground := Go.Ground.chain }], guard := none }) (v := .bool true) rfl (by kernel_rfl) (by kernel_rfl) (by kernel_rfl) (fun _ _ _ h => h) (Or.inl ⟨by kernel_rfl, ?_⟩) hS3 ?_
    · intro w hSw; go_simp
    try simp only [Act.put, List.setIfInBounds_toArray, List.set_cons_zero, List.set_cons_succ]
    refine wpAnyH_take (i := 17) (oi := { dst := some 57, op := Go.Op.move (Go.Operand.tmp 0), type := 22, pos := "law.go:54", after := #[{ on := 16, ground := Go.Ground.guard }], guard := some (16, true) }) (v := .slice A n cap) rfl (by kernel_rfl) (by kernel_rfl) (by kernel_rfl) (fun _ _ _ h => h) (Or.inl ⟨by kernel_rfl, ?_⟩) hS3 ?_
    · intro w hSw; go_simp
    try simp only [Act.put, List.setIfInBounds_toArray, List.set_cons_zero, List.set_cons_succ]
    refine wpAnyH_take (i := 19) (oi := { dst := some 59, op := Go.Op.move (Go.Operand.tmp 0), type := 22, pos := "law.go:54", after := #[{ on := 16, ground := Go.Ground.guard }], guard := some (16, true) }) (v := .slice A n cap) rfl (by kernel_rfl) (by kernel_rfl) (by kernel_rfl) (fun _ _ _ h => h) (Or.inl ⟨by kernel_rfl, ?_⟩) hS3 ?_
    · intro w hSw; go_simp
    try simp only [Act.put, List.setIfInBounds_toArray, List.set_cons_zero, List.set_cons_succ]
    refine wpAnyH_ready (rs := [18]) (by kernel_rfl) (by simp) ?_
    refine AllReadyH.cons (o := { dst := some 58, op := Go.Op.buildSlice 22 1 #[(0, Go.Operand.const (Go.Value.int Go.IntKind.u8 0))], type := 22, pos := "law.go:54", after := #[{ on := 16, ground := Go.Ground.guard }], guard := some (16, true) }) rfl (fun K hK => ?_) AllReadyH.nil
    go_simp
    have hS4 := hS3.alloc hS3.size (.cells #[.int .u8 0] 5)
    refine hK.out _ _ hS4 (fun _ => ?_)
    clear hK K
    try simp only [Act.put, List.setIfInBounds_toArray, List.set_cons_zero, List.set_cons_succ]
    refine wpAnyH_ready (rs := [20]) (by kernel_rfl) (by simp) ?_
    refine AllReadyH.cons (o := { dst := some 60, op := Go.Op.call { callee := Go.Callee.builtin Go.Builtin.append, args := #[Go.Operand.tmp 58, Go.Operand.tmp 59], argTypes := #[22, 22] }, type := 22, pos := "law.go:54", after := #[{ on := 18, ground := Go.Ground.data }, { on := 19, ground := Go.Ground.data }, { on := 16, ground := Go.Ground.chain }, { on := 16, ground := Go.Ground.guard }], guard := some (16, true) }) rfl (fun K hK => ?_) AllReadyH.nil
    rw [if_pos (by kernel_rfl)]
    have hO : (w8.alloc (.cells #[.int .u8 0] 5)).ownsRow w8.heap.size 5 1 (.slice (some ⟨w8.heap.size, 0, none⟩) 1 1) 1 (u8c [0]) := own_new w8 [0] (by simp)
    refine app_wp (.tmp 58) (.tmp 59) rfl w8.heap.size [0] _ rfl hO (by simp) A n cap a rfl HN.out HA0.out (HHA.out _ hS4) (by simp; omega) (fun v8 w9 hO8 hg8 => ?_)
    have hS5 := hS4.trans ((below_own hO hg8 (by simp)).mono hS3.size)
    obtain ⟨A2, c2, rfl, hl2⟩ := own_at (k := (n + 1)) hO8 (by simp [HN.out])
    clear hO hO8 hg8
    refine hK.out _ _ hS5 (fun _ => ?_)
    clear hK K
    try simp only [Act.put, List.setIfInBounds_toArray, List.set_cons_zero, List.set_cons_succ]
    refine wpAnyH_ready (rs := [21]) (by kernel_rfl) (by simp) ?_
    refine AllReadyH.cons (o := { dst := some 61, op := Go.Op.call { callee := Go.Callee.value (Go.Operand.func 11), args := #[Go.Operand.tmp 57, Go.Operand.tmp 60], argTypes := #[22, 22] }, type := 4, pos := "law.go:54", after := #[{ on := 17, ground := Go.Ground.data }, { on := 20, ground := Go.Ground.data }, { on := 20, ground := Go.Ground.chain }, { on := 16, ground := Go.Ground.guard }], guard := some (16, true) }) rfl (fun K hK => ?_) AllReadyH.nil
    go_simp
    (with_reducible refine (HE3.out _ _ _ hS5 hl2).mono ?_)
    rintro e w7 ⟨rfl, rfl⟩
    dsimp only
    refine hK.out _ _ hS5 (fun _ => ?_)
    clear hK K
    try simp only [Act.put, List.setIfInBounds_toArray, List.set_cons_zero, List.set_cons_succ]
    refine wpAnyH_take (i := 22) (oi := { dst := some 62, op := Go.Op.unOp Go.UnOp.not 4 (Go.Operand.tmp 61), type := 4, pos := "law.go:54", after := #[{ on := 21, ground := Go.Ground.data }, { on := 16, ground := Go.Ground.guard }], guard := some (16, true) }) (v := .bool true) rfl (by kernel_rfl) (by kernel_rfl) (by kernel_rfl) (fun _ _ _ h => h) (Or.inl ⟨by kernel_rfl, ?_⟩) hS5 ?_
    · intro w hSw; go_simp
    try simp only [Act.put, List.setIfInBounds_toArray, List.set_cons_zero, List.set_cons_succ]
    refine wpAnyH_take (i := 23) (oi := { dst := some 63, op := Go.Op.pick (Go.Operand.tmp 56) (Go.Operand.tmp 62) (Go.Operand.const (Go.Value.bool false)), type := 4, pos := "law.go:54", after := #[{ on := 16, ground := Go.Ground.data }, { on := 22, ground := Go.Ground.data }], guard := none }) (v := .bool true) rfl (by kernel_rfl) (by kernel_rfl) (by kernel_rfl) (fun _ _ _ h => h) (Or.inl ⟨by kernel_rfl, ?_⟩) hS5 ?_
    · intro w hSw; go_simp
    try simp only [Act.put, List.setIfInBounds_toArray, List.set_cons_zero, List.set_cons_succ]
    refine wpAnyH_take (i := 24) (oi := { dst := some 6, op := Go.Op.assign (Go.Operand.tmp 63), type := 4, pos := "law.go:54", after := #[{ on := 23, ground := Go.Ground.data }, { on := 21, ground := Go.Ground.chain }, { on := 0, ground := Go.Ground.phase }, { on := 1, ground := Go.Ground.phase }, { on := 2, ground := Go.Ground.phase }, { on := 3, ground := Go.Ground.phase }, { on := 4, ground := Go.Ground.phase }, { on := 5, ground := Go.Ground.phase }, { on := 6, ground := Go.Ground.phase }, { on := 7, ground := Go.Ground.phase }, { on := 8, ground := Go.Ground.phase }, { on := 9, ground := Go.Ground.phase }, { on := 10, ground := Go.Ground.phase }, { on := 11, ground := Go.Ground.phase }, { on := 12, ground := Go.Ground.phase }, { on := 13, ground := Go.Ground.phase }, { on := 14, ground := Go.Ground.phase }, { on := 15, ground := Go.Ground.phase }, { on := 16, ground := Go.Ground.phase }, { on := 17, ground := Go.Ground.phase }, { on := 18, ground := Go.Ground.phase }, { on := 19, ground := Go.Ground.phase }, { on := 20, ground := Go.Ground.phase }, { on := 21, ground := Go.Ground.phase }, { on := 22, ground := Go.Ground.phase }, { on := 23, ground := Go.Ground.phase }], guard := none }) (v := .bool true) rfl (by kernel_rfl) (by kernel_rfl) (by kernel_rfl) (fun _ _ _ h => h) (Or.inl ⟨by kernel_rfl, ?_⟩) hS5 ?_
    · intro w hSw; go_simp
    try simp only [Act.put, List.setIfInBounds_toArray, List.set_cons_zero, List.set_cons_succ]
    refine wpAnyH_done (by kernel_rfl) ?_ _
    refine NoPanic.normal ?_
    go_wp2
    go_ret
    exact ⟨rfl, hb6.trans (hS5.mono hb6.size)⟩
theorem equals_any (A : Option Addr) (a : List UInt8) (cap : Nat) (B : Option Addr) (b : List UInt8) (cap' : Nat) (x : Int) (w : World) (hT : Tabs w)
    (hc : a.length ≤ cap) (hcm : cap ≤ 9223372036854775807) (hA0 : A = none → cap = 0) (hA : Lies w A a) (hc' : b.length ≤ cap') (hcm' : cap' ≤ 9223372036854775807) (hB : Lies w B b) (hx : (Lit.int .u16 x).wf = true) :
    Calls Tryd.prog 5 #[.slice A a.length cap, .slice B b.length cap', .int .u16 x] w fun e w' => e = .returned (.bool true) ∧ Below w.heap.size w w' := by
  simp [Lit.wf, IntKind.min, IntKind.max, IntKind.signed, IntKind.bits] at hx
  by_cases hn : 500 < a.length ∨ (a.length ≤ 500 ∧ 500 < b.length)
  · exact equals_long A a.length cap B b.length cap' x w hT hn hc hcm hc' hcm'
  · exact equals_walk A a cap B b cap' x w hT (by omega) (by omega) hc hcm hA0 hA hc' hcm' hB (by omega) (by omega)
end Go.Proofs.YtlndjmpopoihnaaDoor

