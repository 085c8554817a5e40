/-
  The document's own HMAC. Conditions: there are not too many bytes.
-/
import Derived.Test.YtlndjmpopoihnaaDoorRKey
import Derived.Test.YtlndjmpopoihnaaDoorCuts
import Derived.Deep.RegionHeld3
namespace Go.Proofs.YtlndjmpopoihnaaDoor
open Go.RowKit
set_option linter.unusedVariables false
set_option linter.unusedSimpArgs false
set_option maxHeartbeats 2000000 in
set_option maxRecDepth 100000 in
theorem rof_any (A : Option Addr) (key : List UInt8) (cap : Nat) (B : Option Addr) (b : List UInt8) (cap' : Nat) (w : World) (hA : Lies w A key) (hc : key.length ≤ cap) (hcm : cap ≤ 9223372036854775807) (hA0 : A = none → cap = 0) (hn : key.length ≤ 1000)
    (hB : Lies w B b) (hc' : b.length ≤ cap') (hcm' : cap' ≤ 9223372036854775807) (hB0 : B = none → cap' = 0) (hm : b.length ≤ 1000) :
    Calls Tryd.prog 8 #[.slice A key.length cap, .slice B b.length cap'] w fun e w' => e = .returned (.agg (u8c (hmac key b)).toArray) ∧ Below w.heap.size w w' := by
  obtain ⟨q, hq⟩ : ∃ q, mx (keyB key) 54 = q := ⟨_, rfl⟩
  obtain ⟨r, hr⟩ : ∃ r, mx (keyB key) 92 = r := ⟨_, rfl⟩
  have hql : q.length = 64 := by rw [← hq, mx_length, keyB_length]
  have hrl : r.length = 64 := by rw [← hr, mx_length, keyB_length]
  obtain ⟨D, hD⟩ : ∃ D, sha (q ++ b) = D := ⟨_, rfl⟩
  obtain ⟨F1, hF⟩ : ∃ F1, sha (r ++ D) = F1 := ⟨_, rfl⟩
  have HHM : Hid (hmac key b = F1) := by unfold Hid hmac; rw [hq, hr, hD, hF]
  have HDL : Hid (D.length = 32) := by unfold Hid; rw [← hD]; rfl
  have HFL : Hid (F1.length = 32) := by unfold Hid; rw [← hF]; rfl
  have HKEY : Hid (∀ E : Array Value, E.size = 32 → Calls Tryd.prog 14 #[.slice A key.length cap, .int .u8 54] (w.alloc (.cells E 25)) fun e w' => ∃ (v : Value) (Z : List Value), e = .returned v ∧ w'.ownsRow (w.heap.size + 1) 5 1 v q.length (u8c q) ∧ Z.length = 32 ∧ Kept [(w.heap.size, 25, Z)] w w' ∧ w.heap.size + 1 ≤ w'.heap.size) := fun E hE => by
    have hb := (Below.refl w.heap.size w).alloc (Nat.le_refl _) (.cells E 25)
    have h := rkey_any A key cap 54 54 rfl (w.alloc (.cells E 25)) (hA.below hb (Nat.le_refl _)) hc hcm hA0 (by omega)
    rw [hq] at h
    refine h.mono fun e w' hh => ?_
    obtain ⟨v, e1, hO, hb'⟩ := hh
    have hs : (w.alloc (.cells E 25)).heap.size = w.heap.size + 1 := by simp
    rw [hs] at hO
    rw [hql]
    exact ⟨v, E.toList, e1, hO, by simpa using hE, ((Kept.start w).new 25 E.toList).below hb' (Nat.le_refl _), by have := hb'.size; omega⟩
  have HKEY2 : Hid (∀ (W : World) (L : List (Nat × TypeId × List Value)), Kept L w W → Calls Tryd.prog 14 #[.slice A key.length cap, .int .u8 92] W fun e w' => ∃ v : Value, e = .returned v ∧ w'.ownsRow W.heap.size 5 1 v r.length (u8c r) ∧ Below W.heap.size W w') := fun W L hW => by
    have h := rkey_any A key cap 92 92 rfl W (hA.below hW.bl (Nat.le_refl _)) hc hcm hA0 (by omega)
    rw [hr] at h
    refine h.mono fun e w' hh => ?_
    obtain ⟨v, e1, hO, hb'⟩ := hh
    rw [hrl]
    exact ⟨v, e1, hO, hb'⟩
  have HB : Hid (∀ W, Below w.heap.size w W → Lies W B b) := fun W hW => hB.below hW (Nat.le_refl _)
  have HB0 := Lib.hid hB0
  have HS1 : Hid (∀ (W : World) (A2 : Option Addr) (c2 : Nat), (q ++ b).length ≤ c2 → c2 ≤ 9223372036854775807 → (A2 = none → c2 = 0) → Lies W A2 (q ++ b) → Calls Tryd.prog 10 #[.slice A2 (64 + b.length) c2] W fun e w' => e = .returned (.agg (u8c D).toArray) ∧ Below W.heap.size W w') := fun W A2 c2 h1 h2 h3 h4 => by
    have h := rsum_any A2 (q ++ b) c2 W h1 h2 h3 (by rw [List.length_append, hql]; omega) h4
    rw [List.length_append, hql, hD] at h
    exact h
  have HS2 : Hid (∀ (W : World) (A2 : Option Addr) (c2 : Nat), 96 ≤ c2 → c2 ≤ 9223372036854775807 → (A2 = none → c2 = 0) → Lies W A2 (r ++ D) → Calls Tryd.prog 10 #[.slice A2 96 c2] W fun e w' => e = .returned (.agg (u8c F1).toArray) ∧ Below W.heap.size W w') := fun W A2 c2 h1 h2 h3 h4 => by
    have hl : (r ++ D).length = 96 := by rw [List.length_append, hrl, HDL.out]
    have h := rsum_any A2 (r ++ D) c2 W (by rw [hl]; exact h1) h2 h3 (by rw [hl]; omega) h4
    rw [hl, hF] at h
    exact h
  have HQL := Lib.hid hql
  have HRL := Lib.hid hrl
  clear hA hB hA0 hB0 hq hr hql hrl hD hF
  obtain ⟨n, hN⟩ : ∃ n, key.length = n := ⟨_, rfl⟩
  obtain ⟨m, hM⟩ : ∃ m, b.length = m := ⟨_, rfl⟩
  rw [hN] at hn hc HKEY HKEY2 ⊢
  rw [hM] at hm hc' HS1 ⊢
  have HM := Lib.hid hM
  clear hN hM
  have HI32 := Lib.hid (info32 HDL.out)
  have HZ32 := Lib.hid (size_of HDL.out)
  go_enter Tryd.func8, Tryd.ntmps8
  go_wp2_with fail
  refine (HKEY.out _ rfl).mono ?_
  rintro e w1 ⟨v1, Z, rfl, hO1, hZ, hK1, hs1⟩
  clear HKEY
  have HO1 := Lib.hid hO1
  have HK1 := Lib.hid hK1
  have HZL := Lib.hid hZ
  have HL1 : Hid (q.length + m ≤ 1000000000000) := by unfold Hid; rw [HQL.out]; omega
  have HLB : Hid (Lies w1 B b) := HB.out _ hK1.bl
  clear hO1 hK1 hZ
  go_wp2_with (refine app_list rfl (.tmp 7) (.tmp 8) rfl (w.heap.size + 1) q _ rfl HO1.out hs1 B m cap' b rfl HM.out HB0.out HLB.out HL1.out ?_; intro v2 w2 hO2 hg2)
  have hK2 : Kept [(w.heap.size, 25, Z)] w w2 := HK1.out.low (below_own HO1.out hg2 hs1) (by omega) (fun x hx => by simp at hx; subst hx; simp)
  obtain ⟨A2, c2, rfl, hle2, hcm2, h02, hl2⟩ := own_full (k := 64 + m) hO2 (by rw [List.length_append, HQL.out, HM.out])
  refine (HS1.out w2 A2 c2 (by rw [List.length_append, HQL.out, HM.out]; exact hle2) hcm2 h02 hl2).mono ?_
  rintro e w3 ⟨rfl, hb3⟩
  have HK3 := Lib.hid (hK2.below hb3 (Nat.le_refl _))
  clear hb3 hK2 hl2 h02 hcm2 hle2 hO2 hg2 HO1 HK1 HLB HL1 HS1
  go_upto_region 2 with (refine store_row_as rfl 25 (.tmp 5) (.tmp 10) rfl w3.heap.size _ rfl rfl 25 _ (heap_alloc_last _ _) HI32.out (HZ32.out _ rfl) (u8c_one _) (Kept [(w3.heap.size, 25, u8c D), (w.heap.size, 25, Z)] w) (HK3.out.set _ _ _) ?_; intro w4 hK4)
  have hGNE : w3.heap.size ≠ w.heap.size := by have := (HK3.out.got (.head _)).lt; omega
  generalize w3.heap.size = G at *
  dsimp only [Act.put]
  have hIF : (Tryd.prog.info? 25).map (·.size) = some (u8c F1).toArray.size := info32 HFL.out
  have hZF : Z.toArray.size = (u8c F1).toArray.size := size_of HFL.out _ (by rw [List.size_toArray, HZL.out])
  clear HK3 HI32 HZ32
  refine wp_region_noPanic ?_
  refine wp_region_held_drew (S := Kept [(G, 25, u8c D)] w) (by kernel_rfl) (show Kept [(G, 25, u8c D)] w w4.drew from ⟨hK4.bl.drew, fun x hx => hK4.drew.hs x (by simp at hx; simp [hx])⟩) (fun hS1 => ?_)
  have hN1 : Holds w4.drew w.heap.size 25 Z := hK4.drew.got (.tail _ (.head _))
  obtain ⟨wd, hwd⟩ : ∃ wd, w4.drew = wd := ⟨_, rfl⟩
  rw [hwd] at hS1 hN1 ⊢
  clear hwd hK4 w4
  have hGN : G ≠ w.heap.size := hGNE
  have hGl := (hS1.got (.head _)).lt
  refine wpAnyH_take (i := 0) (oi := { dst := some 11, op := Go.Op.move (Go.Operand.tmp 0), type := 22, pos := "ref.go:25", after := #[], guard := none }) (v := .slice A n cap) rfl (by kernel_rfl) (by kernel_rfl) (by kernel_rfl) (fun _ _ _ h => h) (Or.inl ⟨by kernel_rfl, ?_⟩) hS1 ?_
  · intro w hSw; go_simp
  try simp only [Act.put, List.setIfInBounds_toArray, List.set_cons_zero, List.set_cons_succ]
  refine wpAnyH_take (i := 2) (oi := { dst := some 13, op := Go.Op.slice 25 (Go.Operand.tmp 5) none none none, type := 22, pos := "ref.go:25", after := #[], guard := none }) (v := .slice (some ⟨G, 0, none⟩) 32 32) rfl (by kernel_rfl) (by kernel_rfl) (by kernel_rfl) (fun _ _ _ h => h) (Or.inl ⟨by kernel_rfl, ?_⟩) hS1 ?_
  · intro w hSw; go_simp
  try simp only [Act.put, List.setIfInBounds_toArray, List.set_cons_zero, List.set_cons_succ]
  refine wpAnyH_ready (rs := [1]) (by kernel_rfl) (by simp) ?_
  refine AllReadyH.cons (o := { dst := some 12, op := Go.Op.call { callee := Go.Callee.value (Go.Operand.func 14), args := #[Go.Operand.tmp 11, Go.Operand.const (Go.Value.int Go.IntKind.u8 92)], argTypes := #[22, 5] }, type := 22, pos := "ref.go:25", after := #[{ on := 0, ground := Go.Ground.data }], guard := none }) rfl (fun K hK => ?_) AllReadyH.nil
  go_simp
  (with_reducible refine (HKEY2.out _ _ hS1).mono ?_)
  rintro e w5 ⟨v5, rfl, hO5, hb5⟩
  have hS5 := hS1.below hb5 (Nat.le_refl _)
  have hN5 := hN1.below hb5 hN1.lt
  have hs5 := hb5.size
  dsimp only
  refine hK.out _ _ hS5 (fun _ => ?_)
  clear hK K
  try simp only [Act.put, List.setIfInBounds_toArray, List.set_cons_zero, List.set_cons_succ]
  refine wpAnyH_ready (rs := [3]) (by kernel_rfl) (by simp) ?_
  refine AllReadyH.cons (o := { dst := some 14, op := Go.Op.call { callee := Go.Callee.builtin Go.Builtin.append, args := #[Go.Operand.tmp 12, Go.Operand.tmp 13], argTypes := #[22, 22] }, type := 22, pos := "ref.go:25", after := #[{ on := 1, ground := Go.Ground.data }, { on := 2, ground := Go.Ground.data }, { on := 1, ground := Go.Ground.chain }], guard := none }) rfl (fun K hK => ?_) AllReadyH.nil
  rw [if_pos (by kernel_rfl)]
  refine app_wp (.tmp 12) (.tmp 13) rfl wd.heap.size r _ rfl hO5 hs5 (some ⟨G, 0, none⟩) 32 32 D rfl HDL.out (fun h => by cases h) (hS5.lies (.head _)) (by rw [HRL.out]; omega) (fun v6 w6 hO6 hg6 => ?_)
  have hb6 := below_own hO5 hg6 hs5
  have hS6 : Kept [(G, 25, u8c D)] w w6 := hS5.low hb6 (Nat.le_trans hS1.bl.size (Nat.le_refl _)) (fun x hx => by simp at hx; subst hx; exact hGl)
  have hN6 := hN5.below hb6 hN1.lt
  obtain ⟨A6, c6, rfl, hle6, hcm6, h06, hl6⟩ := own_full (k := 96) hO6 (by rw [List.length_append, HRL.out, HDL.out])
  refine hK.out _ _ hS6 (fun _ => ?_)
  clear hK K
  try simp only [Act.put, List.setIfInBounds_toArray, List.set_cons_zero, List.set_cons_succ]
  refine wpAnyH_ready (rs := [4]) (by kernel_rfl) (by simp) ?_
  refine AllReadyH.cons (o := { dst := some 15, op := Go.Op.call { callee := Go.Callee.value (Go.Operand.func 10), args := #[Go.Operand.tmp 14], argTypes := #[22] }, type := 25, pos := "ref.go:25", after := #[{ on := 3, ground := Go.Ground.data }, { on := 3, ground := Go.Ground.chain }], guard := none }) rfl (fun K hK => ?_) AllReadyH.nil
  go_simp
  (with_reducible refine (HS2.out w6 A6 c6 hle6 hcm6 h06 hl6).mono ?_)
  rintro e w7 ⟨rfl, hb7⟩
  have hS7 := hS6.below hb7 (Nat.le_refl _)
  have hN7 := hN6.below hb7 hN6.lt
  dsimp only
  refine hK.out _ _ hS7 (fun _ => ?_)
  clear hK K
  try simp only [Act.put, List.setIfInBounds_toArray, List.set_cons_zero, List.set_cons_succ]
  refine wpAnyH_ready (rs := [5]) (by kernel_rfl) (by simp) ?_
  refine AllReadyH.cons (o := { dst := none, op := Go.Op.store 25 (Go.Operand.tmp 4) (Go.Operand.tmp 15), type := 0, pos := "ref.go:25", after := #[{ on := 4, ground := Go.Ground.data }, { on := 4, ground := Go.Ground.chain }, { on := 0, ground := Go.Ground.phase }, { on := 1, ground := Go.Ground.phase }, { on := 2, ground := Go.Ground.phase }, { on := 3, ground := Go.Ground.phase }, { on := 4, ground := Go.Ground.phase }], guard := none }) rfl (fun K hK => ?_) AllReadyH.nil
  rw [if_pos (by kernel_rfl)]
  have hS8 : Kept [(G, 25, u8c D)] w (w7.setRow w.heap.size (u8c F1).toArray) := ⟨below_row hS7.bl (Nat.le_refl _) _, fun x hx => by
    simp at hx
    subst hx
    exact ⟨(hS7.got (.head _)).rowFar (fun e => by
      have := hGN
      exact this e) _, (hS7.hs _ (.head _)).2⟩⟩
  refine wp_store_row 25 (.tmp 4) (.tmp 15) rfl w.heap.size _ rfl rfl 25 _ hN7 hIF hZF (u8c_one _) (hK.out _ _ hS8 (fun _ => ?_))
  clear hK K
  try simp only [Act.put, List.setIfInBounds_toArray, List.set_cons_zero, List.set_cons_succ]
  refine wpAnyH_done (by kernel_rfl) ?_ _
  refine NoPanic.normal ?_
  go_wp2_with fail
  exact bodyPost_ret (results_cell_row rfl _ _ w.heap.size 25 _ (0, 0) _ rfl (hN7.row _) Tryd.underlying25 rfl hIF) rfl ⟨by rw [HHM.out], hS8.bl⟩
end Go.Proofs.YtlndjmpopoihnaaDoor

