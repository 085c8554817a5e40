/-
  For every character of more than one byte, wherever it is cut, and whatever up to 100 characters ahead of it: the parts are no characters' bytes, the whole is. Conditions: the two tables of unicode/utf8 lie as the program's text lays them.
-/
import Derived.Test.YtboanbnpahejeaaDoorCutParts
import Derived.Test.YtboanbnpahejeaaDoorRefBytes
import Derived.Test.YtboanbnpahejeaaDoorText
import Derived.Test.YtboanbnpahejeaaDoorOpen
import Derived.OpenShut
import Derived.Stop.Joined
import Derived.Deep.RegionWith
import Derived.RegionTactic
import Derived.Deep.CutBlock
import Derived.Deep.DeepCutAuto
namespace Go.Proofs.YtboanbnpahejeaaDoor
namespace UtfCuts
open Go.ChangeShapes Go.WideShapes Go.ChangeAt Go.RowKit
set_option linter.unusedVariables false
set_option maxHeartbeats 1000000 in
theorem walk_out (r at' : Int) (A : Option Addr) (n c : Nat) (w : World) (hT : Tabs w) (hcm : n ≤ 9223372036854775807) (h : 100 < n ∨ chB r = false ∨ r < 128) :
    Calls Tryd.prog 7 #[.int .i32 r, .int .u8 at', .slice A n c] w fun e w' => e = .returned (.bool true) ∧ Below w.heap.size w w' := by
  have h2 := hT.two
  have HT := Lib.hid hT
  clear hT
  by_cases hn : 100 < n
  · clear h
    have hz : (100 : Int) < n := by omega
    go_enter Tryd.func7, Tryd.ntmps7
    go_wp2_with fail
    refine (awake_any w HT.out).mono ?_
    rintro e w1 ⟨rfl, hb1⟩
    go_wp2_with fail
    refine (awake_any w1 (HT.out.below h2 hb1)).mono ?_
    rintro e w2 ⟨rfl, hb2⟩
    go_wp2
    go_ret
    exact ⟨rfl, hb1.trans (hb2.mono hb1.size)⟩
  · have hz : ¬ (100 : Int) < n := by omega
    cases hc : chB r with
    | false =>
      clear h
      go_enter Tryd.func7, Tryd.ntmps7
      go_wp2_with fail
      refine (awake_any w HT.out).mono ?_
      rintro e w1 ⟨rfl, hb1⟩
      go_wp2_with (go_at_call 14; refine (char_any _ _).mono ?_; rintro e w' ⟨rfl, rfl⟩; rw [hc])
      refine (awake_any w1 (HT.out.below h2 hb1)).mono ?_
      rintro e w2 ⟨rfl, hb2⟩
      go_wp2
      go_ret
      exact ⟨rfl, hb1.trans (hb2.mono hb1.size)⟩
    | true =>
      have hr : r < 128 := by rcases h with h | h | h <;> first | omega | (rw [hc] at h; cases h)
      clear h
      go_enter Tryd.func7, Tryd.ntmps7
      go_wp2_with fail
      refine (awake_any w HT.out).mono ?_
      rintro e w1 ⟨rfl, hb1⟩
      go_wp2_with (go_at_call 14; refine (char_any _ _).mono ?_; rintro e w' ⟨rfl, rfl⟩; rw [hc])
      refine (awake_any w1 (HT.out.below h2 hb1)).mono ?_
      rintro e w2 ⟨rfl, hb2⟩
      go_wp2
      go_ret
      exact ⟨rfl, hb1.trans (hb2.mono hb1.size)⟩
/-- What holds at the loop's heads. -/
def Rel1 (zs : List Int) (i : Value) : Prop := ∃ k : Nat, k ≤ zs.length ∧ i = .int .i64 k ∧ (zs.take k).all chB = true
set_option maxHeartbeats 4000000 in
theorem walk_in (r at' : Int) (A : Option Addr) (c : Nat) (zs : List Int) (w : World) (hT : Tabs w) (hl : Lies w w.heap.size A (i32s zs)) (hc : zs.length ≤ c) (hcm : c ≤ 9223372036854775807) (hn : zs.length ≤ 100)
    (hch : chB r = true) (hr : 128 ≤ r) (ha0 : 0 ≤ at') (ha1 : at' < 256) :
    Calls Tryd.prog 7 #[.int .i32 r, .int .u8 at', .slice A zs.length c] w fun e w' => e = .returned (.bool true) ∧ Below w.heap.size w w' := by
  have h2 := hT.two
  have HT := Lib.hid hT
  have HL := Lib.hid hl
  have HCH := Lib.hid hch
  clear hT hl
  have hz : ¬ (100 : Int) < zs.length := by omega
  have hz2 : ¬ r < 128 := by omega
  go_enter Tryd.func7, Tryd.ntmps7
  go_wp2_with fail
  refine (awake_any w HT.out).mono ?_
  rintro e w1 ⟨rfl, hb1⟩
  have hs1 := hb1.size
  have HL1 := Lib.hid ((HL.out.below hb1).mono hs1)
  go_wp2_with (go_at_call 14; refine (char_any _ _).mono ?_; rintro e w' ⟨rfl, rfl⟩; rw [hch])
  go_loop [30] (Rel1 zs) (fun i => zs.length - (intOf i).toNat)
  case atStart => exact ⟨0, Nat.zero_le _, rfl, rfl⟩
  case round =>
    obtain ⟨k, hk, rfl, hall⟩ := hrel
    have HALL := Lib.hid hall; clear hall
    by_cases hlt : k < zs.length
    · obtain ⟨b, o, rfl, hbB, hcell⟩ := HL1.out (by intro h; simp [i32s] at h; subst h; simp at hlt)
      have hck : w1.cell? ⟨b, o + k, none⟩ = some (.int .i32 zs[k]) := by
        have := hcell k (by simpa [i32s] using hlt)
        simpa [i32s] using this
      have HAS := Lib.hid (all_snoc chB zs k hlt)
      clear hcell
      generalize zs[k] = z at hck HAS
      cases hcz : chB z with
      | true =>
        go_wp2_with (go_at_call 14; refine (char_any _ _).mono ?_; rintro e w' ⟨rfl, rfl⟩; rw [hcz])
        go_round
        case rel => exact ⟨k + 1, hlt, by go_num, by rw [HAS.out, HALL.out, hcz]; rfl⟩
        case measure => simp [intOf]; omega
      | false =>
        go_wp2_with (go_at_call 14; refine (char_any _ _).mono ?_; rintro e w' ⟨rfl, rfl⟩; rw [hcz])
        go_ret
        exact ⟨rfl, hb1⟩
    · have hke : zs.take k = zs := List.take_of_length_le (by omega)
      have hall' := HALL.out
      rw [hke] at hall'
      have HALL' := Lib.hid hall'
      clear hke hall' HALL
      obtain ⟨O1, hO1⟩ : ∃ O, Obj.cells (u8c (encB r)).toArray 5 = O := ⟨_, rfl⟩
      obtain ⟨L, hL⟩ : ∃ L, (encB r).length = L := ⟨_, rfl⟩
      have hL2 : 2 ≤ L ∧ L ≤ 4 := by rw [← hL]; exact encB_two HCH.out hr
      obtain ⟨hL2, hL4⟩ := hL2
      have K1 : ∀ W, Calls Tryd.prog 19 #[.int .i32 r] W fun e w' => e = .returned (.slice (some ⟨W.heap.size, 0, none⟩) L L) ∧ W.alloc O1 = w' := fun W => by rw [← hO1, ← hL]; exact refOne_any r HCH.out W
      have HK := Lib.hid K1
      have HO1 := Lib.hid hO1
      have HLn := Lib.hid hL
      clear K1 hO1 hL hch
      go_wp2_with fail
      refine (HK.out _).mono ?_
      rintro e w2 ⟨rfl, rfl⟩
      have hb2 : Below w.heap.size w (w1.alloc O1) := hb1.alloc hs1 O1
      have hs2 := hb2.size
      have hL1z : ((L : Int) - 1 == 0) = false := by rw [beq_eq_false_iff_ne]; omega
      obtain ⟨N, hN⟩ : ∃ N : Nat, 1 + at' % ((L : Int) - 1) = (N : Int) := ⟨(1 + at' % ((L : Int) - 1)).toNat, by have := Int.emod_nonneg at' (show (L : Int) - 1 ≠ 0 by omega); omega⟩
      have hm0 : 0 ≤ at' % ((L : Int) - 1) := Int.emod_nonneg at' (by omega)
      have hm1 : at' % ((L : Int) - 1) < (L : Int) - 1 := Int.emod_lt_of_pos at' (by omega)
      have hN1 : 1 ≤ N := by omega
      have hNL : N < L := by omega
      have LZ := (HL.out.below hb2).mono hs2
      have HRB := Lib.hid (refBytes_any A c zs (w1.alloc O1) LZ HALL'.out (by omega))
      have LB : Lies (w1.alloc O1) (w1.alloc O1).heap.size (some ⟨w1.heap.size, 0, none⟩) (u8c (encB r)) := fun _ => ⟨w1.heap.size, 0, rfl, by simp, fun j hj => by
        rw [← HO1.out, Nat.zero_add, World.cell?_alloc_mark]; simp⟩
      have HLB := Lib.hid LB
      clear LZ LB HK HL1
      go_wp2_with fail
      refine HRB.out.mono ?_
      rintro e w3 ⟨v, rfl, hown, hb3⟩
      have hb3' : Below w.heap.size w w3 := hb2.trans (hb3.mono hs2)
      have hs3 := hb3'.size
      have hel := encBs_le zs
      obtain ⟨ys, hys⟩ : ∃ ys, encBs zs = ys := ⟨_, rfl⟩
      rw [hys] at hown hel
      have HYS := Lib.hid hys
      obtain ⟨A3, cap3, rfl, hle3, hcm3, hli3, _⟩ := own_form hown
      have hnil3 : A3 = none → cap3 = 0 := fun h => by
        obtain ⟨_, h1 | ⟨g, cp, cur, h1, _⟩⟩ := hown
        · injection h1.1
        · subst h; injection h1 with h1; cases h1
      have HNIL := Lib.hid hnil3
      have HLA := Lib.hid hli3
      have HLB3 := Lib.hid ((HLB.out.below hb3).mono hb3.size)
      have HT3 := Lib.hid (HT.out.below h2 hb3')
      have h23 := HT3.out.two
      obtain ⟨g1, hg1⟩ : ∃ g, w1.heap.size = g := ⟨_, rfl⟩
      rw [hg1] at HLB3 ⊢
      have v1 := cut_ahead HCH.out zs HALL'.out N hN1 (by rw [HLn.out]; exact hNL)
      have v2 := cut_behind HCH.out zs N hN1 (by rw [HLn.out]; exact hNL)
      have v3 := cut_whole HCH.out zs HALL'.out
      rw [HYS.out] at v1 v2 v3
      have HV1 := Lib.hid v1
      have HV2 := Lib.hid v2
      have HV3 := Lib.hid v3
      have LB1 : Lies w3 w3.heap.size (some ⟨g1, 0, none⟩) (u8c ((encB r).take N)) := lies_take HLB3.out N
      have LB2 : Lies w3 w3.heap.size (some ⟨g1, N, none⟩) (u8c ((encB r).drop N)) := by
        have := lies_drop HLB3.out N
        rwa [Nat.zero_add] at this
      have HLB1 := Lib.hid LB1
      have HLB2 := Lib.hid LB2
      have hc1 : (u8c ((encB r).take N)).length = N := by rw [u8c_length, List.length_take, HLn.out]; omega
      have hc2 : (u8c ((encB r).drop N)).length = L - N := by rw [u8c_length, List.length_drop, HLn.out]
      have hc3 : (u8c (encB r)).length = L := by rw [u8c_length, HLn.out]
      have hc4 : (u8c ys).length = ys.length := u8c_length ys
      have HC1 := Lib.hid hc1
      have HC2 := Lib.hid hc2
      have HC3 := Lib.hid hc3
      have HC4 := Lib.hid hc4
      have HN := Lib.hid hN
      have hne : ¬ L = N := by omega
      have hNz : (N : Int) ≤ (L : Int) := by omega
      obtain ⟨i0, hi, hz0, hz1, hz2'⟩ := info_parts byteInfo
      clear hys hown hli3 hnil3 v1 v2 v3 LB1 LB2 hc1 hc2 hc3 hc4 hb1 hs1 hb2 hs2 HRB HLB hm0 hm1 HT HL HCH hL1z hb3 hg1 HALL'
      go_upto_region 12 with fail
      refine wp_region_any (by kernel_rfl) ?_
      change wpAny _ _ _ _ _ _ _ (World.drew _)
      have hba : Below w3.heap.size w3 w3.drew := (Below.refl _ _).drew
      generalize w3.drew = Wa at hba ⊢
      refine wpAny_take (i := 1) (v := .slice A3 ys.length cap3) rfl (by kernel_rfl) (by kernel_rfl) (by kernel_rfl) (fun _ _ _ h => h) (Or.inl ⟨by kernel_rfl, ?_⟩) ?_
      · intro w; go_simp
      refine wpAny_take (i := 3) (v := .slice (some ⟨g1, 0, none⟩) L L) rfl (by kernel_rfl) (by kernel_rfl) (by kernel_rfl) (fun _ _ _ h => h) (Or.inl ⟨by kernel_rfl, ?_⟩) ?_
      · intro w; go_simp
      refine wpAny_take (i := 4) (v := .int .i64 N) rfl (by kernel_rfl) (by kernel_rfl) (by kernel_rfl) (fun _ _ _ h => h) (Or.inl ⟨by kernel_rfl, ?_⟩) ?_
      · intro w; go_simp
      refine wpAny_take (i := 5) (v := .slice (some ⟨g1, 0, none⟩) N L) rfl (by kernel_rfl) (by kernel_rfl) (by kernel_rfl) (fun _ _ _ h => h) (Or.inl ⟨by kernel_rfl, ?_⟩) ?_
      · intro w; go_simp
      refine wpAny_ready (rs := [0]) (by kernel_rfl) (by simp) ?_
      refine AllReady.cons rfl (fun K hK => ?_) AllReady.nil
      go_simp
      refine hK _ _ ?_
      clear hK K
      have owna := own_empty Wa 5 w3.heap.size hba.size
      have hbAa : Below w3.heap.size w3 (Wa.alloc (.cells #[] 5)) := hba.alloc hba.size _
      refine wpAny_ready (rs := [2]) (by kernel_rfl) (by simp) ?_
      refine AllReady.cons rfl (fun K hK => ?_) AllReady.nil
      refine step_append_lies (by kernel_rfl) (.tmp 51) (.tmp 52) 22 rfl w3.heap.size 5 i0 (.int .u8 0) 1 Tryd.underlying22 hi hz0 hz1 hz2' rfl (.slice (some ⟨Wa.heap.size, 0, none⟩) 0 0) 0 [] (by kernel_rfl) owna _ A3 ys.length cap3 (u8c ys) (by kernel_rfl) HC4.out HNIL.out (HLA.out.below hbAa) (u8c_one _) (by unfold maxLen; omega) (by omega) hbAa.size ?_
      intro va1 Wa1 owna1 gra1
      have hba1 : Below w3.heap.size w3 Wa1 := hbAa.grown gra1 hbAa.size (fun g hg => ((own_form owna).choose_spec.choose_spec.2.2.2.2 g hg).1)
      refine hK _ _ ?_
      clear hK K
      refine wpAny_ready (rs := [6]) (by kernel_rfl) (by simp) ?_
      refine AllReady.cons rfl (fun K hK => ?_) AllReady.nil
      refine step_append_lies (by kernel_rfl) (.tmp 53) (.tmp 56) 22 rfl w3.heap.size 5 i0 (.int .u8 0) 1 Tryd.underlying22 hi hz0 hz1 hz2' rfl va1 (0 + ys.length) ([] ++ u8c ys) (by kernel_rfl) owna1 _ (some ⟨g1, 0, none⟩) N L (u8c ((encB r).take N)) (by kernel_rfl) HC1.out (fun h => by cases h) (HLB1.out.below hba1) (u8c_one _) (by unfold maxLen; omega) (by omega) hba1.size ?_
      intro va2 Wa2 owna2 gra2
      have hba2 : Below w3.heap.size w3 Wa2 := hba1.grown gra2 hba1.size (fun g hg => ((own_form owna1).choose_spec.choose_spec.2.2.2.2 g hg).1)
      obtain ⟨csa, hcsa⟩ : ∃ cs, ys ++ (encB r).take N = cs := ⟨_, rfl⟩
      have owna3 : Wa2.ownsRow w3.heap.size 5 1 va2 csa.length (u8c csa) := by
        rw [← hcsa, u8c_append, ← u8c_length, u8c_append, List.length_append, HC4.out, HC1.out]; simpa using owna2
      obtain ⟨Aa, capa, rfl, hlea, hcma, hlia, _⟩ := own_form owna3
      have HVca := Lib.hid (uvalid_any Aa capa csa Wa2 (HT3.out.below h23 hba2) hlia hlea hcma)
      have HCSa := Lib.hid hcsa
      clear hcsa owna owna1 owna2 owna3 gra1 gra2 hlia hlea hcma hbAa hba1 hba
      refine hK _ _ ?_
      clear hK K
      refine wpAny_ready (rs := [7]) (by kernel_rfl) (by simp) ?_
      refine AllReady.cons rfl (fun K hK => ?_) AllReady.nil
      go_simp
      refine HVca.out.mono ?_
      rintro e Wa3 ⟨rfl, hbva⟩
      rw [← HCSa.out, HV1.out]
      dsimp only
      refine hK _ _ ?_
      clear hK K
      refine wpAny_take (i := 8) (v := .bool true) rfl (by kernel_rfl) (by kernel_rfl) (by kernel_rfl) (fun _ _ _ h => h) (Or.inl ⟨by kernel_rfl, ?_⟩) ?_
      · intro w; go_simp
      refine wpAny_take (i := 9) (v := .bool true) rfl (by kernel_rfl) (by kernel_rfl) (by kernel_rfl) (fun _ _ _ h => h) (Or.inl ⟨by kernel_rfl, ?_⟩) ?_
      · intro w; go_simp
      have hbb : Below w3.heap.size w3 Wa3 := hba2.trans (hbva.mono hba2.size)
      refine wpAny_take (i := 11) (v := .slice (some ⟨g1, 0, none⟩) L L) rfl (by kernel_rfl) (by kernel_rfl) (by kernel_rfl) (fun _ _ _ h => h) (Or.inl ⟨by kernel_rfl, ?_⟩) ?_
      · intro w; go_simp
      refine wpAny_take (i := 12) (v := .int .i64 N) rfl (by kernel_rfl) (by kernel_rfl) (by kernel_rfl) (fun _ _ _ h => h) (Or.inl ⟨by kernel_rfl, ?_⟩) ?_
      · intro w; go_simp
      refine wpAny_take (i := 13) (v := .slice (some ⟨g1, N, none⟩) (L - N) (L - N)) rfl (by kernel_rfl) (by kernel_rfl) (by kernel_rfl) (fun _ _ _ h => h) (Or.inl ⟨by kernel_rfl, ?_⟩) ?_
      · intro w; go_simp
      refine wpAny_take (i := 15) (v := .slice A3 ys.length cap3) rfl (by kernel_rfl) (by kernel_rfl) (by kernel_rfl) (fun _ _ _ h => h) (Or.inl ⟨by kernel_rfl, ?_⟩) ?_
      · intro w; go_simp
      refine wpAny_ready (rs := [10]) (by kernel_rfl) (by simp) ?_
      refine AllReady.cons rfl (fun K hK => ?_) AllReady.nil
      go_simp
      refine hK _ _ ?_
      clear hK K
      have ownb := own_empty Wa3 5 w3.heap.size hbb.size
      have hbAb : Below w3.heap.size w3 (Wa3.alloc (.cells #[] 5)) := hbb.alloc hbb.size _
      refine wpAny_ready (rs := [14]) (by kernel_rfl) (by simp) ?_
      refine AllReady.cons rfl (fun K hK => ?_) AllReady.nil
      refine step_append_lies (by kernel_rfl) (.tmp 61) (.tmp 64) 22 rfl w3.heap.size 5 i0 (.int .u8 0) 1 Tryd.underlying22 hi hz0 hz1 hz2' rfl (.slice (some ⟨Wa3.heap.size, 0, none⟩) 0 0) 0 [] (by kernel_rfl) ownb _ (some ⟨g1, N, none⟩) (L - N) (L - N) (u8c ((encB r).drop N)) (by kernel_rfl) HC2.out (fun h => by cases h) (HLB2.out.below hbAb) (u8c_one _) (by unfold maxLen; omega) (by omega) hbAb.size ?_
      intro vb1 Wb1 ownb1 grb1
      have hbb1 : Below w3.heap.size w3 Wb1 := hbAb.grown grb1 hbAb.size (fun g hg => ((own_form ownb).choose_spec.choose_spec.2.2.2.2 g hg).1)
      refine hK _ _ ?_
      clear hK K
      refine wpAny_ready (rs := [16]) (by kernel_rfl) (by simp) ?_
      refine AllReady.cons rfl (fun K hK => ?_) AllReady.nil
      refine step_append_lies (by kernel_rfl) (.tmp 65) (.tmp 66) 22 rfl w3.heap.size 5 i0 (.int .u8 0) 1 Tryd.underlying22 hi hz0 hz1 hz2' rfl vb1 (0 + (L - N)) ([] ++ u8c ((encB r).drop N)) (by kernel_rfl) ownb1 _ A3 ys.length cap3 (u8c ys) (by kernel_rfl) HC4.out HNIL.out (HLA.out.below hbb1) (u8c_one _) (by unfold maxLen; omega) (by omega) hbb1.size ?_
      intro vb2 Wb2 ownb2 grb2
      have hbb2 : Below w3.heap.size w3 Wb2 := hbb1.grown grb2 hbb1.size (fun g hg => ((own_form ownb1).choose_spec.choose_spec.2.2.2.2 g hg).1)
      obtain ⟨csb, hcsb⟩ : ∃ cs, (encB r).drop N ++ ys = cs := ⟨_, rfl⟩
      have ownb3 : Wb2.ownsRow w3.heap.size 5 1 vb2 csb.length (u8c csb) := by
        rw [← hcsb, u8c_append, ← u8c_length, u8c_append, List.length_append, HC2.out, HC4.out]; simpa using ownb2
      obtain ⟨Ab, capb, rfl, hleb, hcmb, hlib, _⟩ := own_form ownb3
      have HVcb := Lib.hid (uvalid_any Ab capb csb Wb2 (HT3.out.below h23 hbb2) hlib hleb hcmb)
      have HCSb := Lib.hid hcsb
      clear hcsb ownb ownb1 ownb2 ownb3 grb1 grb2 hlib hleb hcmb hbAb hbb1 hbb
      refine hK _ _ ?_
      clear hK K
      refine wpAny_ready (rs := [17]) (by kernel_rfl) (by simp) ?_
      refine AllReady.cons rfl (fun K hK => ?_) AllReady.nil
      go_simp
      refine HVcb.out.mono ?_
      rintro e Wb3 ⟨rfl, hbvb⟩
      rw [← HCSb.out, HV2.out]
      dsimp only
      refine hK _ _ ?_
      clear hK K
      refine wpAny_take (i := 18) (v := .bool true) rfl (by kernel_rfl) (by kernel_rfl) (by kernel_rfl) (fun _ _ _ h => h) (Or.inl ⟨by kernel_rfl, ?_⟩) ?_
      · intro w; go_simp
      refine wpAny_take (i := 19) (v := .bool true) rfl (by kernel_rfl) (by kernel_rfl) (by kernel_rfl) (fun _ _ _ h => h) (Or.inl ⟨by kernel_rfl, ?_⟩) ?_
      · intro w; go_simp
      refine wpAny_take (i := 20) (v := .bool true) rfl (by kernel_rfl) (by kernel_rfl) (by kernel_rfl) (fun _ _ _ h => h) (Or.inl ⟨by kernel_rfl, ?_⟩) ?_
      · intro w; go_simp
      have hbc : Below w3.heap.size w3 Wb3 := hbb2.trans (hbvb.mono hbb2.size)
      refine wpAny_take (i := 22) (v := .slice A3 ys.length cap3) rfl (by kernel_rfl) (by kernel_rfl) (by kernel_rfl) (fun _ _ _ h => h) (Or.inl ⟨by kernel_rfl, ?_⟩) ?_
      · intro w; go_simp
      refine wpAny_take (i := 24) (v := .slice (some ⟨g1, 0, none⟩) L L) rfl (by kernel_rfl) (by kernel_rfl) (by kernel_rfl) (fun _ _ _ h => h) (Or.inl ⟨by kernel_rfl, ?_⟩) ?_
      · intro w; go_simp
      refine wpAny_ready (rs := [21]) (by kernel_rfl) (by simp) ?_
      refine AllReady.cons rfl (fun K hK => ?_) AllReady.nil
      go_simp
      refine hK _ _ ?_
      clear hK K
      have ownc := own_empty Wb3 5 w3.heap.size hbc.size
      have hbAc : Below w3.heap.size w3 (Wb3.alloc (.cells #[] 5)) := hbc.alloc hbc.size _
      refine wpAny_ready (rs := [23]) (by kernel_rfl) (by simp) ?_
      refine AllReady.cons rfl (fun K hK => ?_) AllReady.nil
      refine step_append_lies (by kernel_rfl) (.tmp 72) (.tmp 73) 22 rfl w3.heap.size 5 i0 (.int .u8 0) 1 Tryd.underlying22 hi hz0 hz1 hz2' rfl (.slice (some ⟨Wb3.heap.size, 0, none⟩) 0 0) 0 [] (by kernel_rfl) ownc _ A3 ys.length cap3 (u8c ys) (by kernel_rfl) HC4.out HNIL.out (HLA.out.below hbAc) (u8c_one _) (by unfold maxLen; omega) (by omega) hbAc.size ?_
      intro vc1 Wc1 ownc1 grc1
      have hbc1 : Below w3.heap.size w3 Wc1 := hbAc.grown grc1 hbAc.size (fun g hg => ((own_form ownc).choose_spec.choose_spec.2.2.2.2 g hg).1)
      refine hK _ _ ?_
      clear hK K
      refine wpAny_ready (rs := [25]) (by kernel_rfl) (by simp) ?_
      refine AllReady.cons rfl (fun K hK => ?_) AllReady.nil
      refine step_append_lies (by kernel_rfl) (.tmp 74) (.tmp 75) 22 rfl w3.heap.size 5 i0 (.int .u8 0) 1 Tryd.underlying22 hi hz0 hz1 hz2' rfl vc1 (0 + ys.length) ([] ++ u8c ys) (by kernel_rfl) ownc1 _ (some ⟨g1, 0, none⟩) L L (u8c (encB r)) (by kernel_rfl) HC3.out (fun h => by cases h) (HLB3.out.below hbc1) (u8c_one _) (by unfold maxLen; omega) (by omega) hbc1.size ?_
      intro vc2 Wc2 ownc2 grc2
      have hbc2 : Below w3.heap.size w3 Wc2 := hbc1.grown grc2 hbc1.size (fun g hg => ((own_form ownc1).choose_spec.choose_spec.2.2.2.2 g hg).1)
      obtain ⟨csc, hcsc⟩ : ∃ cs, ys ++ encB r = cs := ⟨_, rfl⟩
      have ownc3 : Wc2.ownsRow w3.heap.size 5 1 vc2 csc.length (u8c csc) := by
        rw [← hcsc, u8c_append, ← u8c_length, u8c_append, List.length_append, HC4.out, HC3.out]; simpa using ownc2
      obtain ⟨Ac, capc, rfl, hlec, hcmc, hlic, _⟩ := own_form ownc3
      have HVcc := Lib.hid (uvalid_any Ac capc csc Wc2 (HT3.out.below h23 hbc2) hlic hlec hcmc)
      have HCSc := Lib.hid hcsc
      clear hcsc ownc ownc1 ownc2 ownc3 grc1 grc2 hlic hlec hcmc hbAc hbc1 hbc
      refine hK _ _ ?_
      clear hK K
      refine wpAny_ready (rs := [26]) (by kernel_rfl) (by simp) ?_
      refine AllReady.cons rfl (fun K hK => ?_) AllReady.nil
      go_simp
      refine HVcc.out.mono ?_
      rintro e Wc3 ⟨rfl, hbvc⟩
      rw [← HCSc.out, HV3.out]
      dsimp only
      refine hK _ _ ?_
      clear hK K
      refine wpAny_take (i := 27) (v := .bool true) rfl (by kernel_rfl) (by kernel_rfl) (by kernel_rfl) (fun _ _ _ h => h) (Or.inl ⟨by kernel_rfl, ?_⟩) ?_
      · intro w; go_simp
      refine wpAny_take (i := 28) (v := .bool true) rfl (by kernel_rfl) (by kernel_rfl) (by kernel_rfl) (fun _ _ _ h => h) (Or.inl ⟨by kernel_rfl, ?_⟩) ?_
      · intro w; go_simp
      refine wpAny_done (by kernel_rfl) ?_ _
      go_simp
      go_wp2
      go_ret
      exact ⟨rfl, hb3'.trans ((hbc2.trans (hbvc.mono hbc2.size)).mono hs3)⟩
theorem walk (r at' : Int) (A : Option Addr) (c : Nat) (zs : List Int) (w : World) (hT : Tabs w) (hl : Lies w w.heap.size A (i32s zs)) (hc : zs.length ≤ c) (hcm : c ≤ 9223372036854775807) (ha0 : 0 ≤ at') (ha1 : at' < 256) :
    Calls Tryd.prog 7 #[.int .i32 r, .int .u8 at', .slice A zs.length c] w fun e w' => e = .returned (.bool true) ∧ Below w.heap.size w w' := by
  by_cases h : 100 < zs.length ∨ chB r = false ∨ r < 128
  · exact walk_out r at' A zs.length c w hT (by omega) h
  · have h1 : ¬ 100 < zs.length := fun h' => h (.inl h')
    have h2 : chB r = true := by
      cases hc' : chB r with
      | true => rfl
      | false => exact absurd (.inr (.inl hc')) h
    have h3 : ¬ r < 128 := fun h' => h (.inr (.inr h'))
    exact walk_in r at' A c zs w hT hl hc hcm (by omega) h2 (by omega) ha0 ha1
set_option maxRecDepth 100000 in
theorem lifted (os : Os) (started : os.Started) (H : Type) (enc : TypeId × Value → H) :
    ReturnsInHanded {} Tryd.checked os 7 .any (fun w args => (Rows.utfCutsSpec.pre enc Tryd.prog Tryd.f7 [] false w args ∧ laidMetH Tryd.prog laidL w) ∧ sizedMet enc Tryd.prog Tryd.f7 (OpenSpec.ofChange Rows.utfCutsSpec) false w args)
      (Rows.utfCutsSpec.post enc Tryd.prog Tryd.f7 false true false false) := by
  refine returnsInHanded_of_change_and (C := Tryd.checked) (X := fun w _ => laidMetH Tryd.prog laidL w) (fun _ _ _ hh h => h.of_heap hh) own started (by kernel_rfl) Tryd.func7
    (ChangeSpec.witness_shaped (enc := enc) (C := Tryd.checked) (os := os) (X := fun w _ => laidMetH Tryd.prog laidL w) false (World.laidAll Tryd.prog os laidL) #[.int .i32 0, .int .u8 0, .slice none 0 0] 8 (World.laidAll_os _ _ _)
      (World.shaped_of_ZipB (by kernel_rfl) (by kernel_rfl)) (by kernel_rfl) (by kernel_rfl) (by kernel_rfl) (start_met os _)) ?_
  intro W base args ds gs before hval0 hW _ _ hL _
  have hval : ∀ (j : Nat) t v, Tryd.f7.params[j]? = some t → args[j]? = some v → Value.okWide Tryd.prog W .any base t v := hval0
  have hW' := hW
  obtain ⟨p, q, hA0, hV, rfl, _, _⟩ := hW
  have hA : DataW.TrodAll enc Tryd.prog W 0 (fun _ => true) true Tryd.f7.params.toList args.toList ds p := hA0
  rw [Tryd.params7] at hA hval
  obtain ⟨v0, v1, v2, d0, d1, d2, p0, p1, p2, rfl, rfl, rfl, h0, h1, h2⟩ := trodAll_three hA
  obtain ⟨rfl, rfl⟩ := trodVars_none hV
  obtain ⟨A2, zs2, cap2, rfl, hle2, hcm2, hli2, hnil2, hwf2⟩ := open_i32 (hval 2 24 v2 rfl rfl) h2
  simp only [List.append_nil] at hW'
  have hlt : ∀ x ∈ p0 ++ p1 ++ p2, x.block < W.heap.size := fun x hx => by simpa using hW'.lt x hx
  have h0k := h0
  obtain ⟨x0, rfl, rfl, rfl, wx0⟩ := open_int Tryd.underlying21 (hval 0 21 v0 rfl rfl) h0
  have h1k := h1
  obtain ⟨x1, rfl, rfl, rfl, wx1⟩ := open_int Tryd.underlying5 (hval 1 5 v1 rfl rfl) h1
  refine (walk x0 x1 A2 cap2 zs2 W (tabs_of_laid hL) hli2 hle2 hcm2 (u8_lo wx1) (u8_hi wx1)).mono fun e W' ⟨he, hb⟩ => ?_
  subst he
  exact ⟨_, rfl, _, _, _, [], _, [], hW', trodAll_mk1 (shut_bool Tryd.underlying4 _), trodAll_mk3 (shut_int Tryd.underlying21 wx0) (shut_int Tryd.underlying5 wx1) (Below.trod laidOut (by kernel_rfl) (of_decide_eq_true (by kernel_rfl)) h2 hb (fun x (hx : x ∈ p2) => hlt x (by simp [hx]))), rfl, hb.frame _, fun h => by cases h⟩
theorem holds : Rows.UtfCutsSaid :=
  OpenClaim.holds_of_wide 7 Tryd.f7 rfl rfl rfl rfl rfl rfl rfl ⟨rfl, rfl, rfl, rfl, rfl⟩ rfl rfl rfl rfl rfl (by kernel_rfl) Tryd.func7 (by kernel_rfl)
    (of_decide_eq_true (by kernel_rfl)) (by unfold Func.isWrapper; first | (rw [if_pos (by decide +kernel)]; kernel_rfl) | (rw [if_neg (by decide +kernel)]; exact ⟨rfl, rfl⟩))
    (fun os started H enc _ => lifted os started H enc)
end UtfCuts
end Go.Proofs.YtboanbnpahejeaaDoor
