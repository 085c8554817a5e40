/-
  For every list of up to 500 numbers: utf.Bytes answers the characters' bytes that the document says, which are read as they were; of others none. Conditions: the two tables of unicode/utf8 lie as the program's text lays them.
-/
import Derived.Test.YtboanbnpahejeaaDoorAppLies
import Derived.Test.YtboanbnpahejeaaDoorRefBytes
import Derived.Test.YtboanbnpahejeaaDoorText
import Derived.Test.YtboanbnpahejeaaDoorOpen
import Derived.OpenShut
import Derived.Stop.Joined
import Derived.Deep.RegionWith
import Derived.RegionTactic
import Derived.Deep.CutBlock
import Derived.Deep.DeepCutAuto
import Derived.Deep.DeepMust
namespace Go.Proofs.YtboanbnpahejeaaDoor
namespace UtfWrites
open Go.ChangeShapes Go.WideShapes Go.ChangeAt Go.RowKit
set_option linter.unusedVariables false
theorem walk_long (A : Option Addr) (n c : Nat) (w : World) (hT : Tabs w) (hn : 500 < n) (hcm : n ≤ 9223372036854775807) :
    Calls Tryd.prog 4 #[.slice A n c] w fun e w' => e = .returned (.bool true) ∧ Below w.heap.size w w' := by
  have h2 := hT.two
  have HT := Lib.hid hT
  clear hT
  have hz : (500 : Int) < n := by omega
  go_enter Tryd.func4, Tryd.ntmps4
  go_wp2_with fail
  refine (awake_any w HT.out).mono ?_
  rintro e w1 ⟨rfl, hb1⟩
  go_wp2_with fail
  refine (awake_any w1 (HT.out.below h2 hb1)).mono ?_
  rintro e w2 ⟨rfl, hb2⟩
  go_wp2
  go_ret
  exact ⟨rfl, hb1.trans (hb2.mono hb1.size)⟩
/-- What holds at the first loop's heads. -/
def Rel1 (zs : List Int) (v i : Value) : Prop := ∃ k : Nat, k ≤ zs.length ∧ i = .int .i64 k ∧ v = .bool ((zs.take k).all chB)
/-- What holds at the second loop's heads. -/
def Rel2 (w : World) (l : List Int) (i : Value) (wr : World) : Prop := ∃ k : Nat, k ≤ l.length ∧ i = .int .i64 k ∧ Below w.heap.size w wr
set_option maxHeartbeats 8000000 in
theorem walk_short (A : Option Addr) (c : Nat) (zs : List Int) (w : World) (hT : Tabs w) (hl : Lies w w.heap.size A (i32s zs)) (hc : zs.length ≤ c) (hcm : c ≤ 9223372036854775807) (hn : zs.length ≤ 500) :
    Calls Tryd.prog 4 #[.slice A zs.length c] w fun e w' => e = .returned (.bool true) ∧ Below w.heap.size w w' := by
  have h2 := hT.two
  have HT := Lib.hid hT
  have HL := Lib.hid hl
  clear hT hl
  have hz : ¬ (500 : Int) < zs.length := by omega
  go_enter Tryd.func4, Tryd.ntmps4
  go_wp2_with fail
  refine (awake_any w HT.out).mono ?_
  rintro e w1 ⟨rfl, hb1⟩
  have hs1 := hb1.size
  have HL1 := Lib.hid ((HL.out.below hb1).mono hs1)
  go_wp2
  go_loop [3, 20] (Rel1 zs) (fun _ i => zs.length - (intOf i).toNat)
  case atStart => exact ⟨0, Nat.zero_le _, rfl, rfl⟩
  case round =>
    obtain ⟨k, hk, rfl, rfl⟩ := hrel
    by_cases hlt : k < zs.length
    · obtain ⟨b, o, rfl, hbB, hcell⟩ := HL1.out (by intro h; simp [i32s] at h; subst h; simp at hlt)
      have hck : w1.cell? ⟨b, o + k, none⟩ = some (.int .i32 zs[k]) := by
        have := hcell k (by simpa [i32s] using hlt)
        simpa [i32s] using this
      have HAS := Lib.hid (all_snoc chB zs k hlt)
      clear hcell
      generalize zs[k] = z at hck HAS
      generalize (zs.take k).all chB = q at HAS ⊢
      cases q with
      | true =>
        go_wp2_with (go_at_call 14; refine (char_any _ _).mono ?_; rintro e w' ⟨rfl, rfl⟩)
        all_goals
          go_round
          case rel => exact ⟨k + 1, hlt, by go_num, by rw [HAS.out]; simp⟩
          case measure => simp [intOf]; omega
      | false =>
        go_wp2
        go_round
        case rel => exact ⟨k + 1, hlt, by go_num, by rw [HAS.out]; simp⟩
        case measure => simp [intOf]; omega
    · have hke : zs.take k = zs := List.take_of_length_le (by omega)
      rw [hke]
      have HB := Lib.hid (bytes_any A c zs w1 HL1.out (by omega))
      clear hke
      cases hall : zs.all chB with
      | false =>
        have HALL : Hid (zs.all chB = false) := Lib.hid hall
        clear hall
        go_wp2_with fail
        refine HB.out.mono ?_
        rintro e w2 ⟨hb2, ⟨h, _⟩ | ⟨_, rfl⟩⟩
        · rw [HALL.out] at h; cases h
        go_wp2
        go_ret
        exact ⟨rfl, hb1.trans (hb2.mono hs1)⟩
      | true =>
        have HALL : Hid (zs.all chB = true) := Lib.hid hall
        clear hall
        go_wp2_with fail
        refine HB.out.mono ?_
        rintro e w2 ⟨hb2, ⟨_, v, rfl, hown⟩ | ⟨h, _⟩⟩
        rotate_left
        · rw [HALL.out] at h; cases h
        rw [u8s_encs HALL.out, encs_length] at hown
        have hel := encBs_le zs
        obtain ⟨ys, hys⟩ : ∃ ys, encBs zs = ys := ⟨_, rfl⟩
        rw [hys] at hown hel
        have HYS := Lib.hid hys
        obtain ⟨A2, cap2, hv2, hle2, hcm2, hli2, _⟩ := own_form hown
        have hb2' : Below w.heap.size w w2 := hb1.trans (hb2.mono hs1)
        have hs2 := hb2'.size
        have HLI := Lib.hid hli2
        have HCH := chars_any A2 cap2 ys w2 (HT.out.below h2 hb2') HLI.out hle2 hcm2 (by omega)
        rw [← hv2] at HCH
        have HCH' := Lib.hid HCH
        have HV2 := Lib.hid hv2
        clear hys hown hli2 HB hb2 HCH hv2
        go_wp2_with fail
        refine HCH'.out.mono ?_
        rintro e w3 ⟨⟨l, A3, cap3, hall, hbs, rfl, hli3⟩ | ⟨h, _⟩, hb3⟩
        rotate_left
        · have := (valid_iff ys).2 ⟨zs, HALL.out, HYS.out.symm⟩
          rw [h] at this; cases this
        obtain rfl : l = zs := encBs_inj hall HALL.out (by rw [← hbs, HYS.out])
        clear hall hbs HCH'
        have hb3' : Below w.heap.size w w3 := hb2'.trans (hb3.mono hs2)
        have hs3 := hb3'.size
        have LB3 := (HLI.out.below hb3).mono hb3.size
        have LZ3 := (HL.out.below hb3').mono hs3
        have HX3 := Lib.hid hli3
        have hA := conv_lies (w := w3.drew) cap2 (LB3.below (Below.refl _ _).drew)
        rw [← HV2.out] at hA
        have HRB := Lib.hid (refBytes_any A c l w3.drew (LZ3.below (Below.refl _ _).drew) HALL.out (by omega))
        have HLB3 := Lib.hid LB3
        obtain ⟨s, hs⟩ : ∃ s : ByteArray, ⟨ys.toArray⟩ = s := ⟨_, rfl⟩
        rw [hs] at hA
        have HS := Lib.hid hs
        clear hs LB3 LZ3 hli3 hb3 HLI
        have hss : (s.toList == s.toList) = true := by simp
        have hll : ((l.length : Int) != (l.length : Int)) = false := by simp
        go_upto_region 13 with fail
        go_cut [71] from 51 to 71 (fun c wx => c = .bool false ∧ Below w3.heap.size w3 wx)
        case first =>
          clear HT HL HL1 HX3 hb1 hs1 hb2' hs2 hb3' hs3 hle2 hcm2 hel hc hcm hn h2 hz hlt hk HALL
          refine wp_region_any (by kernel_rfl) ?_
          change wpAny _ _ _ _ _ _ _ (World.drew _)
          refine wpAny_take (i := 0) (v := .bool true) rfl (by kernel_rfl) (by kernel_rfl) (by kernel_rfl) (fun _ _ _ h => h) (Or.inl ⟨by kernel_rfl, ?_⟩) ?_
          · intro w; go_simp
          refine wpAny_take (i := 1) (v := .bool false) rfl (by kernel_rfl) (by kernel_rfl) (by kernel_rfl) (fun _ _ _ h => h) (Or.inl ⟨by kernel_rfl, ?_⟩) ?_
          · intro w; go_simp
          refine wpAny_take (i := 2) (v := .bool false) rfl (by kernel_rfl) (by kernel_rfl) (by kernel_rfl) (fun _ _ _ h => h) (Or.inl ⟨by kernel_rfl, ?_⟩) ?_
          · intro w; go_simp
          refine wpAny_take (i := 3) (v := .bool true) rfl (by kernel_rfl) (by kernel_rfl) (by kernel_rfl) (fun _ _ _ h => h) (Or.inl ⟨by kernel_rfl, ?_⟩) ?_
          · intro w; go_simp
          refine wpAny_take (i := 4) (v := .bool false) rfl (by kernel_rfl) (by kernel_rfl) (by kernel_rfl) (fun _ _ _ h => h) (Or.inl ⟨by kernel_rfl, ?_⟩) ?_
          · intro w; go_simp
          refine wpAny_take (i := 5) (v := .bool false) rfl (by kernel_rfl) (by kernel_rfl) (by kernel_rfl) (fun _ _ _ h => h) (Or.inl ⟨by kernel_rfl, ?_⟩) ?_
          · intro w; go_simp
          refine wpAny_take (i := 6) (v := .bool false) rfl (by kernel_rfl) (by kernel_rfl) (by kernel_rfl) (fun _ _ _ h => h) (Or.inl ⟨by kernel_rfl, ?_⟩) ?_
          · intro w; go_simp
          refine wpAny_take (i := 7) (v := v) rfl (by kernel_rfl) (by kernel_rfl) (by kernel_rfl) (fun _ _ _ h => h) (Or.inl ⟨by kernel_rfl, ?_⟩) ?_
          · intro w; go_simp
          refine wpAny_take (i := 9) (v := .slice A l.length c) rfl (by kernel_rfl) (by kernel_rfl) (by kernel_rfl) (fun _ _ _ h => h) (Or.inl ⟨by kernel_rfl, ?_⟩) ?_
          · intro w; go_simp
          refine wpAny_ready (rs := [8, 10]) (by kernel_rfl) (by simp) ?_
          refine AllReady.cons rfl (fun K hK => ?_) (AllReady.cons rfl (fun K hK => ?_) AllReady.nil)
          · go_simp
            refine hK _ _ ?_
            clear hK K
            refine wpAny_ready (rs := [10]) (by kernel_rfl) (by simp) ?_
            refine AllReady.cons rfl (fun K hK => ?_) AllReady.nil
            go_simp
            (with_reducible refine HRB.out.mono ?_)
            rintro e w5 ⟨v5, rfl, hown5, hb5⟩
            rw [HYS.out] at hown5
            obtain ⟨A5, cap5, hv5, hle5, hcm5, hli5, _⟩ := own_form hown5
            have hC := conv_lies cap5 hli5
            have hD := conv_lies cap2 (HLB3.out.below ((Below.refl w3.heap.size w3).drew.trans hb5))
            rw [HS.out] at hC hD
            rw [← hv5] at hC
            rw [← HV2.out] at hD
            clear hown5 hli5 hv5
            dsimp only
            refine hK _ _ ?_
            clear hK K
            refine wpAny_ready (rs := [11]) (by kernel_rfl) (by simp) ?_
            refine AllReady.cons rfl (fun K hK => ?_) AllReady.nil
            go_simp
            refine hK _ _ ?_
            clear hK K
            refine wpAny_take (i := 12) (v := .bool false) rfl (by kernel_rfl) (by kernel_rfl) (by kernel_rfl) (fun _ _ _ h => h) (Or.inl ⟨by kernel_rfl, ?_⟩) ?_
            · intro w; go_simp
            refine wpAny_take (i := 13) (v := .bool false) rfl (by kernel_rfl) (by kernel_rfl) (by kernel_rfl) (fun _ _ _ h => h) (Or.inl ⟨by kernel_rfl, ?_⟩) ?_
            · intro w; go_simp
            refine wpAny_take (i := 14) (v := .bool false) rfl (by kernel_rfl) (by kernel_rfl) (by kernel_rfl) (fun _ _ _ h => h) (Or.inl ⟨by kernel_rfl, ?_⟩) ?_
            · intro w; go_simp
            refine wpAny_take (i := 15) (v := .slice A3 l.length cap3) rfl (by kernel_rfl) (by kernel_rfl) (by kernel_rfl) (fun _ _ _ h => h) (Or.inl ⟨by kernel_rfl, ?_⟩) ?_
            · intro w; go_simp
            refine wpAny_take (i := 16) (v := .int .i64 l.length) rfl (by kernel_rfl) (by kernel_rfl) (by kernel_rfl) (fun _ _ _ h => h) (Or.inl ⟨by kernel_rfl, ?_⟩) ?_
            · intro w; go_simp
            refine wpAny_take (i := 17) (v := .slice A l.length c) rfl (by kernel_rfl) (by kernel_rfl) (by kernel_rfl) (fun _ _ _ h => h) (Or.inl ⟨by kernel_rfl, ?_⟩) ?_
            · intro w; go_simp
            refine wpAny_take (i := 18) (v := .int .i64 l.length) rfl (by kernel_rfl) (by kernel_rfl) (by kernel_rfl) (fun _ _ _ h => h) (Or.inl ⟨by kernel_rfl, ?_⟩) ?_
            · intro w; go_simp
            refine wpAny_take (i := 19) (v := .bool false) rfl (by kernel_rfl) (by kernel_rfl) (by kernel_rfl) (fun _ _ _ h => h) (Or.inl ⟨by kernel_rfl, ?_⟩) ?_
            · intro w; go_simp
            refine wpAny_take (i := 20) (v := .bool false) rfl (by kernel_rfl) (by kernel_rfl) (by kernel_rfl) (fun _ _ _ h => h) (Or.inl ⟨by kernel_rfl, ?_⟩) ?_
            · intro w; go_simp
            refine wpAny_done (by kernel_rfl) ?_ _
            go_simp
            go_wp2
            go_meet
            exact ⟨rfl, (Below.refl _ _).drew.trans hb5⟩
          · go_simp
            (with_reducible refine HRB.out.mono ?_)
            rintro e w5 ⟨v5, rfl, hown5, hb5⟩
            rw [HYS.out] at hown5
            obtain ⟨A5, cap5, hv5, hle5, hcm5, hli5, _⟩ := own_form hown5
            have hC := conv_lies cap5 hli5
            have hD := conv_lies cap2 (HLB3.out.below ((Below.refl w3.heap.size w3).drew.trans hb5))
            rw [HS.out] at hC hD
            rw [← hv5] at hC
            rw [← HV2.out] at hD
            clear hown5 hli5 hv5
            dsimp only
            refine hK _ _ ?_
            clear hK K
            refine wpAny_ready (rs := [8, 11]) (by kernel_rfl) (by simp) ?_
            refine AllReady.cons rfl (fun K hK => ?_) (AllReady.cons rfl (fun K hK => ?_) AllReady.nil)
            · go_simp
              refine hK _ _ ?_
              clear hK K
              refine wpAny_ready (rs := [11]) (by kernel_rfl) (by simp) ?_
              refine AllReady.cons rfl (fun K hK => ?_) AllReady.nil
              go_simp
              refine hK _ _ ?_
              clear hK K
              refine wpAny_take (i := 12) (v := .bool false) rfl (by kernel_rfl) (by kernel_rfl) (by kernel_rfl) (fun _ _ _ h => h) (Or.inl ⟨by kernel_rfl, ?_⟩) ?_
              · intro w; go_simp
              refine wpAny_take (i := 13) (v := .bool false) rfl (by kernel_rfl) (by kernel_rfl) (by kernel_rfl) (fun _ _ _ h => h) (Or.inl ⟨by kernel_rfl, ?_⟩) ?_
              · intro w; go_simp
              refine wpAny_take (i := 14) (v := .bool false) rfl (by kernel_rfl) (by kernel_rfl) (by kernel_rfl) (fun _ _ _ h => h) (Or.inl ⟨by kernel_rfl, ?_⟩) ?_
              · intro w; go_simp
              refine wpAny_take (i := 15) (v := .slice A3 l.length cap3) rfl (by kernel_rfl) (by kernel_rfl) (by kernel_rfl) (fun _ _ _ h => h) (Or.inl ⟨by kernel_rfl, ?_⟩) ?_
              · intro w; go_simp
              refine wpAny_take (i := 16) (v := .int .i64 l.length) rfl (by kernel_rfl) (by kernel_rfl) (by kernel_rfl) (fun _ _ _ h => h) (Or.inl ⟨by kernel_rfl, ?_⟩) ?_
              · intro w; go_simp
              refine wpAny_take (i := 17) (v := .slice A l.length c) rfl (by kernel_rfl) (by kernel_rfl) (by kernel_rfl) (fun _ _ _ h => h) (Or.inl ⟨by kernel_rfl, ?_⟩) ?_
              · intro w; go_simp
              refine wpAny_take (i := 18) (v := .int .i64 l.length) rfl (by kernel_rfl) (by kernel_rfl) (by kernel_rfl) (fun _ _ _ h => h) (Or.inl ⟨by kernel_rfl, ?_⟩) ?_
              · intro w; go_simp
              refine wpAny_take (i := 19) (v := .bool false) rfl (by kernel_rfl) (by kernel_rfl) (by kernel_rfl) (fun _ _ _ h => h) (Or.inl ⟨by kernel_rfl, ?_⟩) ?_
              · intro w; go_simp
              refine wpAny_take (i := 20) (v := .bool false) rfl (by kernel_rfl) (by kernel_rfl) (by kernel_rfl) (fun _ _ _ h => h) (Or.inl ⟨by kernel_rfl, ?_⟩) ?_
              · intro w; go_simp
              refine wpAny_done (by kernel_rfl) ?_ _
              go_simp
              go_wp2
              go_meet
              exact ⟨rfl, (Below.refl _ _).drew.trans hb5⟩
            · go_simp
              refine hK _ _ ?_
              clear hK K
              refine wpAny_ready (rs := [8]) (by kernel_rfl) (by simp) ?_
              refine AllReady.cons rfl (fun K hK => ?_) AllReady.nil
              go_simp
              refine hK _ _ ?_
              clear hK K
              refine wpAny_take (i := 12) (v := .bool false) rfl (by kernel_rfl) (by kernel_rfl) (by kernel_rfl) (fun _ _ _ h => h) (Or.inl ⟨by kernel_rfl, ?_⟩) ?_
              · intro w; go_simp
              refine wpAny_take (i := 13) (v := .bool false) rfl (by kernel_rfl) (by kernel_rfl) (by kernel_rfl) (fun _ _ _ h => h) (Or.inl ⟨by kernel_rfl, ?_⟩) ?_
              · intro w; go_simp
              refine wpAny_take (i := 14) (v := .bool false) rfl (by kernel_rfl) (by kernel_rfl) (by kernel_rfl) (fun _ _ _ h => h) (Or.inl ⟨by kernel_rfl, ?_⟩) ?_
              · intro w; go_simp
              refine wpAny_take (i := 15) (v := .slice A3 l.length cap3) rfl (by kernel_rfl) (by kernel_rfl) (by kernel_rfl) (fun _ _ _ h => h) (Or.inl ⟨by kernel_rfl, ?_⟩) ?_
              · intro w; go_simp
              refine wpAny_take (i := 16) (v := .int .i64 l.length) rfl (by kernel_rfl) (by kernel_rfl) (by kernel_rfl) (fun _ _ _ h => h) (Or.inl ⟨by kernel_rfl, ?_⟩) ?_
              · intro w; go_simp
              refine wpAny_take (i := 17) (v := .slice A l.length c) rfl (by kernel_rfl) (by kernel_rfl) (by kernel_rfl) (fun _ _ _ h => h) (Or.inl ⟨by kernel_rfl, ?_⟩) ?_
              · intro w; go_simp
              refine wpAny_take (i := 18) (v := .int .i64 l.length) rfl (by kernel_rfl) (by kernel_rfl) (by kernel_rfl) (fun _ _ _ h => h) (Or.inl ⟨by kernel_rfl, ?_⟩) ?_
              · intro w; go_simp
              refine wpAny_take (i := 19) (v := .bool false) rfl (by kernel_rfl) (by kernel_rfl) (by kernel_rfl) (fun _ _ _ h => h) (Or.inl ⟨by kernel_rfl, ?_⟩) ?_
              · intro w; go_simp
              refine wpAny_take (i := 20) (v := .bool false) rfl (by kernel_rfl) (by kernel_rfl) (by kernel_rfl) (fun _ _ _ h => h) (Or.inl ⟨by kernel_rfl, ?_⟩) ?_
              · intro w; go_simp
              refine wpAny_done (by kernel_rfl) ?_ _
              go_simp
              go_wp2
              go_meet
              exact ⟨rfl, (Below.refl _ _).drew.trans hb5⟩
        case rest =>
          obtain ⟨rfl, hbc⟩ := hcut
          have hb4' : Below w.heap.size w wc := hb3'.trans (hbc.mono hs3)
          have hlx := (HX3.out.below hbc).mono hbc.size
          have hlz := (HL.out.below hb4').mono hb4'.size
          clear hA hss HRB HLB3 HS HV2 HYS
          go_wp2
          go_loopw [74] (Rel2 wc l) (fun i _ => l.length - (intOf i).toNat)
          case atStart => exact ⟨0, Nat.zero_le _, rfl, Below.refl _ _⟩
          case round =>
            obtain ⟨k, hk2, rfl, hbw⟩ := hrel
            by_cases hlt2 : k < l.length
            · obtain ⟨b, o, rfl, hbB, hcell⟩ := hlx (by intro h; simp [i32s] at h; subst h; simp at hlt2)
              obtain ⟨b', o', rfl, hbB', hcell'⟩ := hlz (by intro h; simp [i32s] at h; subst h; simp at hlt2)
              have hck : wr.cell? ⟨b, o + k, none⟩ = some (.int .i32 l[k]) := by
                have := (hbw.cell (p := ⟨b, o + k, none⟩) hbB).trans (hcell k (by simpa [i32s] using hlt2))
                simpa [i32s] using this
              have hck' : wr.cell? ⟨b', o' + k, none⟩ = some (.int .i32 l[k]) := by
                have := (hbw.cell (p := ⟨b', o' + k, none⟩) hbB').trans (hcell' k (by simpa [i32s] using hlt2))
                simpa [i32s] using this
              clear hcell hcell' hlx hlz
              generalize l[k] = z at hck hck'
              have hzz : (z != z) = false := by simp
              have hkz : (k : Int) < (l.length : Int) := by omega
              go_wp2_with fail
              go_quiet (fail)
              go_wp2
              go_roundw
              case rel => exact ⟨k + 1, hlt2, by go_num, drewN_below hbw _⟩
              case measure => simp [intOf]; omega
            · go_wp2
              go_ret
              exact ⟨rfl, hb4'.trans (hbw.mono hb4'.size)⟩
theorem walk (A : Option Addr) (c : Nat) (zs : List Int) (w : World) (hT : Tabs w) (hl : Lies w w.heap.size A (i32s zs)) (hc : zs.length ≤ c) (hcm : c ≤ 9223372036854775807) :
    Calls Tryd.prog 4 #[.slice A zs.length c] w fun e w' => e = .returned (.bool true) ∧ Below w.heap.size w w' := by
  by_cases h : 500 < zs.length
  · exact walk_long A zs.length c w hT h (by omega)
  · exact walk_short A c zs w hT hl hc hcm (by omega)
set_option maxRecDepth 100000 in
theorem lifted (os : Os) (started : os.Started) (H : Type) (enc : TypeId × Value → H) :
    ReturnsInHanded {} Tryd.checked os 4 .any (fun w args => (Rows.utfWritesSpec.pre enc Tryd.prog Tryd.f4 [] false w args ∧ laidMetH Tryd.prog laidL w) ∧ sizedMet enc Tryd.prog Tryd.f4 (OpenSpec.ofChange Rows.utfWritesSpec) false w args)
      (Rows.utfWritesSpec.post enc Tryd.prog Tryd.f4 false true false false) := by
  refine returnsInHanded_of_change_and (C := Tryd.checked) (X := fun w _ => laidMetH Tryd.prog laidL w) (fun _ _ _ hh h => h.of_heap hh) own started (by kernel_rfl) Tryd.func4
    (ChangeSpec.witness_shaped (enc := enc) (C := Tryd.checked) (os := os) (X := fun w _ => laidMetH Tryd.prog laidL w) false (World.laidAll Tryd.prog os laidL) #[.slice none 0 0] 8 (World.laidAll_os _ _ _)
      (World.shaped_of_ZipB (by kernel_rfl) (by kernel_rfl)) (by kernel_rfl) (by kernel_rfl) (by kernel_rfl) (start_met os _)) ?_
  intro W base args ds gs before hval0 hW _ _ hL _
  have hval : ∀ (j : Nat) t v, Tryd.f4.params[j]? = some t → args[j]? = some v → Value.okWide Tryd.prog W .any base t v := hval0
  have hW' := hW
  obtain ⟨p, q, hA0, hV, rfl, _, _⟩ := hW
  have hA : DataW.TrodAll enc Tryd.prog W 0 (fun _ => true) true Tryd.f4.params.toList args.toList ds p := hA0
  rw [Tryd.params4] at hA hval
  obtain ⟨v0, d0, rfl, rfl, h0⟩ := trodAll_one hA
  obtain ⟨rfl, rfl⟩ := trodVars_none hV
  obtain ⟨A0, zs0, cap0, rfl, hle0, hcm0, hli0, hnil0, hwf0⟩ := open_i32 (hval 0 24 v0 rfl rfl) h0
  simp only [List.append_nil] at hW'
  have hlt : ∀ x ∈ p, x.block < W.heap.size := fun x hx => by simpa using hW'.lt x hx
  refine (walk A0 cap0 zs0 W (tabs_of_laid hL) hli0 hle0 hcm0).mono fun e W' ⟨he, hb⟩ => ?_
  subst he
  exact ⟨_, rfl, _, _, _, [], p, [], hW', trodAll_mk1 (shut_bool Tryd.underlying4 _), trodAll_mk1 (Below.trod laidOut (by kernel_rfl) (of_decide_eq_true (by kernel_rfl)) h0 hb hlt), rfl, hb.frame _, fun h => by cases h⟩
theorem holds : Rows.UtfWritesSaid :=
  OpenClaim.holds_of_wide 4 Tryd.f4 rfl rfl rfl rfl rfl rfl rfl ⟨rfl, rfl, rfl, rfl, rfl⟩ rfl rfl rfl rfl rfl (by kernel_rfl) Tryd.func4 (by kernel_rfl)
    (of_decide_eq_true (by kernel_rfl)) (by unfold Func.isWrapper; first | (rw [if_pos (by decide +kernel)]; kernel_rfl) | (rw [if_neg (by decide +kernel)]; exact ⟨rfl, rfl⟩))
    (fun os started H enc _ => lifted os started H enc)
end UtfWrites
end Go.Proofs.YtboanbnpahejeaaDoor
