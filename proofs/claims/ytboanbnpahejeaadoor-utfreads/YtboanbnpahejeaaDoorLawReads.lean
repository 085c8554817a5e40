/-
  For every slice of bytes: utf.Chars, utf.Valid and utf.Text answer what the document's own answers are. Conditions: the two tables of unicode/utf8 lie as the program's text lays them.
-/
import Derived.Test.YtboanbnpahejeaaDoorText
import Derived.Test.YtboanbnpahejeaaDoorOpen
import Derived.OpenShut
import Derived.Stop.Joined
namespace Go.Proofs.YtboanbnpahejeaaDoor
namespace UtfReads
open Go.ChangeShapes Go.WideShapes Go.ChangeAt Go.RowKit
set_option linter.unusedVariables false
theorem walk_long (A : Option Addr) (n c : Nat) (w : World) (hT : Tabs w) (hn : 2000 < n) (hnc : n ≤ c) (hcm : c ≤ 9223372036854775807) :
    Calls Tryd.prog 3 #[.slice A n c] w fun e w' => e = .returned (.bool true) ∧ Below w.heap.size w w' := by
  have h2 := hT.two
  have HT := Lib.hid hT
  clear hT
  have hz : (2000 : Int) < n := by omega
  go_enter Tryd.func3, Tryd.ntmps3
  go_wp2_with fail
  refine (awake_any w HT.out).mono ?_
  rintro e w1 ⟨rfl, hb1⟩
  go_wp2_with fail
  refine (awake_any w1 (HT.out.below h2 hb1)).mono ?_
  rintro e w2 ⟨rfl, hb2⟩
  go_wp2
  go_ret
  exact ⟨rfl, hb1.trans (hb2.mono hb1.size)⟩
theorem enc_false {bs : List UInt8} {l : List Int} (hv : Lib.validD bs = false) (hl : l.all chB = true) (hb : bs = encBs l) : False := by
  have := (valid_iff bs).2 ⟨l, hl, hb⟩
  rw [hv] at this; cases this
set_option maxHeartbeats 2000000 in
theorem walk_bad (A : Option Addr) (c : Nat) (bs : List UInt8) (w : World) (hT : Tabs w) (hl : Lies w w.heap.size A (u8c bs)) (hc : bs.length ≤ c) (hcm : c ≤ 9223372036854775807) (hn : bs.length ≤ 2000) (hv : Lib.validD bs = false) :
    Calls Tryd.prog 3 #[.slice A bs.length c] w fun e w' => e = .returned (.bool true) ∧ Below w.heap.size w w' := by
  have h2 := hT.two
  have HT := Lib.hid hT
  have HL := Lib.hid hl
  have HV := Lib.hid hv
  clear hT hl hv
  have hz : ¬ (2000 : Int) < bs.length := by omega
  go_enter Tryd.func3, Tryd.ntmps3
  go_wp2_with fail
  refine (awake_any w HT.out).mono ?_
  rintro e w1 ⟨rfl, hb1⟩
  have hs1 := hb1.size
  go_wp2_with fail
  refine (chars_any A c bs w1 (HT.out.below h2 hb1) ((HL.out.below hb1).mono hs1) hc hcm (by omega)).mono ?_
  rintro e w2 ⟨⟨l, A1, cap1, hall, hbs, rfl, hli⟩ | ⟨_, rfl⟩, hb2⟩
  · exact (enc_false HV.out hall hbs).elim
  have hb2' : Below w.heap.size w w2 := hb1.trans (hb2.mono hs1)
  have hs2 := hb2'.size
  clear hb2
  go_wp2_with fail
  refine (refChars_any A c bs w2 ((HL.out.below hb2').mono hs2) hc hcm (by omega)).mono ?_
  rintro e w3 ⟨⟨l, v, hall, hbs, rfl, hown⟩ | ⟨_, rfl⟩, hb3⟩
  · exact (enc_false HV.out hall hbs).elim
  have hb3' : Below w.heap.size w w3 := hb2'.trans (hb3.mono hs2)
  have hs3 := hb3'.size
  clear hb3
  go_wp2_with fail
  refine (uvalid_any A c bs w3 (HT.out.below h2 hb3') ((HL.out.below hb3').mono hs3) hc hcm).mono ?_
  rintro e w4 ⟨rfl, hb4⟩
  rw [HV.out]
  have hb4' : Below w.heap.size w w4 := hb3'.trans (hb4.mono hs3)
  have hs4 := hb4'.size
  clear hb4
  go_wp2_with fail
  refine (text_any A c bs w4 (HT.out.below h2 hb4') ((HL.out.below hb4').mono hs4) hc hcm (by omega)).mono ?_
  rintro e w5 ⟨⟨l, hall, hbs, rfl⟩ | ⟨_, rfl⟩, hb5⟩
  · exact (enc_false HV.out hall hbs).elim
  have hb5' : Below w.heap.size w w5 := hb4'.trans (hb5.mono hs4)
  have hs5 := hb5'.size
  clear hb5
  go_wp2_with fail
  refine (refText_any A c bs w5 ((HL.out.below hb5').mono hs5) hc hcm (by omega)).mono ?_
  rintro e w6 ⟨⟨l, hall, hbs, rfl⟩ | ⟨_, rfl⟩, hb6⟩
  · exact (enc_false HV.out hall hbs).elim
  have hb6' : Below w.heap.size w w6 := hb5'.trans (hb6.mono hs5)
  clear hb6
  go_wp2
  refine wp_loop_rounds 1 ?_
  rw [rounds_succ]
  go_wp2
  go_ret
  exact ⟨rfl, hb6'⟩
/-- What holds at each round's head. -/
def Rel (w : World) (l : List Int) (i : Value) (wr : World) : Prop := ∃ k : Nat, k ≤ l.length ∧ i = .int .i64 k ∧ Below w.heap.size w wr
set_option maxHeartbeats 2000000 in
theorem walk_good (A : Option Addr) (c : Nat) (bs : List UInt8) (w : World) (hT : Tabs w) (hl : Lies w w.heap.size A (u8c bs)) (hc : bs.length ≤ c) (hcm : c ≤ 9223372036854775807) (hn : bs.length ≤ 2000) (hv : Lib.validD bs = true) :
    Calls Tryd.prog 3 #[.slice A bs.length c] w fun e w' => e = .returned (.bool true) ∧ Below w.heap.size w w' := by
  have h2 := hT.two
  have HT := Lib.hid hT
  have HL := Lib.hid hl
  have HV := Lib.hid hv
  clear hT hl hv
  have hz : ¬ (2000 : Int) < bs.length := by omega
  go_enter Tryd.func3, Tryd.ntmps3
  go_wp2_with fail
  refine (awake_any w HT.out).mono ?_
  rintro e w1 ⟨rfl, hb1⟩
  have hs1 := hb1.size
  go_wp2_with fail
  refine (chars_any A c bs w1 (HT.out.below h2 hb1) ((HL.out.below hb1).mono hs1) hc hcm (by omega)).mono ?_
  rintro e w2 ⟨⟨l, A1, cap1, hall, hbs, rfl, hli⟩ | ⟨h, _⟩, hb2⟩
  rotate_left
  · rw [HV.out] at h; cases h
  have hb2' : Below w.heap.size w w2 := hb1.trans (hb2.mono hs1)
  have hs2 := hb2'.size
  have HALL := Lib.hid hall
  have HBS := Lib.hid hbs
  have HLI := Lib.hid hli
  have hll : l.length ≤ 2000 := by have := encBs_long l; rw [← hbs] at this; omega
  clear hb2 hall hbs hli
  go_wp2_with fail
  refine (refChars_any A c bs w2 ((HL.out.below hb2').mono hs2) hc hcm (by omega)).mono ?_
  rintro e w3 ⟨⟨l', v, hall, hbs, rfl, hown⟩ | ⟨h, _⟩, hb3⟩
  rotate_left
  · rw [HV.out] at h; cases h
  obtain rfl : l' = l := encBs_inj hall HALL.out (by rw [← hbs, ← HBS.out])
  have hb3' : Below w.heap.size w w3 := hb2'.trans (hb3.mono hs2)
  have hs3 := hb3'.size
  have HLI3 := Lib.hid ((HLI.out.below hb3).mono hb3.size)
  obtain ⟨A2, cap2, rfl, _, _, hli2, _⟩ := own_form hown
  have HM := Lib.hid hli2
  clear hb3 hall hbs hown hli2 HLI
  go_wp2_with fail
  refine (uvalid_any A c bs w3 (HT.out.below h2 hb3') ((HL.out.below hb3').mono hs3) hc hcm).mono ?_
  rintro e w4 ⟨rfl, hb4⟩
  rw [HV.out]
  have hb4' : Below w.heap.size w w4 := hb3'.trans (hb4.mono hs3)
  have hs4 := hb4'.size
  have HLI4 := Lib.hid ((HLI3.out.below hb4).mono hb4.size)
  have HM4 := Lib.hid ((HM.out.below hb4).mono hb4.size)
  clear hb4 HLI3 HM
  go_wp2_with fail
  refine (text_any A c bs w4 (HT.out.below h2 hb4') ((HL.out.below hb4').mono hs4) hc hcm (by omega)).mono ?_
  rintro e w5 ⟨⟨l5, hall, hbs, rfl⟩ | ⟨h, _⟩, hb5⟩
  rotate_left
  · rw [HV.out] at h; cases h
  obtain rfl : l5 = l' := encBs_inj hall HALL.out (by rw [← hbs, ← HBS.out])
  have hb5' : Below w.heap.size w w5 := hb4'.trans (hb5.mono hs4)
  have hs5 := hb5'.size
  have HLI5 := Lib.hid ((HLI4.out.below hb5).mono hb5.size)
  have HM5 := Lib.hid ((HM4.out.below hb5).mono hb5.size)
  clear hb5 HLI4 HM4 hall hbs
  go_wp2_with fail
  refine (refText_any A c bs w5 ((HL.out.below hb5').mono hs5) hc hcm (by omega)).mono ?_
  rintro e w6 ⟨⟨l6, hall, hbs, rfl⟩ | ⟨h, _⟩, hb6⟩
  rotate_left
  · rw [HV.out] at h; cases h
  obtain rfl : l6 = l5 := encBs_inj hall HALL.out (by rw [← hbs, ← HBS.out])
  have hb6' : Below w.heap.size w w6 := hb5'.trans (hb6.mono hs5)
  have hli := (HLI5.out.below hb6).mono hb6.size
  have hm := (HM5.out.below hb6).mono hb6.size
  clear hb6 HLI5 HM5 hall hbs
  generalize l6.all xmlB = q
  have hq : (q != q) = false := by simp
  go_wp2
  go_loopw [51] (Rel w6 l6) (fun i _ => l6.length - (intOf i).toNat)
  case atStart => exact ⟨0, Nat.zero_le _, rfl, Below.refl _ _⟩
  case round =>
    obtain ⟨k, hk, rfl, hbw⟩ := hrel
    by_cases hlt : k < l6.length
    · obtain ⟨b, o, rfl, hbB, hcell⟩ := hli (by intro h; simp [i32s] at h; subst h; simp at hlt)
      obtain ⟨b', o', rfl, hbB', hcell'⟩ := hm (by intro h; simp [i32s] at h; subst h; simp at hlt)
      have hck : wr.cell? ⟨b, o + k, none⟩ = some (.int .i32 l6[k]) := by
        have := (hbw.cell (p := ⟨b, o + k, none⟩) hbB).trans (hcell k (by simpa [i32s] using hlt))
        simpa [i32s] using this
      have hck' : wr.cell? ⟨b', o' + k, none⟩ = some (.int .i32 l6[k]) := by
        have := (hbw.cell (p := ⟨b', o' + k, none⟩) hbB').trans (hcell' k (by simpa [i32s] using hlt))
        simpa [i32s] using this
      clear hcell hcell' hli hm
      generalize l6[k] = z at hck hck'
      have hzz : (z != z) = false := by simp
      have hkz : (k : Int) < (l6.length : Int) := by omega
      go_wp2_with fail
      go_quiet (fail)
      go_wp2
      go_roundw
      case rel => exact ⟨k + 1, hlt, by go_num, drewN_below hbw _⟩
      case measure => simp [intOf]; omega
    · go_wp2
      go_ret
      exact ⟨rfl, hb6'.trans (hbw.mono hb6'.size)⟩
theorem walk (A : Option Addr) (c : Nat) (bs : List UInt8) (w : World) (hT : Tabs w) (hl : Lies w w.heap.size A (u8c bs)) (hc : bs.length ≤ c) (hcm : c ≤ 9223372036854775807) :
    Calls Tryd.prog 3 #[.slice A bs.length c] w fun e w' => e = .returned (.bool true) ∧ Below w.heap.size w w' := by
  by_cases hn : 2000 < bs.length
  · exact walk_long A bs.length c w hT hn hc hcm
  · cases hv : Lib.validD bs with
    | false => exact walk_bad A c bs w hT hl hc hcm (by omega) hv
    | true => exact walk_good A c bs w hT hl hc hcm (by omega) hv
set_option maxRecDepth 100000 in
theorem lifted (os : Os) (started : os.Started) (H : Type) (enc : TypeId × Value → H) :
    ReturnsInHanded {} Tryd.checked os 3 .any (fun w args => (Rows.utfReadsSpec.pre enc Tryd.prog Tryd.f3 [] false w args ∧ laidMetH Tryd.prog laidL w) ∧ sizedMet enc Tryd.prog Tryd.f3 (OpenSpec.ofChange Rows.utfReadsSpec) false w args)
      (Rows.utfReadsSpec.post enc Tryd.prog Tryd.f3 false true false false) := by
  refine returnsInHanded_of_change_and (C := Tryd.checked) (X := fun w _ => laidMetH Tryd.prog laidL w) (fun _ _ _ hh h => h.of_heap hh) own started (by kernel_rfl) Tryd.func3
    (ChangeSpec.witness_shaped (enc := enc) (C := Tryd.checked) (os := os) (X := fun w _ => laidMetH Tryd.prog laidL w) false (World.laidAll Tryd.prog os laidL) #[.slice none 0 0] 8 (World.laidAll_os _ _ _)
      (World.shaped_of_ZipB (by kernel_rfl) (by kernel_rfl)) (by kernel_rfl) (by kernel_rfl) (by kernel_rfl) (start_met os _)) ?_
  intro W base args ds gs before hval0 hW _ _ hL _
  have hval : ∀ (j : Nat) t v, Tryd.f3.params[j]? = some t → args[j]? = some v → Value.okWide Tryd.prog W .any base t v := hval0
  have hW' := hW
  obtain ⟨p, q, hA0, hV, rfl, _, _⟩ := hW
  have hA : DataW.TrodAll enc Tryd.prog W 0 (fun _ => true) true Tryd.f3.params.toList args.toList ds p := hA0
  rw [Tryd.params3] at hA hval
  obtain ⟨v0, d0, rfl, rfl, h0⟩ := trodAll_one hA
  obtain ⟨rfl, rfl⟩ := trodVars_none hV
  obtain ⟨A, bs, cap, rfl, hle, hcm, hli, _⟩ := open_u8 (hval 0 22 v0 rfl rfl) h0
  simp only [List.append_nil] at hW'
  have hlt : ∀ x ∈ p, x.block < W.heap.size := fun x hx => by simpa using hW'.lt x hx
  refine (walk A cap bs W (tabs_of_laid hL) hli hle hcm).mono fun e W' ⟨he, hb⟩ => ?_
  subst he
  exact ⟨_, rfl, _, _, _, [], p, [], hW', trodAll_mk1 (shut_bool Tryd.underlying4 _), trodAll_mk1 (Below.trod laidOut (by kernel_rfl) (of_decide_eq_true (by kernel_rfl)) h0 hb hlt), rfl, hb.frame _, fun h => by cases h⟩
theorem holds : Rows.UtfReadsSaid :=
  OpenClaim.holds_of_wide 3 Tryd.f3 rfl rfl rfl rfl rfl rfl rfl ⟨rfl, rfl, rfl, rfl, rfl⟩ rfl rfl rfl rfl rfl (by kernel_rfl) Tryd.func3 (by kernel_rfl)
    (of_decide_eq_true (by kernel_rfl)) (by unfold Func.isWrapper; first | (rw [if_pos (by decide +kernel)]; kernel_rfl) | (rw [if_neg (by decide +kernel)]; exact ⟨rfl, rfl⟩))
    (fun os started H enc _ => lifted os started H enc)
end UtfReads
end Go.Proofs.YtboanbnpahejeaaDoor
