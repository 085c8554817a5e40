/-
  For every two slices of bytes: where both are characters' bytes, those of both, one behind the other, are xs many characters'. Conditions: the two tables of unicode/utf8 lie xs the program's text lays them.
-/
import Derived.Test.YtboanbnpahejeaaDoorAppLies
import Derived.Test.YtboanbnpahejeaaDoorOpen
import Derived.OpenShut
import Derived.Stop.Joined
namespace Go.Proofs.YtboanbnpahejeaaDoor
namespace UtfJoins
open Go.ChangeShapes Go.WideShapes Go.ChangeAt Go.RowKit
set_option linter.unusedVariables false
set_option maxHeartbeats 1000000 in
theorem walk_long (A A' : Option Addr) (n c n' c' : Nat) (w : World) (hT : Tabs w) (hn : 1000 < n ∨ 1000 < n') (hcm : n ≤ 9223372036854775807) (hcm' : n' ≤ 9223372036854775807) :
    Calls Tryd.prog 6 #[.slice A n c, .slice A' n' c'] w fun e w' => e = .returned (.bool true) ∧ Below w.heap.size w w' := by
  have h2 := hT.two
  have HT := Lib.hid hT
  clear hT
  by_cases hz1 : 1000 < n
  · clear hn
    have hz : (1000 : Int) < n := by omega
    go_enter Tryd.func6, Tryd.ntmps6
    go_wp2_with fail
    refine (awake_any w HT.out).mono ?_
    rintro e w1 ⟨rfl, hb1⟩
    go_wp2_with fail
    refine (awake_any w1 (HT.out.below h2 hb1)).mono ?_
    rintro e w2 ⟨rfl, hb2⟩
    go_wp2
    go_ret
    exact ⟨rfl, hb1.trans (hb2.mono hb1.size)⟩
  · have hz : ¬ (1000 : Int) < n := by omega
    have hz' : (1000 : Int) < n' := by omega
    clear hn
    go_enter Tryd.func6, Tryd.ntmps6
    go_wp2_with fail
    refine (awake_any w HT.out).mono ?_
    rintro e w1 ⟨rfl, hb1⟩
    go_wp2_with fail
    refine (awake_any w1 (HT.out.below h2 hb1)).mono ?_
    rintro e w2 ⟨rfl, hb2⟩
    go_wp2
    go_ret
    exact ⟨rfl, hb1.trans (hb2.mono hb1.size)⟩
set_option maxHeartbeats 2000000 in
theorem walk_short (A A' : Option Addr) (c c' : Nat) (xs bs : List UInt8) (w : World) (hT : Tabs w) (hl : Lies w w.heap.size A (u8c xs)) (hc : xs.length ≤ c) (hcm : c ≤ 9223372036854775807) (hnil : A = none → c = 0)
    (hl' : Lies w w.heap.size A' (u8c bs)) (hc' : bs.length ≤ c') (hcm' : c' ≤ 9223372036854775807) (hnil' : A' = none → c' = 0) (hn : xs.length ≤ 1000) (hn' : bs.length ≤ 1000) :
    Calls Tryd.prog 6 #[.slice A xs.length c, .slice A' bs.length c'] w fun e w' => e = .returned (.bool true) ∧ Below w.heap.size w w' := by
  have h2 := hT.two
  obtain ⟨i0, hi, hz0, hz1, hz2⟩ := info_parts byteInfo
  have HT := Lib.hid hT
  have HL := Lib.hid hl
  have HL' := Lib.hid hl'
  have HN := Lib.hid hnil
  have HN' := Lib.hid hnil'
  clear hT hl hl' hnil hnil'
  have hz : ¬ (1000 : Int) < xs.length := by omega
  have hz' : ¬ (1000 : Int) < bs.length := by omega
  go_enter Tryd.func6, Tryd.ntmps6
  go_wp2_with fail
  refine (awake_any w HT.out).mono ?_
  rintro e w1 ⟨rfl, hb1⟩
  have hs1 := hb1.size
  go_wp2_with fail
  refine (chars_uni A c xs w1 (HT.out.below h2 hb1) ((HL.out.below hb1).mono hs1) hc hcm (by omega)).mono ?_
  rintro e w2 ⟨⟨A1, n1, cap1, rfl, hle1, hlen1⟩, hb2⟩
  have hb2' : Below w.heap.size w w2 := hb1.trans (hb2.mono hs1)
  have hs2 := hb2'.size
  have HE1 := Lib.hid hlen1
  clear hb2 hlen1
  go_wp2_with fail
  refine (chars_uni A' c' bs w2 (HT.out.below h2 hb2') ((HL'.out.below hb2').mono hs2) hc' hcm' (by omega)).mono ?_
  rintro e w3 ⟨⟨A2, n2, cap2, rfl, hle2, hlen2⟩, hb3⟩
  have hb3' : Below w.heap.size w w3 := hb2'.trans (hb3.mono hs2)
  have hs3 := hb3'.size
  have HE2 := Lib.hid hlen2
  clear hb3 hlen2
  obtain ⟨O, hO⟩ : ∃ O, Obj.cells #[] 5 = O := ⟨_, rfl⟩
  have hown0 := own_empty w3 5 w.heap.size hs3
  rw [hO] at hown0
  have hb4 : Below w.heap.size w (w3.alloc O) := hb3'.alloc hs3 O
  have HA4 := Lib.hid ((HL.out.below hb4).mono (B' := (w3.alloc O).heap.size) (by have := hb4.size; omega))
  have hs4 := hb4.size
  have H63 : Hid (0 + xs.length ≤ maxLen ∧ (0 + xs.length) * 1 ≤ 140737488355328 ∧ xs.length + bs.length ≤ maxLen ∧ (xs.length + bs.length) * 1 ≤ 140737488355328) := Lib.hid ⟨by unfold maxLen; omega, by omega, by unfold maxLen; omega, by omega⟩
  have hC1 := u8c_length xs
  have hC2 := u8c_length bs
  have HC1 := Lib.hid hC1
  have HC2 := Lib.hid hC2
  clear hC1 hC2
  go_wp2_with (at_builtin; refine wpList_append_lies rfl (.tmp 35) (.tmp 36) 22 rfl w.heap.size 5 i0 (.int .u8 0) 1 Tryd.underlying22 hi hz0 hz1 hz2 rfl _ 0 [] rfl hown0 _ A xs.length c (u8c xs) rfl HC1.out HN.out HA4.out (u8c_one xs) H63.out.1 H63.out.2.1 hs4 ?_)
  intro v5 w5 hown5 hg5
  have hown5' : w5.ownsRow w.heap.size 5 1 v5 xs.length (u8c xs) := by simpa using hown5
  have HO5 := Lib.hid hown5'
  have hb5 : Below w.heap.size w w5 := hb4.grown hg5 hs4 (fun g hg => ((own_form hown0).choose_spec.choose_spec.2.2.2.2 g hg).1)
  have hs5 := hb5.size
  have HA5 := Lib.hid ((HL'.out.below hb5).mono hs5)
  clear hown5 hown5'
  go_wp2_with (at_builtin; refine wpList_append_lies rfl (.tmp 37) (.tmp 38) 22 rfl w.heap.size 5 i0 (.int .u8 0) 1 Tryd.underlying22 hi hz0 hz1 hz2 rfl v5 xs.length (u8c xs) rfl HO5.out _ A' bs.length c' (u8c bs) rfl HC2.out HN'.out HA5.out (u8c_one bs) H63.out.2.2.1 H63.out.2.2.2 hs5 ?_)
  intro v6 w6 hown6 hg6
  have hb6 : Below w.heap.size w w6 := hb5.grown hg6 hs5 (fun g hg => ((own_form HO5.out).choose_spec.choose_spec.2.2.2.2 g hg).1)
  have hs6 := hb6.size
  obtain ⟨cs, hcs⟩ : ∃ cs, xs ++ bs = cs := ⟨_, rfl⟩
  have hown7 : w6.ownsRow w.heap.size 5 1 v6 cs.length (u8c cs) := by
    rw [← hcs, List.length_append, u8c_append]; simpa using hown6
  have hcl : cs.length ≤ 2000 := by rw [← hcs, List.length_append]; omega
  have HCS := Lib.hid hcs
  clear hcs
  obtain ⟨A6, cap6, rfl, hle6, hcm6, hli6, _⟩ := own_form hown7
  have HLI6 := Lib.hid hli6
  clear hown0 HO5 hown6 hown7 hg5 hg6 hli6 HA4 HA5 hb4 hb5
  go_wp2_with fail
  refine (chars_uni A6 cap6 cs w6 (HT.out.below h2 hb6) HLI6.out hle6 hcm6 (by omega)).mono ?_
  rintro e w7 ⟨⟨A7, n7, cap7, rfl, hle7, hlen7⟩, hb7⟩
  have hb7' : Below w.heap.size w w7 := hb6.trans (hb7.mono hs6)
  clear hb7
  by_cases hv : Lib.validD xs = true ∧ Lib.validD bs = true
  · obtain ⟨hv1, hv2⟩ := hv
    obtain ⟨l1, a1, e1⟩ := (valid_iff xs).1 hv1
    obtain ⟨l2, a2, e2⟩ := (valid_iff bs).1 hv2
    have a3 : (l1 ++ l2).all chB = true := by rw [List.all_append, a1, a2]; rfl
    have e3 : cs = encBs (l1 ++ l2) := by rw [encBs_append, ← e1, ← e2, HCS.out]
    have hv3 : Lib.validD cs = true := (valid_iff _).2 ⟨_, a3, e3⟩
    have hlen : n7 = n1 + n2 := by rw [hlen7 _ a3 e3, HE1.out _ a1 e1, HE2.out _ a2 e2, List.length_append]
    rw [hv1, hv2, hv3]
    have hq : ((n7 : Int) == (n1 : Int) + (n2 : Int)) = true := by rw [beq_iff_eq]; omega
    clear e1 e2 e3 a1 a2 a3 hlen7 hlen hv1 hv2 hv3
    go_wp2
    go_ret
    exact ⟨rfl, hb7'⟩
  · clear hlen7
    generalize Lib.validD cs = q3
    cases hq1 : Lib.validD xs with
    | false =>
      generalize Lib.validD bs = q2
      go_wp2
      go_ret
      exact ⟨rfl, hb7'⟩
    | true =>
      have hq2 : Lib.validD bs = false := by
        cases h : Lib.validD bs with
        | false => rfl
        | true => exact absurd ⟨hq1, h⟩ hv
      rw [hq2]
      clear hq2 hq1 hv
      go_wp2
      go_ret
      exact ⟨rfl, hb7'⟩
theorem walk (A A' : Option Addr) (c c' : Nat) (xs bs : List UInt8) (w : World) (hT : Tabs w) (hl : Lies w w.heap.size A (u8c xs)) (hc : xs.length ≤ c) (hcm : c ≤ 9223372036854775807) (hnil : A = none → c = 0)
    (hl' : Lies w w.heap.size A' (u8c bs)) (hc' : bs.length ≤ c') (hcm' : c' ≤ 9223372036854775807) (hnil' : A' = none → c' = 0) :
    Calls Tryd.prog 6 #[.slice A xs.length c, .slice A' bs.length c'] w fun e w' => e = .returned (.bool true) ∧ Below w.heap.size w w' := by
  by_cases h : 1000 < xs.length ∨ 1000 < bs.length
  · exact walk_long A A' xs.length c bs.length c' w hT h (by omega) (by omega)
  · exact walk_short A A' c c' xs bs w hT hl hc hcm hnil hl' hc' hcm' hnil' (by omega) (by omega)
set_option maxRecDepth 100000 in
theorem lifted (os : Os) (started : os.Started) (H : Type) (enc : TypeId × Value → H) :
    ReturnsInHanded {} Tryd.checked os 6 .any (fun w args => (Rows.utfJoinsSpec.pre enc Tryd.prog Tryd.f6 [] false w args ∧ laidMetH Tryd.prog laidL w) ∧ sizedMet enc Tryd.prog Tryd.f6 (OpenSpec.ofChange Rows.utfJoinsSpec) false w args)
      (Rows.utfJoinsSpec.post enc Tryd.prog Tryd.f6 false true false false) := by
  refine returnsInHanded_of_change_and (C := Tryd.checked) (X := fun w _ => laidMetH Tryd.prog laidL w) (fun _ _ _ hh h => h.of_heap hh) own started (by kernel_rfl) Tryd.func6
    (ChangeSpec.witness_shaped (enc := enc) (C := Tryd.checked) (os := os) (X := fun w _ => laidMetH Tryd.prog laidL w) false (World.laidAll Tryd.prog os laidL) #[.slice none 0 0, .slice none 0 0] 8 (World.laidAll_os _ _ _)
      (World.shaped_of_ZipB (by kernel_rfl) (by kernel_rfl)) (by kernel_rfl) (by kernel_rfl) (by kernel_rfl) (start_met os _)) ?_
  intro W base args ds gs before hval0 hW _ _ hL _
  have hval : ∀ (j : Nat) t v, Tryd.f6.params[j]? = some t → args[j]? = some v → Value.okWide Tryd.prog W .any base t v := hval0
  have hW' := hW
  obtain ⟨p, q, hA0, hV, rfl, _, _⟩ := hW
  have hA : DataW.TrodAll enc Tryd.prog W 0 (fun _ => true) true Tryd.f6.params.toList args.toList ds p := hA0
  rw [Tryd.params6] at hA hval
  obtain ⟨v0, v1, d0, d1, p0, p1, rfl, rfl, rfl, h0, h1⟩ := trodAll_two hA
  obtain ⟨rfl, rfl⟩ := trodVars_none hV
  obtain ⟨A0, bs0, cap0, rfl, hle0, hcm0, hli0, hnil0⟩ := open_u8 (hval 0 22 v0 rfl rfl) h0
  obtain ⟨A1, bs1, cap1, rfl, hle1, hcm1, hli1, hnil1⟩ := open_u8 (hval 1 22 v1 rfl rfl) h1
  simp only [List.append_nil] at hW'
  have hlt : ∀ x ∈ p0 ++ p1, x.block < W.heap.size := fun x hx => by simpa using hW'.lt x hx
  refine (walk A0 A1 cap0 cap1 bs0 bs1 W (tabs_of_laid hL) hli0 hle0 hcm0 hnil0 hli1 hle1 hcm1 hnil1).mono fun e W' ⟨he, hb⟩ => ?_
  subst he
  exact ⟨_, rfl, _, _, _, [], p0 ++ p1, [], hW', trodAll_mk1 (shut_bool Tryd.underlying4 _), trodAll_mk2 (Below.trod laidOut (by kernel_rfl) (of_decide_eq_true (by kernel_rfl)) h0 hb (fun x hx => hlt x (by simp [hx]))) (Below.trod laidOut (by kernel_rfl) (of_decide_eq_true (by kernel_rfl)) h1 hb (fun x hx => hlt x (by simp [hx]))), rfl, hb.frame _, fun h => by cases h⟩
theorem holds : Rows.UtfJoinsSaid :=
  OpenClaim.holds_of_wide 6 Tryd.f6 rfl rfl rfl rfl rfl rfl rfl ⟨rfl, rfl, rfl, rfl, rfl⟩ rfl rfl rfl rfl rfl (by kernel_rfl) Tryd.func6 (by kernel_rfl)
    (of_decide_eq_true (by kernel_rfl)) (by unfold Func.isWrapper; first | (rw [if_pos (by decide +kernel)]; kernel_rfl) | (rw [if_neg (by decide +kernel)]; exact ⟨rfl, rfl⟩))
    (fun os started H enc _ => lifted os started H enc)
end UtfJoins
end Go.Proofs.YtboanbnpahejeaaDoor
