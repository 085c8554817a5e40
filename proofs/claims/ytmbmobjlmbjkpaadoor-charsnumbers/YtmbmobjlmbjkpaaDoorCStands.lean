/-
  The document's own answer for a reference. Conditions: the text is not too long.
-/
import Derived.Test.YtmbmobjlmbjkpaaDoorCMeant
import Derived.Test.YtmbmobjlmbjkpaaDoorOne
namespace Go.Proofs.YtmbmobjlmbjkpaaDoor
open Go.RowKit
set_option linter.unusedVariables false
/-- What is answered. -/
def StandsAns (S : ByteArray) (e : Ending) : Prop :=
  (∃ Y : ByteArray, refL S.data.toList = some Y.data.toList ∧ e = .returned (.tuple #[.string Y, .bool true])) ∨ (refL S.data.toList = none ∧ e = .returned (.tuple #[.string ⟨#[]⟩, .bool false]))
/-- No name's letters. -/
theorem name_tests {S : ByteArray} (h : nameZ S.data.toList = none) : (S.toList == [108, 116]) = false ∧ (S.toList == [103, 116]) = false ∧ (S.toList == [97, 109, 112]) = false ∧ (S.toList == [97, 112, 111, 115]) = false ∧ (S.toList == [113, 117, 111, 116]) = false := by
  unfold nameZ at h
  split at h
  · cases h
  split at h
  · cases h
  split at h
  · cases h
  split at h
  · cases h
  split at h
  · cases h
  · next a b c d e =>
    refine ⟨?_, ?_, ?_, ?_, ?_⟩ <;> rw [text_is, beq_eq_false_iff_ne]
    · exact a
    · exact b
    · exact c
    · exact d
    · exact e
set_option maxHeartbeats 2000000 in
theorem stands_name (S : ByteArray) (r : Int) (hr : nameZ S.data.toList = some r) (w : World) : Calls Tryd.prog 26 #[.string S] w fun e w' => StandsAns S e ∧ Below w.heap.size w w' := by
  unfold nameZ at hr
  split at hr
  · next e =>
    obtain rfl : S = ⟨#[108, 116]⟩ := ba_ext e
    clear hr e
    go_enter Tryd.func26, Tryd.ntmps26
    go_wp2
    go_ret2
    exact ⟨.inl ⟨⟨#[60]⟩, by decide, rfl⟩, Below.refl _ _⟩
  split at hr
  · next e =>
    obtain rfl : S = ⟨#[103, 116]⟩ := ba_ext e
    clear hr e
    go_enter Tryd.func26, Tryd.ntmps26
    go_wp2
    go_ret2
    exact ⟨.inl ⟨⟨#[62]⟩, by decide, rfl⟩, Below.refl _ _⟩
  split at hr
  · next e =>
    obtain rfl : S = ⟨#[97, 109, 112]⟩ := ba_ext e
    clear hr e
    go_enter Tryd.func26, Tryd.ntmps26
    go_wp2
    go_ret2
    exact ⟨.inl ⟨⟨#[38]⟩, by decide, rfl⟩, Below.refl _ _⟩
  split at hr
  · next e =>
    obtain rfl : S = ⟨#[97, 112, 111, 115]⟩ := ba_ext e
    clear hr e
    go_enter Tryd.func26, Tryd.ntmps26
    go_wp2
    go_ret2
    exact ⟨.inl ⟨⟨#[39]⟩, by decide, rfl⟩, Below.refl _ _⟩
  split at hr
  · next e =>
    obtain rfl : S = ⟨#[113, 117, 111, 116]⟩ := ba_ext e
    clear hr e
    go_enter Tryd.func26, Tryd.ntmps26
    go_wp2
    go_ret2
    exact ⟨.inl ⟨⟨#[34]⟩, by decide, rfl⟩, Below.refl _ _⟩
  · cases hr
theorem index_zero (S : ByteArray) {c : UInt8} {t : List UInt8} (h : S.data.toList = c :: t) (w : World) : (Instr.index 9 (.string S) (.int .i64 0)).run Tryd.prog w = .ok (.int .u8 (c.toNat : Int)) w := by
  have hl : 0 < S.data.toList.length := by rw [h]; simp
  have := index_str S hl w
  have e : S.data.toList[0] = c := by simp [h]
  rw [e] at this
  simpa using this
theorem index_first (S : ByteArray) {c d : UInt8} {t : List UInt8} (h : S.data.toList = c :: d :: t) (w : World) : (Instr.index 9 (.string S) (.int .i64 1)).run Tryd.prog w = .ok (.int .u8 (d.toNat : Int)) w := by
  have hl : 1 < S.data.toList.length := by rw [h]; simp
  have := index_str S hl w
  have e : S.data.toList[1] = d := by simp [h]
  rw [e] at this
  simpa using this
set_option maxHeartbeats 2000000 in
theorem stands_short (S : ByteArray) (h1 : nameZ S.data.toList = none) (h2 : S.size < 2) (w : World) : Calls Tryd.prog 26 #[.string S] w fun e w' => StandsAns S e ∧ Below w.heap.size w w' := by
  have HR : Hid (refL S.data.toList = none) := by
    unfold Hid
    by_cases h35 : S.data.toList.head? = some 35
    · have e : S.data.toList = [35] := by
        rw [ba_size] at h2
        cases hs : S.data.toList with
        | nil => rw [hs] at h35; cases h35
        | cons c t =>
          rw [hs] at h35 h2
          injection h35 with h
          have ht : t = [] := List.eq_nil_of_length_eq_zero (by rw [List.length_cons] at h2; omega)
          rw [h, ht]
      rw [e]; decide
    · exact no_ref h1 h35
  obtain ⟨b1, b2, b3, b4, b5⟩ := name_tests h1
  have hz : (S.size : Int) < 2 := by omega
  clear h1 h2
  go_enter Tryd.func26, Tryd.ntmps26
  go_wp2
  go_ret2
  exact ⟨.inr ⟨HR.out, rfl⟩, Below.refl _ _⟩
set_option maxHeartbeats 2000000 in
theorem stands_other (S : ByteArray) (c d : UInt8) (t : List UInt8) (hS : S.data.toList = c :: d :: t) (h1 : nameZ S.data.toList = none) (h2 : c ≠ 35) (hlen : S.size ≤ 100000) (w : World) : Calls Tryd.prog 26 #[.string S] w fun e w' => StandsAns S e ∧ Below w.heap.size w w' := by
  have HR : Hid (refL S.data.toList = none) := no_ref h1 (by rw [hS]; intro h; injection h with h; exact h2 h)
  obtain ⟨b1, b2, b3, b4, b5⟩ := name_tests h1
  have hix := index_zero S hS
  have hn : 2 ≤ S.size := by rw [ba_size, hS]; simp
  have hz : ¬ (S.size : Int) < 2 := by omega
  have hz1 := decide_eq_false hz
  have hc : ¬ (c.toNat : Int) = 35 := fun e => h2 (UInt8.toNat_inj.1 (show _ = 35 by omega))
  clear h1 hS h2
  generalize c.toNat = x at *
  have hcb : ((x : Int) != 35) = true := by simpa using hc
  go_enter Tryd.func26, Tryd.ntmps26
  go_wp2
  go_ret2
  exact ⟨.inr ⟨HR.out, rfl⟩, Below.refl _ _⟩
/-- What holds at each round's head. -/
def StRel (base : Nat) (w : World) (s R : List UInt8) (i v : Value) (wr : World) : Prop :=
  ∃ k n : Nat, k ≤ s.length ∧ i = .int .i64 (k : Int) ∧ v = .int .i32 (n : Int) ∧ n ≤ 40000000 ∧ satL base 0 R = satL base n (s.drop k) ∧ wr = w
theorem dz_dig {base : Nat} (hb : base ≤ 16) {c : UInt8} : (dig base c = none ∧ dz base c = -1) ∨ (∃ d : Nat, dig base c = some d ∧ dz base c = (d : Int) ∧ d < base) := by
  rw [dig_dv hb]
  unfold dz
  by_cases h : dv c < base
  · rw [if_pos h, if_pos h]; exact .inr ⟨dv c, rfl, rfl, h⟩
  · rw [if_neg h, if_neg h]; exact .inl ⟨rfl, rfl⟩
theorem conv_one (r : Int) (W : World) : (convert 28 9 (.slice (some ⟨W.heap.size, 0, none⟩) (encB r).length (encB r).length)).run Tryd.prog (W.alloc (.cells (u8c (encB r)).toArray 5)) = .ok (.string ⟨(encB r).toArray⟩) (W.alloc (.cells (u8c (encB r)).toArray 5)) :=
  conv_lies (B := W.heap.size + 1) (bs := encB r) (encB r).length (fun _ => ⟨W.heap.size, 0, rfl, by omega, fun j hj => by rw [Nat.zero_add, World.cell?_alloc_mark]; simp⟩)
set_option maxHeartbeats 4000000 in
theorem stands_ten (S : ByteArray) (d : UInt8) (t : List UInt8) (hS : S.data.toList = 35 :: d :: t) (hX : d ≠ 120) (hlen : S.size ≤ 100000) (w : World) : Calls Tryd.prog 26 #[.string S] w fun e w' => StandsAns S e ∧ Below w.heap.size w w' := by
  have hnn : nameZ S.data.toList = none := no_name (by rw [hS]; rfl)
  have hix0 : ∀ w, (Instr.index 9 (.string S) (.int .i64 0)).run Tryd.prog w = .ok (.int .u8 35) w := index_zero S hS
  have hix1 := index_first S hS
  have hdz : ¬ (d.toNat : Int) = 120 := fun e => hX (UInt8.toNat_inj.1 (show _ = 120 by omega))
  have hdb : ((d.toNat : Int) == 120) = false := by simpa using hdz
  have he1 : ((1 : Int) == (S.size : Int)) = false := by
    have : S.size = t.length + 2 := by rw [ba_size, hS]; simp
    rw [beq_eq_false_iff_ne]; omega

  obtain ⟨Q, hQ⟩ : ∃ Q, Q = d :: t := ⟨_, rfl⟩
  obtain ⟨b1, b2, b3, b4, b5⟩ := name_tests hnn
  obtain ⟨N, hN⟩ : ∃ N, S.size = N := ⟨_, rfl⟩
  have hNl : S.data.toList.length = N := by rw [← ba_size]; exact hN
  have HNL := Lib.hid hNl
  rw [hN] at hlen he1
  have hn : 2 ≤ N := by rw [← hNl, hS]; simp
  have hz : ¬ (N : Int) < 2 := by omega
  have hz1 := decide_eq_false hz
  have hrf : refL S.data.toList = chrL 10 Q := by rw [hS, hQ]; exact refL_ten _ (by intro h; injection h with h; exact hX h)
  rw [chrL_sat 10 (by omega), if_neg (by rw [hQ]; simp)] at hrf

  have HRF := Lib.hid hrf
  have HST : Hid (StRel 10 w S.data.toList Q (.int .i64 1) (.int .i32 0) w) := ⟨1, 0, by rw [hNl]; omega, rfl, rfl, by omega, by rw [hS, hQ]; rfl, rfl⟩
  clear hrf hS hnn hNl hQ hX
  go_enter Tryd.func26, Tryd.ntmps26
  go_wp2
  clear hix0 hix1
  go_loopw [4, 6] (StRel 10 w S.data.toList Q) (fun i _ _ => N - (intOf i).toNat)
  case atStart => exact HST.out
  case round =>
    obtain ⟨k, n, hk, rfl, rfl, hnb, hsat, rfl⟩ := hrel
    rw [HNL.out] at hk
    have HSAT := Lib.hid hsat
    clear hsat
    by_cases hlt : k < N
    · have hkl : k < S.data.toList.length := by rw [HNL.out]; exact hlt
      have hix := index_str S hkl
      have hdr : S.data.toList.drop k = S.data.toList[k] :: S.data.toList.drop (k + 1) := List.drop_eq_getElem_cons hkl
      have HDR := Lib.hid hdr
      have HDG := Lib.hid (refDigit_any 10 (by omega) S.data.toList[k])
      have hdz := dz_dig (base := 10) (by omega) (c := S.data.toList[k])
      have hkz : (k : Int) < (N : Int) := by omega
      clear hdr
      generalize S.data.toList[k] = y at *
      obtain ⟨x, hx⟩ : ∃ x, y.toNat = x := ⟨_, rfl⟩
      rw [hx] at HDG hix
      clear hx
      have hB : ((10 : Nat) : Int) = 10 := rfl
      rw [hB] at HDG
      clear hB
      rcases hdz with ⟨h1, h2⟩ | ⟨d, h1, h2, h3⟩
      · rw [h2] at HDG
        have HOUT : Hid (satL 10 0 Q = none) := by
          have h4 := HSAT.out
          rw [HDR.out, satL_cons, h1] at h4
          exact h4
        clear h1 h2 HSAT HDR hkl
        go_wp2_with fail
        refine (HDG.out _).mono ?_
        rintro e w' ⟨rfl, hw⟩
        rw [hw]
        clear hw
        go_wp2
        go_ret2
        refine ⟨.inr ⟨?_, rfl⟩, Below.refl _ _⟩
        rw [HRF.out, HOUT.out]
      · rw [h2] at HDG
        have hd0 : ¬ (d : Int) < 0 := by omega
        have hd1 := decide_eq_false hd0
        by_cases hlow : n < 2097152
        · have HNX : Hid (StRel 10 wr S.data.toList Q (.int .i64 ((k + 1 : Nat) : Int)) (.int .i32 ((n * 10 + d : Nat) : Int)) wr) := ⟨k + 1, n * 10 + d, by rw [HNL.out]; exact hlt, rfl, rfl, by omega, by
            have h4 := HSAT.out
            rw [HDR.out, satL_cons, h1] at h4
            dsimp only at h4
            rw [if_pos hlow] at h4
            exact h4, rfl⟩
          have hlz : (n : Int) < 2097152 := by omega
          have hval : ((n * 10 + d : Nat) : Int) = (n : Int) * 10 + (d : Int) := by omega
          have HV := Lib.hid hval
          clear h1 h2 HSAT HDR hkl hval
          go_wp2_with fail
          refine (HDG.out _).mono ?_
          rintro e w' ⟨rfl, hw⟩
          rw [hw]
          clear hw
          go_wp2
          go_roundw
          case rel => rw [← HV.out]; exact (show Value.int .i64 ((k + 1 : Nat) : Int) = _ by go_num) ▸ HNX.out
          case measure => simp [intOf]; omega
        · have HNX : Hid (StRel 10 wr S.data.toList Q (.int .i64 ((k + 1 : Nat) : Int)) (.int .i32 (n : Int)) wr) := ⟨k + 1, n, by rw [HNL.out]; exact hlt, rfl, rfl, hnb, by
            have h4 := HSAT.out
            rw [HDR.out, satL_cons, h1] at h4
            dsimp only at h4
            rw [if_neg hlow] at h4
            exact h4, rfl⟩
          have hlz : ¬ (n : Int) < 2097152 := by omega
          have hlz1 := decide_eq_false hlz
          clear h1 h2 HSAT HDR hkl
          go_wp2_with fail
          refine (HDG.out _).mono ?_
          rintro e w' ⟨rfl, hw⟩
          rw [hw]
          clear hw
          go_wp2
          go_roundw
          case rel => exact (show Value.int .i64 ((k + 1 : Nat) : Int) = _ by go_num) ▸ HNX.out
          case measure => simp [intOf]; omega
    · have hkz : ¬ (k : Int) < (N : Int) := by omega
      have hkz1 := decide_eq_false hkz
      have HOUT : Hid (satL 10 0 Q = some n) := by
        have h4 := HSAT.out
        rw [List.drop_of_length_le (by rw [HNL.out]; omega)] at h4
        exact h4
      have HX := Lib.hid (refXml_any (n : Int))
      clear HSAT
      cases hx : xmlB (n : Int) with
      | false =>
        rw [hx] at HX
        have HXX := Lib.hid hx
        clear hx
        go_wp2_with fail
        refine (HX.out _).mono ?_
        rintro e w' ⟨rfl, hw⟩
        rw [← hw]
        clear hw
        go_wp2
        go_ret2
        refine ⟨.inr ⟨?_, rfl⟩, Below.refl _ _⟩
        rw [HRF.out, HOUT.out]
        dsimp only
        rw [HXX.out, if_neg (by simp)]
      | true =>
        rw [hx] at HX
        have HXX := Lib.hid hx
        have HON := Lib.hid (refOne_any (n : Int) (xml_ch hx) wr)
        have hcv := conv_one (n : Int) wr
        have HBW : Hid (Below wr.heap.size wr (wr.alloc (.cells (u8c (encB (n : Int))).toArray 5))) := (Below.refl _ _).alloc (Nat.le_refl _) _
        obtain ⟨Y, hY⟩ : ∃ Y : ByteArray, ⟨(encB (n : Int)).toArray⟩ = Y := ⟨_, rfl⟩
        have HYY : Hid (encB (n : Int) = Y.data.toList) := by rw [Hid, ← hY]
        rw [hY] at hcv
        generalize (encB (n : Int)).length = M at *
        obtain ⟨W, hW⟩ : ∃ W, wr.alloc (.cells (u8c (encB (n : Int))).toArray 5) = W := ⟨_, rfl⟩
        rw [hW] at hcv HBW HON
        clear hx hY hW
        go_wp2_with fail
        refine (HX.out _).mono ?_
        rintro e w' ⟨rfl, hw⟩
        rw [← hw]
        clear hw
        go_wp2_with fail
        refine HON.out.mono ?_
        rintro e w' ⟨rfl, hw⟩
        rw [← hw]
        clear hw
        go_wp2
        go_ret2
        refine ⟨.inl ⟨Y, ?_, rfl⟩, HBW.out⟩
        rw [HRF.out, HOUT.out]
        dsimp only
        rw [HXX.out, if_pos rfl, HYY.out]
set_option maxHeartbeats 4000000 in
theorem stands_hex (S : ByteArray) (t : List UInt8) (hS : S.data.toList = 35 :: 120 :: t) (hT : t ≠ []) (hlen : S.size ≤ 100000) (w : World) : Calls Tryd.prog 26 #[.string S] w fun e w' => StandsAns S e ∧ Below w.heap.size w w' := by
  have hnn : nameZ S.data.toList = none := no_name (by rw [hS]; rfl)
  have hix0 : ∀ w, (Instr.index 9 (.string S) (.int .i64 0)).run Tryd.prog w = .ok (.int .u8 35) w := index_zero S hS
  have hix1 : ∀ w, (Instr.index 9 (.string S) (.int .i64 1)).run Tryd.prog w = .ok (.int .u8 120) w := index_first S hS
  have he1 : ((2 : Int) == (S.size : Int)) = false := by
    have h0 : 0 < t.length := List.length_pos_iff.2 hT
    have : S.size = t.length + 2 := by rw [ba_size, hS]; simp
    rw [beq_eq_false_iff_ne]; omega

  obtain ⟨Q, hQ⟩ : ∃ Q, Q = t := ⟨_, rfl⟩
  obtain ⟨b1, b2, b3, b4, b5⟩ := name_tests hnn
  obtain ⟨N, hN⟩ : ∃ N, S.size = N := ⟨_, rfl⟩
  have hNl : S.data.toList.length = N := by rw [← ba_size]; exact hN
  have HNL := Lib.hid hNl
  rw [hN] at hlen he1
  have hn : 2 ≤ N := by rw [← hNl, hS]; simp
  have hz : ¬ (N : Int) < 2 := by omega
  have hz1 := decide_eq_false hz
  have hrf : refL S.data.toList = chrL 16 Q := by rw [hS, hQ]; exact refL_hex _
  rw [chrL_sat 16 (by omega), if_neg (by rw [hQ]; exact hT)] at hrf

  have HRF := Lib.hid hrf
  have HST : Hid (StRel 16 w S.data.toList Q (.int .i64 2) (.int .i32 0) w) := ⟨2, 0, by rw [hNl]; omega, rfl, rfl, by omega, by rw [hS, hQ]; rfl, rfl⟩
  clear hrf hS hnn hNl hQ hT
  go_enter Tryd.func26, Tryd.ntmps26
  go_wp2
  clear hix0 hix1
  go_loopw [4, 6] (StRel 16 w S.data.toList Q) (fun i _ _ => N - (intOf i).toNat)
  case atStart => exact HST.out
  case round =>
    obtain ⟨k, n, hk, rfl, rfl, hnb, hsat, rfl⟩ := hrel
    rw [HNL.out] at hk
    have HSAT := Lib.hid hsat
    clear hsat
    by_cases hlt : k < N
    · have hkl : k < S.data.toList.length := by rw [HNL.out]; exact hlt
      have hix := index_str S hkl
      have hdr : S.data.toList.drop k = S.data.toList[k] :: S.data.toList.drop (k + 1) := List.drop_eq_getElem_cons hkl
      have HDR := Lib.hid hdr
      have HDG := Lib.hid (refDigit_any 16 (by omega) S.data.toList[k])
      have hdz := dz_dig (base := 16) (by omega) (c := S.data.toList[k])
      have hkz : (k : Int) < (N : Int) := by omega
      clear hdr
      generalize S.data.toList[k] = y at *
      obtain ⟨x, hx⟩ : ∃ x, y.toNat = x := ⟨_, rfl⟩
      rw [hx] at HDG hix
      clear hx
      have hB : ((16 : Nat) : Int) = 16 := rfl
      rw [hB] at HDG
      clear hB
      rcases hdz with ⟨h1, h2⟩ | ⟨d, h1, h2, h3⟩
      · rw [h2] at HDG
        have HOUT : Hid (satL 16 0 Q = none) := by
          have h4 := HSAT.out
          rw [HDR.out, satL_cons, h1] at h4
          exact h4
        clear h1 h2 HSAT HDR hkl
        go_wp2_with fail
        refine (HDG.out _).mono ?_
        rintro e w' ⟨rfl, hw⟩
        rw [hw]
        clear hw
        go_wp2
        go_ret2
        refine ⟨.inr ⟨?_, rfl⟩, Below.refl _ _⟩
        rw [HRF.out, HOUT.out]
      · rw [h2] at HDG
        have hd0 : ¬ (d : Int) < 0 := by omega
        have hd1 := decide_eq_false hd0
        by_cases hlow : n < 2097152
        · have HNX : Hid (StRel 16 wr S.data.toList Q (.int .i64 ((k + 1 : Nat) : Int)) (.int .i32 ((n * 16 + d : Nat) : Int)) wr) := ⟨k + 1, n * 16 + d, by rw [HNL.out]; exact hlt, rfl, rfl, by omega, by
            have h4 := HSAT.out
            rw [HDR.out, satL_cons, h1] at h4
            dsimp only at h4
            rw [if_pos hlow] at h4
            exact h4, rfl⟩
          have hlz : (n : Int) < 2097152 := by omega
          have hval : ((n * 16 + d : Nat) : Int) = (n : Int) * 16 + (d : Int) := by omega
          have HV := Lib.hid hval
          clear h1 h2 HSAT HDR hkl hval
          go_wp2_with fail
          refine (HDG.out _).mono ?_
          rintro e w' ⟨rfl, hw⟩
          rw [hw]
          clear hw
          go_wp2
          go_roundw
          case rel => rw [← HV.out]; exact (show Value.int .i64 ((k + 1 : Nat) : Int) = _ by go_num) ▸ HNX.out
          case measure => simp [intOf]; omega
        · have HNX : Hid (StRel 16 wr S.data.toList Q (.int .i64 ((k + 1 : Nat) : Int)) (.int .i32 (n : Int)) wr) := ⟨k + 1, n, by rw [HNL.out]; exact hlt, rfl, rfl, hnb, by
            have h4 := HSAT.out
            rw [HDR.out, satL_cons, h1] at h4
            dsimp only at h4
            rw [if_neg hlow] at h4
            exact h4, rfl⟩
          have hlz : ¬ (n : Int) < 2097152 := by omega
          have hlz1 := decide_eq_false hlz
          clear h1 h2 HSAT HDR hkl
          go_wp2_with fail
          refine (HDG.out _).mono ?_
          rintro e w' ⟨rfl, hw⟩
          rw [hw]
          clear hw
          go_wp2
          go_roundw
          case rel => exact (show Value.int .i64 ((k + 1 : Nat) : Int) = _ by go_num) ▸ HNX.out
          case measure => simp [intOf]; omega
    · have hkz : ¬ (k : Int) < (N : Int) := by omega
      have hkz1 := decide_eq_false hkz
      have HOUT : Hid (satL 16 0 Q = some n) := by
        have h4 := HSAT.out
        rw [List.drop_of_length_le (by rw [HNL.out]; omega)] at h4
        exact h4
      have HX := Lib.hid (refXml_any (n : Int))
      clear HSAT
      cases hx : xmlB (n : Int) with
      | false =>
        rw [hx] at HX
        have HXX := Lib.hid hx
        clear hx
        go_wp2_with fail
        refine (HX.out _).mono ?_
        rintro e w' ⟨rfl, hw⟩
        rw [← hw]
        clear hw
        go_wp2
        go_ret2
        refine ⟨.inr ⟨?_, rfl⟩, Below.refl _ _⟩
        rw [HRF.out, HOUT.out]
        dsimp only
        rw [HXX.out, if_neg (by simp)]
      | true =>
        rw [hx] at HX
        have HXX := Lib.hid hx
        have HON := Lib.hid (refOne_any (n : Int) (xml_ch hx) wr)
        have hcv := conv_one (n : Int) wr
        have HBW : Hid (Below wr.heap.size wr (wr.alloc (.cells (u8c (encB (n : Int))).toArray 5))) := (Below.refl _ _).alloc (Nat.le_refl _) _
        obtain ⟨Y, hY⟩ : ∃ Y : ByteArray, ⟨(encB (n : Int)).toArray⟩ = Y := ⟨_, rfl⟩
        have HYY : Hid (encB (n : Int) = Y.data.toList) := by rw [Hid, ← hY]
        rw [hY] at hcv
        generalize (encB (n : Int)).length = M at *
        obtain ⟨W, hW⟩ : ∃ W, wr.alloc (.cells (u8c (encB (n : Int))).toArray 5) = W := ⟨_, rfl⟩
        rw [hW] at hcv HBW HON
        clear hx hY hW
        go_wp2_with fail
        refine (HX.out _).mono ?_
        rintro e w' ⟨rfl, hw⟩
        rw [← hw]
        clear hw
        go_wp2_with fail
        refine HON.out.mono ?_
        rintro e w' ⟨rfl, hw⟩
        rw [← hw]
        clear hw
        go_wp2
        go_ret2
        refine ⟨.inl ⟨Y, ?_, rfl⟩, HBW.out⟩
        rw [HRF.out, HOUT.out]
        dsimp only
        rw [HXX.out, if_pos rfl, HYY.out]
set_option maxHeartbeats 2000000 in
theorem stands_x (w : World) : Calls Tryd.prog 26 #[.string ⟨#[35, 120]⟩] w fun e w' => StandsAns ⟨#[35, 120]⟩ e ∧ Below w.heap.size w w' := by
  have hix0 : ∀ w, (Instr.index 9 (.string ⟨#[35, 120]⟩) (.int .i64 0)).run Tryd.prog w = .ok (.int .u8 35) w := fun w => by kernel_rfl
  have hix1 : ∀ w, (Instr.index 9 (.string ⟨#[35, 120]⟩) (.int .i64 1)).run Tryd.prog w = .ok (.int .u8 120) w := fun w => by kernel_rfl
  go_enter Tryd.func26, Tryd.ntmps26
  go_wp2
  go_ret2
  exact ⟨.inr ⟨by decide, rfl⟩, Below.refl _ _⟩
theorem stands_any (S : ByteArray) (hlen : S.size ≤ 100000) (w : World) : Calls Tryd.prog 26 #[.string S] w fun e w' => StandsAns S e ∧ Below w.heap.size w w' := by
  cases hn : nameZ S.data.toList with
  | some r => exact stands_name S r hn w
  | none =>
    by_cases h2 : S.size < 2
    · exact stands_short S hn h2 w
    · obtain ⟨c, d, t, hS⟩ : ∃ c d t, S.data.toList = c :: d :: t := by
        rw [ba_size] at h2
        cases hs : S.data.toList with
        | nil => rw [hs] at h2; exact absurd (show (0 : Nat) < 2 by omega) h2
        | cons c t =>
          cases t with
          | nil => rw [hs] at h2; exact absurd (show (1 : Nat) < 2 by omega) h2
          | cons d t => exact ⟨c, d, t, rfl⟩
      by_cases h35 : c = 35
      · subst h35
        by_cases hx : d = 120
        · subst hx
          by_cases ht : t = []
          · subst ht
            obtain rfl : S = ⟨#[35, 120]⟩ := ba_ext hS
            exact stands_x w
          · exact stands_hex S t hS ht hlen w
        · exact stands_ten S d t hS hx hlen w
      · exact stands_other S c d t hS hn h35 hlen w
end Go.Proofs.YtmbmobjlmbjkpaaDoor
