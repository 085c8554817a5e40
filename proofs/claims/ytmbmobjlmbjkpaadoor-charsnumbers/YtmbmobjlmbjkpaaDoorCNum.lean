/-
  The character of a number, and of a reference: chars.number, named, meant. Conditions: the text is not too long.
-/
import Derived.Test.YtmbmobjlmbjkpaaDoorCDig
import Derived.Test.YtmbmobjlmbjkpaaDoorBytes
namespace Go.Proofs.YtmbmobjlmbjkpaaDoor
open Go.RowKit
set_option linter.unusedVariables false
/-- What is answered of digits. -/
def NumAns (base : Nat) (S : ByteArray) (e : Ending) : Prop :=
  (lowL base 0 S.data.toList = none ∧ e = .returned (.tuple #[.int .i32 0, .bool false])) ∨ (∃ n : Nat, lowL base 0 S.data.toList = some n ∧ e = .returned (.tuple #[.int .i32 (n : Int), .bool (xmlB (n : Int))]))
/-- What holds at each round's head. -/
def NRel (base : Nat) (w : World) (s : List UInt8) (v i : Value) (wr : World) : Prop :=
  ∃ k n : Nat, k ≤ s.length ∧ i = .int .i64 (k : Int) ∧ v = .int .i32 (n : Int) ∧ n ≤ 1114112 ∧ lowL base 0 s = lowL base n (s.drop k) ∧ wr = w
set_option maxHeartbeats 2000000 in
theorem number10_any (S : ByteArray) (hlen : S.size ≤ 100000) (w : World) : Calls Tryd.prog 33 #[.string S, .int .i32 10] w fun e w' => NumAns 10 S e ∧ Below w.heap.size w w' := by
  obtain ⟨c, W, hcv, hcell, hsz, hbW, hc1, hc2, _⟩ := conv_text S (by omega) w
  obtain ⟨N, hN⟩ : ∃ N, S.size = N := ⟨_, rfl⟩
  rw [hN] at hcv hc1 hlen
  have hNl : S.data.toList.length = N := by rw [← ba_size]; exact hN
  have HNL := Lib.hid hNl
  have HB := Lib.hid hbW
  have HC := Lib.hid hcell
  clear hbW hcell hN hNl hc2
  go_enter Tryd.func33, Tryd.ntmps33
  go_wp2
  clear hcv
  go_loopw [6, 13] (NRel 10 W S.data.toList) (fun _ i _ => N - (intOf i).toNat)
  case atStart => exact ⟨0, 0, Nat.zero_le _, rfl, rfl, by omega, by rw [List.drop_zero], rfl⟩
  case round =>
    obtain ⟨k, n, hk, rfl, rfl, hn, hlow, rfl⟩ := hrel
    rw [HNL.out] at hk
    have HLOW := Lib.hid hlow
    clear hlow
    by_cases hlt : k < N
    · have hkl : k < S.data.toList.length := by rw [HNL.out]; exact hlt
      have hck := HC.out k hkl
      rw [Nat.zero_add] at hck
      have hdr : S.data.toList.drop k = S.data.toList[k] :: S.data.toList.drop (k + 1) := List.drop_eq_getElem_cons hkl
      have HDR := Lib.hid hdr
      have HDG := Lib.hid (digit_any S.data.toList[k])
      have hdd := dig_dv (base := 10) (by omega) S.data.toList[k]
      have HDD := Lib.hid hdd
      have hdle := dv_le S.data.toList[k]
      clear hdr hdd
      generalize S.data.toList[k] = y at *
      have hkz : (k : Int) < (N : Int) := by omega
      obtain ⟨d, hd⟩ : ∃ d, dv y = d := ⟨_, rfl⟩
      rw [hd] at HDG HDD hdle
      clear hd
      obtain ⟨x, hx⟩ : ∃ x, y.toNat = x := ⟨_, rfl⟩
      rw [hx] at HDG hck
      clear hx
      by_cases hdb : d < 10
      · have hz : ¬ (10 : Int) ≤ (d : Int) := by omega
        have hz1 := decide_eq_false hz
        have HNX : Hid (NRel 10 wr S.data.toList (.int .i32 ((min (n * 10 + d) 1114112 : Nat) : Int)) (.int .i64 ((k + 1 : Nat) : Int)) wr) :=
          ⟨k + 1, min (n * 10 + d) 1114112, by rw [HNL.out]; exact hlt, rfl, rfl, Nat.min_le_right _ _, by
            have h1 := HLOW.out
            have h2 := HDD.out
            rw [if_pos hdb] at h2
            rw [HDR.out, lowL_cons, h2] at h1
            exact h1, rfl⟩
        have HM : Hid ((if (1114112 : Int) < (n : Int) * 10 + (d : Int) then (1114112 : Int) else (n : Int) * 10 + (d : Int)) = ((min (n * 10 + d) 1114112 : Nat) : Int)) := by
          unfold Hid
          split <;> omega
        generalize min (n * 10 + d) 1114112 = m at *
        clear HC HLOW HDR HDD
        go_wp2_with fail
        refine (HDG.out _).mono ?_
        rintro e w' ⟨rfl, hw⟩
        rw [hw]
        clear hw
        go_wp2
        go_roundw
        case rel => rw [HM.out]; exact (show Value.int .i64 ((k + 1 : Nat) : Int) = _ by go_num) ▸ HNX.out
        case measure => simp [intOf]; omega
      · have hz : (10 : Int) ≤ (d : Int) := by omega
        have HOUT : Hid (lowL 10 0 S.data.toList = none) := by
          have h1 := HLOW.out
          have h2 := HDD.out
          rw [if_neg hdb] at h2
          rw [HDR.out, lowL_cons, h2] at h1
          exact h1
        clear HC HLOW HDR HDD
        go_wp2_with fail
        refine (HDG.out _).mono ?_
        rintro e w' ⟨rfl, hw⟩
        rw [hw]
        clear hw
        go_wp2
        go_ret2
        exact ⟨.inl ⟨HOUT.out, rfl⟩, HB.out⟩
    · have hkz : ¬ (k : Int) < (N : Int) := by omega
      have hkz1 := decide_eq_false hkz
      have HOUT : Hid (lowL 10 0 S.data.toList = some n) := by
        have h1 := HLOW.out
        rw [List.drop_of_length_le (by rw [HNL.out]; omega)] at h1
        exact h1
      have HX := Lib.hid (xml_any (n : Int))
      clear HC HLOW
      go_wp2_with fail
      refine (HX.out _).mono ?_
      rintro e w' ⟨rfl, hw⟩
      rw [← hw]
      clear hw
      go_wp2
      go_ret2
      exact ⟨.inr ⟨n, HOUT.out, rfl⟩, HB.out⟩
set_option maxHeartbeats 2000000 in
theorem number16_any (S : ByteArray) (hlen : S.size ≤ 100000) (w : World) : Calls Tryd.prog 33 #[.string S, .int .i32 16] w fun e w' => NumAns 16 S e ∧ Below w.heap.size w w' := by
  obtain ⟨c, W, hcv, hcell, hsz, hbW, hc1, hc2, _⟩ := conv_text S (by omega) w
  obtain ⟨N, hN⟩ : ∃ N, S.size = N := ⟨_, rfl⟩
  rw [hN] at hcv hc1 hlen
  have hNl : S.data.toList.length = N := by rw [← ba_size]; exact hN
  have HNL := Lib.hid hNl
  have HB := Lib.hid hbW
  have HC := Lib.hid hcell
  clear hbW hcell hN hNl hc2
  go_enter Tryd.func33, Tryd.ntmps33
  go_wp2
  clear hcv
  go_loopw [6, 13] (NRel 16 W S.data.toList) (fun _ i _ => N - (intOf i).toNat)
  case atStart => exact ⟨0, 0, Nat.zero_le _, rfl, rfl, by omega, by rw [List.drop_zero], rfl⟩
  case round =>
    obtain ⟨k, n, hk, rfl, rfl, hn, hlow, rfl⟩ := hrel
    rw [HNL.out] at hk
    have HLOW := Lib.hid hlow
    clear hlow
    by_cases hlt : k < N
    · have hkl : k < S.data.toList.length := by rw [HNL.out]; exact hlt
      have hck := HC.out k hkl
      rw [Nat.zero_add] at hck
      have hdr : S.data.toList.drop k = S.data.toList[k] :: S.data.toList.drop (k + 1) := List.drop_eq_getElem_cons hkl
      have HDR := Lib.hid hdr
      have HDG := Lib.hid (digit_any S.data.toList[k])
      have hdd := dig_dv (base := 16) (by omega) S.data.toList[k]
      have HDD := Lib.hid hdd
      have hdle := dv_le S.data.toList[k]
      clear hdr hdd
      generalize S.data.toList[k] = y at *
      have hkz : (k : Int) < (N : Int) := by omega
      obtain ⟨d, hd⟩ : ∃ d, dv y = d := ⟨_, rfl⟩
      rw [hd] at HDG HDD hdle
      clear hd
      obtain ⟨x, hx⟩ : ∃ x, y.toNat = x := ⟨_, rfl⟩
      rw [hx] at HDG hck
      clear hx
      by_cases hdb : d < 16
      · have hz : ¬ (16 : Int) ≤ (d : Int) := by omega
        have hz1 := decide_eq_false hz
        have HNX : Hid (NRel 16 wr S.data.toList (.int .i32 ((min (n * 16 + d) 1114112 : Nat) : Int)) (.int .i64 ((k + 1 : Nat) : Int)) wr) :=
          ⟨k + 1, min (n * 16 + d) 1114112, by rw [HNL.out]; exact hlt, rfl, rfl, Nat.min_le_right _ _, by
            have h1 := HLOW.out
            have h2 := HDD.out
            rw [if_pos hdb] at h2
            rw [HDR.out, lowL_cons, h2] at h1
            exact h1, rfl⟩
        have HM : Hid ((if (1114112 : Int) < (n : Int) * 16 + (d : Int) then (1114112 : Int) else (n : Int) * 16 + (d : Int)) = ((min (n * 16 + d) 1114112 : Nat) : Int)) := by
          unfold Hid
          split <;> omega
        generalize min (n * 16 + d) 1114112 = m at *
        clear HC HLOW HDR HDD
        go_wp2_with fail
        refine (HDG.out _).mono ?_
        rintro e w' ⟨rfl, hw⟩
        rw [hw]
        clear hw
        go_wp2
        go_roundw
        case rel => rw [HM.out]; exact (show Value.int .i64 ((k + 1 : Nat) : Int) = _ by go_num) ▸ HNX.out
        case measure => simp [intOf]; omega
      · have hz : (16 : Int) ≤ (d : Int) := by omega
        have HOUT : Hid (lowL 16 0 S.data.toList = none) := by
          have h1 := HLOW.out
          have h2 := HDD.out
          rw [if_neg hdb] at h2
          rw [HDR.out, lowL_cons, h2] at h1
          exact h1
        clear HC HLOW HDR HDD
        go_wp2_with fail
        refine (HDG.out _).mono ?_
        rintro e w' ⟨rfl, hw⟩
        rw [hw]
        clear hw
        go_wp2
        go_ret2
        exact ⟨.inl ⟨HOUT.out, rfl⟩, HB.out⟩
    · have hkz : ¬ (k : Int) < (N : Int) := by omega
      have hkz1 := decide_eq_false hkz
      have HOUT : Hid (lowL 16 0 S.data.toList = some n) := by
        have h1 := HLOW.out
        rw [List.drop_of_length_le (by rw [HNL.out]; omega)] at h1
        exact h1
      have HX := Lib.hid (xml_any (n : Int))
      clear HC HLOW
      go_wp2_with fail
      refine (HX.out _).mono ?_
      rintro e w' ⟨rfl, hw⟩
      rw [← hw]
      clear hw
      go_wp2
      go_ret2
      exact ⟨.inr ⟨n, HOUT.out, rfl⟩, HB.out⟩
/-- What is answered of a name. -/
def nameZ (s : List UInt8) : Option Int :=
  if s = [108, 116] then some 60 else if s = [103, 116] then some 62 else if s = [97, 109, 112] then some 38 else if s = [97, 112, 111, 115] then some 39 else if s = [113, 117, 111, 116] then some 34 else none
def NamedAns (s : List UInt8) (e : Ending) : Prop :=
  (∃ r, nameZ s = some r ∧ e = .returned (.tuple #[.int .i32 r, .bool true])) ∨ (nameZ s = none ∧ e = .returned (.tuple #[.int .i32 0, .bool false]))
set_option maxHeartbeats 1000000 in
theorem named_any (S : ByteArray) (w : World) : Calls Tryd.prog 31 #[.string S] w fun e w' => NamedAns S.data.toList e ∧ w' = w := by
  by_cases h1 : S.data.toList = [108, 116]
  · obtain rfl : S = ⟨#[108, 116]⟩ := ba_ext h1
    go_enter Tryd.func31, Tryd.ntmps31
    go_wp2
    go_ret2
    exact ⟨.inl ⟨60, by decide, rfl⟩, rfl⟩
  by_cases h2 : S.data.toList = [103, 116]
  · obtain rfl : S = ⟨#[103, 116]⟩ := ba_ext h2
    go_enter Tryd.func31, Tryd.ntmps31
    go_wp2
    go_ret2
    exact ⟨.inl ⟨62, by decide, rfl⟩, rfl⟩
  by_cases h3 : S.data.toList = [97, 109, 112]
  · obtain rfl : S = ⟨#[97, 109, 112]⟩ := ba_ext h3
    go_enter Tryd.func31, Tryd.ntmps31
    go_wp2
    go_ret2
    exact ⟨.inl ⟨38, by decide, rfl⟩, rfl⟩
  by_cases h4 : S.data.toList = [97, 112, 111, 115]
  · obtain rfl : S = ⟨#[97, 112, 111, 115]⟩ := ba_ext h4
    go_enter Tryd.func31, Tryd.ntmps31
    go_wp2
    go_ret2
    exact ⟨.inl ⟨39, by decide, rfl⟩, rfl⟩
  by_cases h5 : S.data.toList = [113, 117, 111, 116]
  · obtain rfl : S = ⟨#[113, 117, 111, 116]⟩ := ba_ext h5
    go_enter Tryd.func31, Tryd.ntmps31
    go_wp2
    go_ret2
    exact ⟨.inl ⟨34, by decide, rfl⟩, rfl⟩
  have HN : Hid (nameZ S.data.toList = none) := by
    unfold Hid nameZ
    rw [if_neg h1, if_neg h2, if_neg h3, if_neg h4, if_neg h5]
  have b1 : (S.toList == [108, 116]) = false := by rw [text_is, beq_eq_false_iff_ne]; exact h1
  have b2 : (S.toList == [103, 116]) = false := by rw [text_is, beq_eq_false_iff_ne]; exact h2
  have b3 : (S.toList == [97, 109, 112]) = false := by rw [text_is, beq_eq_false_iff_ne]; exact h3
  have b4 : (S.toList == [97, 112, 111, 115]) = false := by rw [text_is, beq_eq_false_iff_ne]; exact h4
  have b5 : (S.toList == [113, 117, 111, 116]) = false := by rw [text_is, beq_eq_false_iff_ne]; exact h5
  clear h1 h2 h3 h4 h5
  go_enter Tryd.func31, Tryd.ntmps31
  go_wp2
  go_ret2
  exact ⟨.inr ⟨HN.out, rfl⟩, rfl⟩
end Go.Proofs.YtmbmobjlmbjkpaaDoor
