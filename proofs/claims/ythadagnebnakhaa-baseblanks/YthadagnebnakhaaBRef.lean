/-
  The document's own letters, numbers and squeezing. Conditions: a number below 64; the text is not too long.
-/
import Derived.Test.YthadagnebnakhaaBDec
namespace Go.Proofs.Ythadagnebnakhaa
open Go.RowKit
set_option linter.unusedVariables false
theorem w8 (n : Nat) (h : n < 256) : IntKind.u8.wrap (n : Int) = (n : Int) := by rw [IntKind.wrap_u8']; omega
theorem v8_of (n : Nat) (h : n < 256) : v8 (UInt8.ofNat n) = (n : Int) := by unfold v8; rw [UInt8.toNat_ofNat', Nat.mod_eq_of_lt (by omega)]
set_option maxHeartbeats 1000000 in
theorem letter_any (n : Nat) (h : n < 64) (w : World) : Calls Try.prog 17 #[.int .i64 (n : Int)] w fun e w' => e = .returned (.int .u8 (v8 (ltr n))) ∧ w = w' := by
  unfold ltr
  by_cases h1 : n < 26
  · rw [if_pos h1, v8_of _ (by omega)]
    have hz : (n : Int) < 26 := by omega
    have e0 : IntKind.u8.wrap (n : Int) = (n : Int) := w8 n (by omega)
    have e1 : IntKind.u8.wrap (65 + (n : Int)) = ((65 + n : Nat) : Int) := by rw [IntKind.wrap_u8']; omega
    generalize 65 + n = m at *
    go_enter Try.func17, Try.ntmps17
    go_wp2
    go_ret
    exact ⟨rfl, rfl⟩
  rw [if_neg h1]
  have hz1 : ¬ (n : Int) < 26 := by omega
  have hz1d := decide_eq_false hz1
  by_cases h2 : n < 52
  · rw [if_pos h2, v8_of _ (by omega)]
    have hz : (n : Int) < 52 := by omega
    have e0 : IntKind.u8.wrap ((n : Int) - 26) = ((n - 26 : Nat) : Int) := by rw [IntKind.wrap_u8']; omega
    have e1 : IntKind.u8.wrap (97 + ((n - 26 : Nat) : Int)) = ((97 + (n - 26) : Nat) : Int) := by rw [IntKind.wrap_u8']; omega
    generalize 97 + (n - 26) = m at *
    generalize n - 26 = m2 at *
    go_enter Try.func17, Try.ntmps17
    go_wp2
    go_ret
    exact ⟨rfl, rfl⟩
  rw [if_neg h2]
  have hz2 : ¬ (n : Int) < 52 := by omega
  have hz2d := decide_eq_false hz2
  by_cases h3 : n < 62
  · rw [if_pos h3, v8_of _ (by omega)]
    have hz : (n : Int) < 62 := by omega
    have e0 : IntKind.u8.wrap ((n : Int) - 52) = ((n - 52 : Nat) : Int) := by rw [IntKind.wrap_u8']; omega
    have e1 : IntKind.u8.wrap (48 + ((n - 52 : Nat) : Int)) = ((48 + (n - 52) : Nat) : Int) := by rw [IntKind.wrap_u8']; omega
    generalize 48 + (n - 52) = m at *
    generalize n - 52 = m2 at *
    go_enter Try.func17, Try.ntmps17
    go_wp2
    go_ret
    exact ⟨rfl, rfl⟩
  rw [if_neg h3]
  have hz3 : ¬ (n : Int) < 62 := by omega
  have hz3d := decide_eq_false hz3
  by_cases h4 : n = 62
  · subst h4
    rw [if_pos rfl]
    go_enter Try.func17, Try.ntmps17
    go_wp2
    go_ret
    exact ⟨rfl, rfl⟩
  · rw [if_neg h4]
    have hz4 : ¬ (n : Int) = 62 := by omega
    have hz4b : ((n : Int) == 62) = false := by simpa using hz4
    go_enter Try.func17, Try.ntmps17
    go_wp2
    go_ret
    exact ⟨rfl, rfl⟩
def NR (c : UInt8) (w : World) (i : Value) (wr : World) : Prop := ∃ k : Nat, k ≤ 64 ∧ i = .int .i64 k ∧ (∀ j < k, ltr j ≠ c) ∧ w = wr
set_option maxHeartbeats 1000000 in
theorem number_any (c : UInt8) (w : World) : Calls Try.prog 18 #[.int .u8 (v8 c)] w fun e w' => e = .returned (.int .i64 (numI c)) ∧ w = w' := by
  go_enter Try.func18, Try.ntmps18
  go_wp2
  go_loopw [4] (NR c w) (fun i _ => 64 - (intOf i).toNat)
  case atStart => exact ⟨0, by omega, rfl, fun j hj => by omega, rfl⟩
  case round =>
    obtain ⟨k, hk, rfl, hall, rfl⟩ := hrel
    have HALL := Lib.hid hall
    clear hall
    by_cases hlt : k < 64
    · have hkz : (k : Int) < 64 := by omega
      have HLE := Lib.hid (letter_any k hlt w)
      by_cases he : ltr k = c
      · have HN : Hid (numI c = (k : Int)) := by unfold Hid numI; rw [← he, num_ltr hlt]
        go_wp2_with fail
        refine HLE.out.mono ?_
        rintro e w1 ⟨rfl, rfl⟩
        rw [he]
        go_wp2
        go_ret
        exact ⟨by rw [HN.out]; rfl, rfl⟩
      · have hne : ¬ v8 (ltr k) = v8 c := fun h => he (v8_inj.1 h)
        have hneb : (v8 (ltr k) == v8 c) = false := by simpa using hne
        go_wp2_with fail
        refine HLE.out.mono ?_
        rintro e w1 ⟨rfl, rfl⟩
        generalize v8 (ltr k) = L at *
        go_wp2
        go_roundw
        case rel =>
          refine ⟨k + 1, by omega, by go_num, fun j hj => ?_, rfl⟩
          rcases Nat.lt_or_ge j k with h | h
          · exact HALL.out j h
          · obtain rfl : j = k := by omega
            exact he
        case measure => simp [intOf]; omega
    · have hkz : ¬ (k : Int) < 64 := by omega
      have hkz1 := decide_eq_false hkz
      have HN : Hid (numI c = -1) := by
        unfold Hid numI
        cases hn : num c with
        | none => rfl
        | some x => exact absurd (num_some hn).2 (HALL.out x (by have := (num_some hn).1; omega))
      go_wp2
      go_ret
      exact ⟨by rw [HN.out]; rfl, rfl⟩
end Go.Proofs.Ythadagnebnakhaa
