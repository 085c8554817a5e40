/-
  What a digit is worth: the program's and the document's. Conditions: the base is 10 or 16.
-/
import Derived.Test.YtmbmobjlmbjkpaaDoorCText
import Derived.Test.YtmbmobjlmbjkpaaDoorCPureP
namespace Go.Proofs.YtmbmobjlmbjkpaaDoor
open Go.RowKit
set_option linter.unusedVariables false
theorem dv_cases (c : UInt8) : (48 ≤ c.toNat ∧ c.toNat ≤ 57 ∧ dv c = c.toNat - 48) ∨ (97 ≤ c.toNat ∧ c.toNat ≤ 102 ∧ dv c = c.toNat - 87) ∨ (65 ≤ c.toNat ∧ c.toNat ≤ 70 ∧ dv c = c.toNat - 55) ∨
    ((c.toNat < 48 ∨ (57 < c.toNat ∧ c.toNat < 65) ∨ (70 < c.toNat ∧ c.toNat < 97) ∨ 102 < c.toNat) ∧ dv c = 1114112) := by
  unfold dv digN
  by_cases h1 : 48 ≤ c.toNat ∧ c.toNat ≤ 57
  · rw [if_pos h1]; exact .inl ⟨h1.1, h1.2, rfl⟩
  · rw [if_neg h1]
    by_cases h2 : 97 ≤ c.toNat ∧ c.toNat ≤ 102
    · rw [if_pos h2]; exact .inr (.inl ⟨h2.1, h2.2, rfl⟩)
    · rw [if_neg h2]
      by_cases h3 : 65 ≤ c.toNat ∧ c.toNat ≤ 70
      · rw [if_pos h3]; exact .inr (.inr (.inl ⟨h3.1, h3.2, rfl⟩))
      · rw [if_neg h3]; exact .inr (.inr (.inr ⟨by omega, rfl⟩))
set_option maxHeartbeats 1000000 in
theorem digit_any (c : UInt8) (w : World) : Calls Tryd.prog 43 #[.int .u8 (c.toNat : Int)] w fun e w' => e = .returned (.int .i32 (dv c : Nat)) ∧ w' = w := by
  have hb := c.toNat_lt
  rcases dv_cases c with ⟨h1, h2, e⟩ | ⟨h1, h2, e⟩ | ⟨h1, h2, e⟩ | ⟨h, e⟩
  · rw [e]
    generalize c.toNat = n at *
    have z1 : (48 : Int) ≤ (n : Int) := by omega
    have z2 : (n : Int) ≤ 57 := by omega
    have e' : (((n - 48 : Nat)) : Int) = (n : Int) - 48 := by omega
    rw [e']
    clear e e'
    go_enter Tryd.func43, Tryd.ntmps43
    go_wp2
    go_ret
    exact ⟨rfl, rfl⟩
  · rw [e]
    generalize c.toNat = n at *
    have z1 : (97 : Int) ≤ (n : Int) := by omega
    have z2 : (n : Int) ≤ 102 := by omega
    have z3 : (48 : Int) ≤ (n : Int) := by omega
    have z4 := decide_eq_false (show ¬ (n : Int) ≤ 57 by omega)
    have z5 : ¬ (n : Int) ≤ 57 := by omega
    have e' : (((n - 87 : Nat)) : Int) = (n : Int) - 97 + 10 := by omega
    rw [e']
    clear e e'
    go_enter Tryd.func43, Tryd.ntmps43
    go_wp2
    go_ret
    refine ⟨?_, rfl⟩
    congr 2 <;> omega
  · rw [e]
    generalize c.toNat = n at *
    have z1 : (65 : Int) ≤ (n : Int) := by omega
    have z2 : (n : Int) ≤ 70 := by omega
    have z3 : (48 : Int) ≤ (n : Int) := by omega
    have z4 := decide_eq_false (show ¬ (n : Int) ≤ 57 by omega)
    have z5 : ¬ (n : Int) ≤ 57 := by omega
    have z6 := decide_eq_false (show ¬ (97 : Int) ≤ (n : Int) by omega)
    have z7 : ¬ (97 : Int) ≤ (n : Int) := by omega
    have e' : (((n - 55 : Nat)) : Int) = (n : Int) - 65 + 10 := by omega
    rw [e']
    clear e e'
    go_enter Tryd.func43, Tryd.ntmps43
    go_wp2
    go_ret
    refine ⟨?_, rfl⟩
    congr 2 <;> omega
  · rw [e]
    clear e
    generalize c.toNat = n at *
    go_enter Tryd.func43, Tryd.ntmps43
    go_wp2
    all_goals first
      | (exfalso; omega)
      | (go_ret; exact ⟨rfl, rfl⟩)
/-- The document's: -1 of what is no digit. -/
def dz (base : Nat) (c : UInt8) : Int := if dv c < base then (dv c : Nat) else -1
set_option maxHeartbeats 2000000 in
theorem refDigit_any (base : Nat) (hbase : base = 10 ∨ base = 16) (c : UInt8) (w : World) : Calls Tryd.prog 36 #[.int .u8 (c.toNat : Int), .int .i32 (base : Int)] w fun e w' => e = .returned (.int .i32 (dz base c)) ∧ w' = w := by
  have hb := c.toNat_lt
  unfold dz
  rcases dv_cases c with ⟨h1, h2, e⟩ | ⟨h1, h2, e⟩ | ⟨h1, h2, e⟩ | ⟨h, e⟩
  all_goals
    rw [e]
    clear e
    generalize c.toNat = n at *
    go_enter Tryd.func36, Tryd.ntmps36
    go_wp2
    all_goals first
      | (exfalso; omega)
      | (go_ret
         refine ⟨?_, rfl⟩
         first
           | rfl
           | (show Ending.returned (.int .i32 _) = _
              congr 2
              omega))
end Go.Proofs.YtmbmobjlmbjkpaaDoor
