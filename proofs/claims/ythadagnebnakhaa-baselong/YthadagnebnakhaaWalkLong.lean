/-
  BaseLong walked: how many letters bytes have. Conditions: none.
-/
import Derived.Test.YthadagnebnakhaaBAwake
namespace Go.Proofs.Ythadagnebnakhaa
open Go.RowKit
set_option linter.unusedVariables false
set_option maxHeartbeats 1000000 in
theorem long_any (A : Option Addr) (b : List UInt8) (cap : Nat) (w : World) (hc : b.length ≤ cap) (hcm : cap ≤ 9223372036854775807) (hA : Lies w A b) :
    Calls Try.prog 7 #[.slice A b.length cap] w fun e w' => e = .returned (.bool true) ∧ Below w.heap.size w w' := by
  have HAW := Lib.hid (awake_any w)
  have HA : Hid (∀ W, Below w.heap.size w W → Lies W A b) := fun W hW => hA.below hW (Nat.le_refl _)
  clear hA
  obtain ⟨n, hN⟩ : ∃ n, b.length = n := ⟨_, rfl⟩
  have HN := Lib.hid hN
  rw [hN] at hc ⊢
  clear hN
  by_cases hn : 300 < n
  · have hz : (300 : Int) < (n : Int) := by omega
    go_enter Try.func7, Try.ntmps7
    go_wp2_with fail
    refine HAW.out.mono ?_
    rintro e w1 ⟨rfl, hb1⟩
    go_wp2
    go_ret
    exact ⟨rfl, hb1⟩
  · have hz : ¬ (300 : Int) < (n : Int) := by omega
    have hz1 := decide_eq_false hz
    go_enter Try.func7, Try.ntmps7
    go_wp2_with fail
    refine HAW.out.mono ?_
    rintro e w1 ⟨rfl, hb1⟩
    have HE := Lib.hid (encode_part A b cap w1 (HA.out w1 hb1) (by rw [HN.out]; exact hc) hcm (by rw [HN.out]; omega))
    rw [HN.out] at HE
    obtain ⟨S, hS⟩ : ∃ S : ByteArray, ⟨(enc b).toArray⟩ = S := ⟨_, rfl⟩
    have hsz : S.size = (n + 2) / 3 * 4 := by
      rw [← hS]
      have := enc_length b
      rw [HN.out] at this
      exact this
    rw [hS] at HE
    clear HAW HA hS
    go_wp2_with fail
    refine HE.out.mono ?_
    rintro e w2 ⟨rfl, hb2⟩
    have hb3 := hb1.trans (hb2.mono hb1.size)
    generalize hq : (n + 2) / 3 * 4 = q at *
    have heq : ((n : Int) + 2) / 3 * 4 = (q : Int) := by omega
    go_wp2
    trace_state
    go_ret
    exact ⟨rfl, hb3⟩
end Go.Proofs.Ythadagnebnakhaa
