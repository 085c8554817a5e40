/-
  doc.hangs: whether a node hangs where it may. Conditions: the list lies as it is; those ahead hang on nodes ahead.
-/
import Derived.Test.YtalcmhngebobnaaDoorDPure
import Derived.Deep.LoopGhost
namespace Go.Proofs.YtalcmhngebobnaaDoor
open Go.RowKit
set_option linter.unusedVariables false
set_option maxRecDepth 100000
/-- What holds at each round's head. -/
def HgRel (w : World) (l : List Nd) (i p : Nat) (a : Value) (wr : World) : Prop := ∃ k : Nat, k < i ∧ a = .int .i64 k ∧ (p ∈ chn l (i - 1) ↔ p ∈ chn l k) ∧ wr = w
set_option maxHeartbeats 4000000 in
theorem hangs_any (l : List Nd) (v : Value) (i : Nat) (w : World) (hv : NsAt w w.heap.size v l) (h1 : 1 ≤ i) (hi : i < l.length) (hh : Hung l i) (hlen : l.length ≤ 2000000) :
    Calls Tryd.prog 30 #[v, .int .i64 (i : Int)] w fun e w' => e = .returned (.bool (hangB l i)) ∧ w' = w := by
  obtain ⟨b, o, cap, rfl, hc1, hc2, hbB, hnd⟩ := hv.open (by intro h; subst h; simp at hi)
  obtain ⟨vd, va, c0, c1, _⟩ := (hnd i hi).cells
  rw [← pa_at hi] at c1
  obtain ⟨B, hB⟩ : ∃ B, hangB l i = B := ⟨_, rfl⟩
  rw [hB]
  have HB := Lib.hid hB
  have HND := Lib.hid hnd
  have HH := Lib.hid hh
  obtain ⟨p, hp⟩ : ∃ p, pa l i = p := ⟨_, rfl⟩
  rw [hp] at c1
  have HP := Lib.hid hp
  have hiz : (i : Int) < (l.length : Int) := by omega
  obtain ⟨n, hn⟩ : ∃ n, l.length = n := ⟨_, rfl⟩
  have HN := Lib.hid hn
  rw [hn] at hiz hc1 hlen ⊢
  clear hB hnd hh hp c0 hn
  by_cases hneg : p < 0
  · have hF : false = B := by rw [← HB.out]; unfold hangB; rw [HP.out]; simp; omega
    subst hF
    go_enter Tryd.func30, Tryd.ntmps30
    go_wp2
    go_ret
    exact ⟨rfl, rfl⟩
  · obtain ⟨q, rfl⟩ : ∃ q : Nat, p = (q : Int) := ⟨p.toNat, by omega⟩
    go_enter Tryd.func30, Tryd.ntmps30
    go_wp2
    go_loopw [6] (HgRel w l i q) (fun a _ => (intOf a).toNat)
    case atStart => exact ⟨i - 1, by omega, by go_num, Iff.rfl, rfl⟩
    case round =>
      obtain ⟨k, hk, rfl, hm, rfl⟩ := hrel
      have HM := Lib.hid hm
      clear hm
      by_cases hlt : q < k
      · have hkl : k < l.length := by rw [HN.out]; omega
        obtain ⟨vd', va', d0, d1, _⟩ := (HND.out k hkl).cells
        rw [← pa_at hkl] at d1
        have hs := HH.out k (by omega) hk
        have HS : Hid (q ∈ chn l (i - 1) ↔ q ∈ chn l (pa l k).toNat) := HM.out.trans (mem_step HH.out hk hlt)
        obtain ⟨z, hz⟩ : ∃ z : Nat, pa l k = (z : Int) := ⟨(pa l k).toNat, by omega⟩
        rw [hz] at d1 hs HS
        have hkz : (q : Int) < (k : Int) := by omega
        have hkn : (k : Int) < (n : Int) := by omega
        clear d0 hz
        go_wp2
        go_roundw
        case rel => exact ⟨z, by omega, rfl, HS.out, rfl⟩
        case measure => simp [intOf]; omega
      · have hkz : ¬ (q : Int) < (k : Int) := by omega
        have hmem : q ∈ chn l (i - 1) ↔ q = k := HM.out.trans (mem_end (by omega))
        by_cases he : k = q
        · subst he
          have hkl : k < l.length := by rw [HN.out]; omega
          obtain ⟨vd', va', d0, d1, _⟩ := (HND.out k hkl).cells
          rw [← kd_at hkl] at d0
          have hR : (kd l k == 0 || kd l k == 1) = B := by
            rw [← HB.out]; unfold hangB; rw [HP.out]
            simp [hmem]
          have HR := Lib.hid hR
          have hkn : (k : Int) < (n : Int) := by omega
          generalize kd l k = y at *
          clear hmem hR d1
          go_wp2
          all_goals
            go_ret
            refine ⟨ret_bool ?_, rfl⟩
            rw [← HR.out] <;> simp [*]
        · have hke : ((k : Int) == (q : Int)) = false := by rw [beq_eq_false_iff_ne]; omega
          have hF : false = B := by
            rw [← HB.out]; unfold hangB; rw [HP.out]
            have : ¬ q ∈ chn l (i - 1) := fun h => he (hmem.1 h).symm
            simp [this]
          subst hF
          clear hmem
          go_wp2
          go_ret
          exact ⟨rfl, rfl⟩
end Go.Proofs.YtalcmhngebobnaaDoor
