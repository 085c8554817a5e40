/-
  chars.blanked: a text with a blank in the place of each 9, A and D. Conditions: the text is not too long.
-/
import Derived.Test.YtmbmobjlmbjkpaaDoorCText
import Derived.Test.YtmbmobjlmbjkpaaDoorCPureP
namespace Go.Proofs.YtmbmobjlmbjkpaaDoor
open Go.RowKit
set_option linter.unusedVariables false
/-- A text up to a place with its blanks, from there on as it was. -/
def upto (s : List UInt8) (k j : Nat) : UInt8 := if j < k then bl (s.getD j 0) else s.getD j 0
/-- What holds at each round's head. -/
def BkRel (w : World) (g : Nat) (s : List UInt8) (i : Value) (wr : World) : Prop :=
  ∃ k : Nat, k ≤ s.length ∧ i = .int .i64 (k : Int) ∧ (∀ j, j < s.length → wr.cell? ⟨g, j, none⟩ = some (.int .u8 ((upto s k j).toNat : Int)) ∧ wr.frozen? ⟨g, j, none⟩ = false) ∧ Below w.heap.size w wr
theorem upto_here (s : List UInt8) (k : Nat) : upto s k k = s.getD k 0 := by unfold upto; rw [if_neg (by omega)]
theorem upto_next (s : List UInt8) (k j : Nat) (h : j ≠ k) : upto s (k + 1) j = upto s k j := by
  unfold upto
  by_cases h1 : j < k
  · rw [if_pos h1, if_pos (by omega)]
  · rw [if_neg h1, if_neg (by omega)]
theorem upto_same (s : List UInt8) (k : Nat) (h : bl (s.getD k 0) = s.getD k 0) (j : Nat) : upto s (k + 1) j = upto s k j := by
  by_cases hj : j = k
  · subst hj
    unfold upto
    rw [if_pos (by omega), if_neg (by omega), h]
  · exact upto_next s k j hj
theorem upto_full (s : List UInt8) (k : Nat) : upto s (k + 1) k = bl (s.getD k 0) := by unfold upto; rw [if_pos (by omega)]
set_option maxHeartbeats 4000000 in
theorem blanked_any (S : ByteArray) (hlen : S.size ≤ 100000) (w : World) : Calls Tryd.prog 18 #[.string S] w fun e w' => e = .returned (.string ⟨(S.data.toList.map bl).toArray⟩) ∧ Below w.heap.size w w' := by
  obtain ⟨c, W, hcv, hcell, hsz, hbW, hc1, hc2, hown⟩ := conv_text S (by omega) w
  obtain ⟨N, hN⟩ : ∃ N, S.size = N := ⟨_, rfl⟩
  have hNl : S.data.toList.length = N := by rw [← ba_size]; exact hN
  have hfz : ∀ j, j < N → W.frozen? ⟨w.heap.size, j, none⟩ = false := fun j hj => by
    rcases hown with ⟨h, _⟩ | ⟨g, cap, e, _, _, h3, _, h5, _⟩
    · cases h
    · injection e with e1 e2 e3
      injection e1 with e1
      injection e1 with e1
      subst e1
      exact (h5 j (by omega)).2
  rw [hN] at hcv hc1 hlen
  obtain ⟨R, hR⟩ : ∃ R : ByteArray, ⟨(S.data.toList.map bl).toArray⟩ = R := ⟨_, rfl⟩
  rw [hR]
  have HR := Lib.hid hR
  have HNL := Lib.hid hNl
  have HST : Hid (BkRel w w.heap.size S.data.toList (.int .i64 0) W) := ⟨0, Nat.zero_le _, rfl, fun j hj => ⟨by
    have := hcell j hj
    rw [Nat.zero_add] at this
    rw [this]
    unfold upto
    rw [if_neg (by omega), List.getD_eq_getElem?_getD, List.getElem?_eq_getElem hj]; rfl, hfz j (by rw [← hNl]; exact hj)⟩, hbW⟩
  clear hNl hR hcell hsz hbW hown hfz
  obtain ⟨g, hg⟩ : ∃ g, w.heap.size = g := ⟨_, rfl⟩
  rw [hg] at HST hcv
  have HG := Lib.hid hg
  clear hg
  go_enter Tryd.func18, Tryd.ntmps18
  go_wp2
  clear hcv
  go_loopw [10] (BkRel w g S.data.toList) (fun i _ => N - (intOf i).toNat)
  case atStart => exact HST.out
  case round =>
    obtain ⟨k, hk, rfl, hcl, hb⟩ := hrel
    rw [HNL.out] at hk
    have HCL := Lib.hid hcl
    have HB := Lib.hid hb
    have hbs := hb.size
    clear hcl hb HST
    by_cases hlt : k < N
    · obtain ⟨hck, hfk⟩ := HCL.out k (by rw [HNL.out]; exact hlt)
      rw [upto_here] at hck
      have hkz : (k : Int) < (N : Int) := by omega
      by_cases hq : bl (S.data.toList.getD k 0) = S.data.toList.getD k 0
      · have HNX : Hid (BkRel w g S.data.toList (.int .i64 ((k + 1 : Nat) : Int)) wr) := ⟨k + 1, by rw [HNL.out]; exact hlt, rfl, fun j hj => by rw [upto_same _ _ hq]; exact HCL.out j hj, HB.out⟩
        have hne : S.data.toList.getD k 0 ≠ 9 ∧ S.data.toList.getD k 0 ≠ 10 ∧ S.data.toList.getD k 0 ≠ 13 := by
          unfold bl at hq
          refine ⟨fun h => ?_, fun h => ?_, fun h => ?_⟩ <;> (rw [h] at hq; revert hq; decide)
        have n9 : ¬ ((S.data.toList.getD k 0).toNat : Int) = 9 := fun e => hne.1 (UInt8.toNat_inj.1 (show _ = 9 by omega))
        have n10 : ¬ ((S.data.toList.getD k 0).toNat : Int) = 10 := fun e => hne.2.1 (UInt8.toNat_inj.1 (show _ = 10 by omega))
        have n13 : ¬ ((S.data.toList.getD k 0).toNat : Int) = 13 := fun e => hne.2.2 (UInt8.toNat_inj.1 (show _ = 13 by omega))
        clear hq hne HCL
        generalize (S.data.toList.getD k 0).toNat = x at *
        have b9 : ((x : Int) == 9) = false := by simpa using n9
        have b10 : ((x : Int) == 10) = false := by simpa using n10
        have b13 : ((x : Int) == 13) = false := by simpa using n13
        go_wp2
        go_roundw
        case rel => exact (show Value.int .i64 ((k + 1 : Nat) : Int) = _ by go_num) ▸ HNX.out
        case measure => simp [intOf]; omega
      · have hor : S.data.toList.getD k 0 = 9 ∨ S.data.toList.getD k 0 = 10 ∨ S.data.toList.getD k 0 = 13 := by
          unfold bl at hq
          by_cases h : S.data.toList.getD k 0 = 9 ∨ S.data.toList.getD k 0 = 10 ∨ S.data.toList.getD k 0 = 13
          · exact h
          · rw [if_neg h] at hq; exact absurd rfl hq
        have HNX : Hid (BkRel w g S.data.toList (.int .i64 ((k + 1 : Nat) : Int)) (wr.setCell ⟨g, k, none⟩ (.int .u8 32))) := ⟨k + 1, by rw [HNL.out]; exact hlt, rfl, fun j hj => by
          by_cases hj2 : j = k
          · subst hj2
            refine ⟨?_, by rw [World.frozen?_setCell]; exact hfk⟩
            rw [World.cell?_setCell_same _ _ _ hck, upto_full]
            unfold bl
            rw [if_pos hor]
            rfl
          · rw [World.cell?_setCell_other _ _ _ _ (by simp only [ne_eq, Addr.mk.injEq, not_and]; omega), World.frozen?_setCell, upto_next _ _ _ hj2]
            exact HCL.out j hj, HB.out.setCell (p := ⟨g, k, none⟩) (by rw [HG.out]; exact Nat.le_refl _) _⟩
        clear HCL hq
        rcases hor with h | h | h
        all_goals
          rw [h] at hck
          clear h
          have hck9 : ((9 : UInt8).toNat : Int) = 9 := rfl
          have hck10 : ((10 : UInt8).toNat : Int) = 10 := rfl
          have hck13 : ((13 : UInt8).toNat : Int) = 13 := rfl
          first
            | rw [hck9] at hck
            | rw [hck10] at hck
            | rw [hck13] at hck
          clear hck9 hck10 hck13
          go_wp2
          go_roundw
          case rel => exact (show Value.int .i64 ((k + 1 : Nat) : Int) = _ by go_num) ▸ HNX.out
          case measure => simp [intOf]; omega
    · have hkz : ¬ (k : Int) < (N : Int) := by omega
      have hkz1 := decide_eq_false hkz
      have hli : Lies wr wr.heap.size (some ⟨g, 0, none⟩) (u8c (S.data.toList.map bl)) := fun hne => by
        have hN0 : 0 < N := by
          rcases Nat.eq_zero_or_pos N with h | h
          · have : S.data.toList = [] := List.eq_nil_of_length_eq_zero (by rw [HNL.out]; exact h)
            rw [this] at hne; exact absurd rfl hne
          · exact h
        have hgl : g < wr.heap.size := by
          have := (HCL.out 0 (by rw [HNL.out]; exact hN0)).1
          unfold World.cell? at this
          rcases Nat.lt_or_ge g wr.heap.size with h | h
          · exact h
          · rw [Array.getElem?_eq_none h] at this; simp at this
        refine ⟨g, 0, rfl, hgl, fun j hj => ?_⟩
        rw [u8c_length, List.length_map] at hj
        rw [Nat.zero_add, (HCL.out j hj).1]
        unfold upto
        rw [if_pos (by rw [HNL.out] at hj; omega)]
        simp [u8c, List.getD_eq_getElem?_getD, List.getElem?_eq_getElem hj]
      have hcv := conv_lies c hli
      rw [List.length_map, HNL.out, HR.out] at hcv
      clear hli HCL
      go_wp2
      go_ret
      exact ⟨rfl, HB.out⟩
end Go.Proofs.YtmbmobjlmbjkpaaDoor
