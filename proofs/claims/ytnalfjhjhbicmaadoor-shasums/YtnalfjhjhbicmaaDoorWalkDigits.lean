/-
  ShaDigits walked: the digits of a sum tell it. Conditions: the tables lie as they were laid.
-/
import Derived.Test.YtnalfjhjhbicmaaDoorAwake
namespace Go.Proofs.YtnalfjhjhbicmaaDoor
open Go.RowKit
/-- A digit's byte. -/
theorem dg_num {m : Nat} (h : m < 16) : (m < 10 ∧ v8 (dg m) = 48 + (m : Int)) ∨ (10 ≤ m ∧ v8 (dg m) = 87 + (m : Int)) := by
  have hm : m = 0 ∨ m = 1 ∨ m = 2 ∨ m = 3 ∨ m = 4 ∨ m = 5 ∨ m = 6 ∨ m = 7 ∨ m = 8 ∨ m = 9 ∨ m = 10 ∨ m = 11 ∨ m = 12 ∨ m = 13 ∨ m = 14 ∨ m = 15 := by omega
  rcases hm with rfl | rfl | rfl | rfl | rfl | rfl | rfl | rfl | rfl | rfl | rfl | rfl | rfl | rfl | rfl | rfl
  all_goals decide
theorem hexB_length (l : List UInt8) : (hexB l).length = 2 * l.length := by
  induction l with
  | nil => rfl
  | cons a l ih => 
    have e : hexB (a :: l) = dg2 a ++ hexB l := by simp [hexB]
    rw [e, List.length_append, ih, List.length_cons]; simp [dg2]; omega
theorem hexB_at : ∀ (l : List UInt8) (k : Nat), k < l.length → (hexB l)[2 * k]? = some (dg ((l.getD k 0).toNat / 16)) ∧ (hexB l)[2 * k + 1]? = some (dg ((l.getD k 0).toNat % 16))
  | [], k, h => by simp at h
  | a :: l, 0, _ => ⟨rfl, rfl⟩
  | a :: l, k + 1, h => by
    have e : hexB (a :: l) = dg (a.toNat / 16) :: dg (a.toNat % 16) :: hexB l := by simp [hexB, dg2]
    have ih := hexB_at l k (by simpa using h)
    rw [e, show 2 * (k + 1) = 2 * k + 1 + 1 by omega, List.getElem?_cons_succ, List.getElem?_cons_succ, List.getElem?_cons_succ, List.getElem?_cons_succ, List.getD_cons_succ]
    exact ih
theorem index_str {t : TypeId} (ht : Tryd.prog.underlying t = some .string) {l : List UInt8} {i : Nat} {b : UInt8} (h : l[i]? = some b) (w : World) : (Instr.index t (.string ⟨l.toArray⟩) (.int .i64 (i : Int))).run Tryd.prog w = .ok (.int .u8 (v8 b)) w := by
  have h1 : (⟨l.toArray⟩ : ByteArray)[i]? = some b := by
    show (ByteArray.mk l.toArray)[i]? = some b
    have hi : i < l.length := (List.getElem?_eq_some_iff.1 h).1
    rw [List.getElem?_eq_getElem hi] at h
    rw [getElem?_pos _ i (by simpa [ByteArray.size] using hi)]
    simpa [ByteArray.getElem_eq_getElem_data] using h
  simp [Instr.index, asIntOf, run_underlying ht, h1, v8]
set_option maxHeartbeats 1000000 in
theorem digits_walk (s : List UInt8) (hs : s.length = 32) (w : World) (hT : Tabs w) : Calls Tryd.prog 6 #[.agg (u8c s).toArray] w fun e w' => e = .returned (.bool true) ∧ Below w.heap.size w w' := by
  have hb0 := (Below.refl w.heap.size w).alloc (Nat.le_refl _) (.cells (u8c s).toArray 25)
  have HAW := Lib.hid (awake_any (w.alloc (.cells (u8c s).toArray 25)) (hT.below hb0 hT.two))
  have HI : Hid ((Tryd.prog.info? 25).map (·.size) = some (u8c s).toArray.size) := by unfold Hid; rw [List.size_toArray, u8c_length, hs]; kernel_rfl
  have HS := Lib.hid hs
  have HF := Lib.hid (Holds.fresh w 25 (u8c s))
  clear hT hs
  go_enter Tryd.func6, Tryd.ntmps6
  go_wp2_with fail
  refine HAW.out.mono ?_
  rintro e w1 ⟨rfl, hb1⟩
  have HF1 := Lib.hid (HF.out.below hb1 (by simp))
  have hb2 := hb0.trans (hb1.mono hb0.size)
  clear hb0 hb1 HAW HF
  go_wp2_with (refine wpList_load_row rfl 25 _ rfl w.heap.size rfl 25 _ (0, 0) _ HF1.out Tryd.underlying25 rfl HI.out ?_)
  refine (hex_any s HS.out w1).mono ?_
  rintro e w2 ⟨rfl, hb3⟩
  have hF2 := HF1.out.below hb3 HF1.out.lt
  have hb4 := hb2.trans (hb3.mono hb2.size)
  clear hb2 hb3 HF1 HI
  have hsz : (⟨(hexB s).toArray⟩ : ByteArray).size = 64 := by show (hexB s).toArray.size = 64; rw [List.size_toArray, hexB_length, HS.out]
  have HIX : Hid (∀ k, k < 32 → ∀ w, ((Instr.index 9 (.string ⟨(hexB s).toArray⟩) (.int .i64 ((2 * k : Nat) : Int))).run Tryd.prog w = .ok (.int .u8 (v8 (dg ((s.getD k 0).toNat / 16)))) w) ∧ ((Instr.index 9 (.string ⟨(hexB s).toArray⟩) (.int .i64 ((2 * k + 1 : Nat) : Int))).run Tryd.prog w = .ok (.int .u8 (v8 (dg ((s.getD k 0).toNat % 16)))) w)) :=
    fun k hk w => ⟨index_str Tryd.underlying9 (hexB_at s k (by rw [HS.out]; exact hk)).1 w, index_str Tryd.underlying9 (hexB_at s k (by rw [HS.out]; exact hk)).2 w⟩
  generalize (⟨(hexB s).toArray⟩ : ByteArray) = S at *
  have HF2 := Lib.hid hF2
  clear hF2
  go_wp2
  go_loop [15] (fun i => ∃ k : Nat, k ≤ 32 ∧ i = .int .i64 k) (fun i => 32 - (intOf i).toNat)
  case atStart => exact ⟨0, by omega, rfl⟩
  case round =>
    obtain ⟨k, hk, rfl⟩ := hrel
    by_cases hlt : k < 32
    · have ck : w2.cell? ⟨w.heap.size, k, none⟩ = some (.int .u8 (v8 (s.getD k 0))) := by rw [HF2.out.cell, u8c_at (by rw [HS.out]; exact hlt)]
      have hix := HIX.out k hlt
      generalize s.getD k 0 = b at *
      have hb256 := b.toNat_lt
      obtain ⟨m1, hm1⟩ : ∃ m1 : Nat, b.toNat / 16 = m1 := ⟨_, rfl⟩
      obtain ⟨m2, hm2⟩ : ∃ m2 : Nat, b.toNat % 16 = m2 := ⟨_, rfl⟩
      rw [hm1, hm2] at hix
      have hbv : v8 b = 16 * (m1 : Int) + (m2 : Int) := by unfold v8; omega
      rw [hbv] at ck
      have d1 := dg_num (m := m1) (by omega)
      have d2 := dg_num (m := m2) (by omega)
      have l1 : m1 < 16 := by omega
      have l2 : m2 < 16 := by omega
      have g1 : ∀ w, (Instr.index 9 (.string S) (.int .i64 (2 * (k : Int)))).run Tryd.prog w = .ok (.int .u8 (v8 (dg m1))) w := fun w => (hix w).1
      have g2 : ∀ w, (Instr.index 9 (.string S) (.int .i64 (2 * (k : Int) + 1))).run Tryd.prog w = .ok (.int .u8 (v8 (dg m2))) w := fun w => (hix w).2
      generalize v8 (dg m1) = C1 at *
      generalize v8 (dg m2) = C2 at *
      clear hix hm1 hm2 hbv
      go_wp2
      go_loop [5, 18] (fun n j => (j = .int .i64 0 ∧ n = .int .i64 0) ∨ (j = .int .i64 1 ∧ n = .int .i64 (m1 : Int)) ∨ (j = .int .i64 2 ∧ n = .int .i64 (16 * (m1 : Int) + (m2 : Int)))) (fun _ j => 2 - (intOf j).toNat)
      case atStart => exact .inl ⟨rfl, rfl⟩
      case round =>
        rcases hrel with ⟨rfl, rfl⟩ | ⟨rfl, rfl⟩ | ⟨rfl, rfl⟩
        · clear g2 d2
          rcases d1 with ⟨h1, hC⟩ | ⟨h1, hC⟩
          all_goals
            subst hC
            go_wp2
            go_round
            case rel => exact .inr (.inl ⟨rfl, by go_num⟩)
            case measure => decide
        · clear g1 d1
          rcases d2 with ⟨h1, hC⟩ | ⟨h1, hC⟩
          all_goals
            subst hC
            go_wp2
            go_round
            case rel => exact .inr (.inr ⟨rfl, by go_num⟩)
            case measure => decide
        · clear g1 g2 d1 d2
          go_wp2
          go_round
          case rel => exact ⟨k + 1, by omega, by go_num⟩
          case measure => simp [intOf]; omega
    · go_wp2
      go_ret
      exact ⟨rfl, hb4⟩
end Go.Proofs.YtnalfjhjhbicmaaDoor
