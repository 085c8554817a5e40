/-
  Lines ended: the program's and the document's. Conditions: the text is not too long.
-/
import Derived.Test.YtmbmobjlmbjkpaaDoorCText
import Derived.Test.YtmbmobjlmbjkpaaDoorCPureP
namespace Go.Proofs.YtmbmobjlmbjkpaaDoor
open Go.RowKit
set_option linter.unusedVariables false
/-- Room for bytes, none of them there. -/
theorem make_own (N : Nat) (hN : N ≤ 1000000) (W : World) : ∃ W', (Instr.makeSlice 28 (.int .i64 0) (.int .i64 (N : Int))).run Tryd.prog W = .ok (.slice (some ⟨W.heap.size, 0, none⟩) 0 N) W' ∧ Own W' W.heap.size (.slice (some ⟨W.heap.size, 0, none⟩) 0 N) [] ∧ Below W.heap.size W W' := by
  obtain ⟨i0, hi, hz0, hz1, hz2⟩ := info_parts byteInf
  have h := run_make (P := Tryd.prog) W 28 5 i0 (.int .u8 0) Tryd.underlying28 hi hz0 .i64 .i64 (0 : Int) (N : Int) (by omega) (by omega) (by rw [hz2]; omega) (by omega)
  have hM : (madeCells (Value.int .u8 0).cells (((N : Nat) : Int).toNat * i0.size)).size = N := by rw [size_madeCells, hz1]; simp
  generalize madeCells (Value.int .u8 0).cells (((N : Nat) : Int).toNat * i0.size) = M at *
  refine ⟨W.alloc (.cells M 5), by simpa using h, .inr ⟨W.heap.size, N, rfl, Nat.le_refl _, by simp, Nat.zero_le _, by omega, fun j hj => ⟨?_, frozen_of_row _ _ j M 5 (heap_alloc_last W _)⟩, fun j u hu => by simp [u8c] at hu⟩, (Below.refl _ _).alloc (Nat.le_refl _) _⟩
  rw [cell_of_row _ _ j _ _ _ (heap_alloc_last W _), Array.getElem?_eq_getElem (by omega)]; rfl
/-- What holds at each round's head. -/
def LnRel (w : World) (s : List UInt8) (v i : Value) (wr : World) : Prop :=
  ∃ (k : Nat) (O : List UInt8), k ≤ s.length ∧ i = .int .i64 (k : Int) ∧ Own wr w.heap.size v O ∧ O.length ≤ k ∧ linesL s = O ++ linesL (s.drop k) ∧ Below w.heap.size w wr
theorem lines_at {s : List UInt8} {k : Nat} (h : k < s.length) : linesL (s.drop k) = if s[k] = 13 then (if s[k + 1]? = some 10 then linesL (s.drop (k + 1)) else 10 :: linesL (s.drop (k + 1))) else s[k] :: linesL (s.drop (k + 1)) := by
  rw [List.drop_eq_getElem_cons h, lines_cons, List.head?_drop]
theorem ln_more {O T R : List UInt8} {c : UInt8} {s : List UInt8} (h : linesL s = O ++ T) (h2 : T = c :: R) : linesL s = (O ++ [c]) ++ R := by rw [h, h2]; simp
theorem index_next (S : ByteArray) {k : Nat} (h : k + 1 < S.data.toList.length) (w : World) : (Instr.index 9 (.string S) (.int .i64 ((k : Int) + 1))).run Tryd.prog w = .ok (.int .u8 ((S.data.toList[k + 1].toNat : Nat) : Int)) w := by
  have := index_str S h w
  simpa using this
theorem byte_ne {c d : UInt8} (h : c ≠ d) : ¬ (c.toNat : Int) = (d.toNat : Int) := fun e => h (UInt8.toNat_inj.1 (by omega))
set_option maxHeartbeats 4000000 in
theorem lines_any (S : ByteArray) (hlen : S.size ≤ 100000) (w : World) : Calls Tryd.prog 8 #[.string S] w fun e w' => e = .returned (.string ⟨(linesL S.data.toList).toArray⟩) ∧ Below w.heap.size w w' := by
  obtain ⟨N, hN⟩ : ∃ N, S.size = N := ⟨_, rfl⟩
  have hNl : S.data.toList.length = N := by rw [← ba_size]; exact hN
  have HNL := Lib.hid hNl
  rw [hN] at hlen
  obtain ⟨R, hR⟩ : ∃ R : ByteArray, ⟨(linesL S.data.toList).toArray⟩ = R := ⟨_, rfl⟩
  rw [hR]
  have HR := Lib.hid hR
  clear hNl hR
  obtain ⟨W, hmk, hO0, hb0⟩ := make_own N (by omega) w
  have HO0 := Lib.hid hO0
  have HB0 := Lib.hid hb0
  clear hO0 hb0
  go_enter Tryd.func8, Tryd.ntmps8
  go_wp2
  clear hmk
  go_loopw [3, 10] (LnRel w S.data.toList) (fun _ i _ => N - (intOf i).toNat)
  case atStart => exact ⟨0, [], Nat.zero_le _, rfl, HO0.out, Nat.zero_le _, by rw [List.drop_zero]; rfl, HB0.out⟩
  case round =>
    obtain ⟨k, O, hk, rfl, hO, hOl, hln, hb⟩ := hrel
    rw [HNL.out] at hk
    have HO := Lib.hid hO
    have HLN := Lib.hid hln
    have HB := Lib.hid hb
    have hbs := hb.size
    clear hO hln hb
    by_cases hlt : k < N
    · have hkl : k < S.data.toList.length := by rw [HNL.out]; exact hlt
      have hix := index_str S hkl
      have hat := lines_at hkl
      have hkz : (k : Int) < (N : Int) := by omega
      have hOn : O.length + 1 ≤ 1000000000000 := by omega
      by_cases hc : S.data.toList[k] = 13
      · rw [hc] at hix hat
        rw [if_pos rfl] at hat
        have hix' : ∀ w, (Instr.index 9 (.string S) (.int .i64 (k : Int))).run Tryd.prog w = .ok (.int .u8 13) w := hix
        clear hix hc
        by_cases hl : k + 1 < N
        · have hkl1 : k + 1 < S.data.toList.length := by rw [HNL.out]; exact hl
          have hiy := index_next S hkl1
          rw [List.getElem?_eq_getElem hkl1] at hat
          have hle : ((k : Int) + 1 == (N : Int)) = false := by rw [beq_eq_false_iff_ne]; omega
          have hle2 : (k : Int) + 1 < (N : Int) := by omega
          by_cases hd : S.data.toList[k + 1] = 10
          · rw [hd] at hiy hat
            rw [if_pos rfl] at hat
            have hiy' : ∀ w, (Instr.index 9 (.string S) (.int .i64 ((k : Int) + 1))).run Tryd.prog w = .ok (.int .u8 10) w := hiy
            have HNX : Hid (LnRel w S.data.toList u3 (.int .i64 ((k + 1 : Nat) : Int)) wr) := ⟨k + 1, O, by rw [HNL.out]; exact hlt, rfl, HO.out, by omega, by rw [HLN.out, hat], HB.out⟩
            clear hiy hd hat hkl hkl1
            go_wp2
            go_roundw
            case rel => exact (show Value.int .i64 ((k + 1 : Nat) : Int) = _ by go_num) ▸ HNX.out
            case measure => simp [intOf]; omega
          · rw [if_neg (by simpa using hd)] at hat
            have hdz := byte_ne hd
            have hd10 : ((10 : UInt8).toNat : Int) = 10 := rfl
            rw [hd10] at hdz
            generalize S.data.toList[k + 1].toNat = y at *
            have hdb : ((y : Int) != 10) = true := by simpa using hdz
            have hdb2 : ((y : Int) == 10) = false := by simpa using hdz
            have HAT : Hid (linesL S.data.toList = (O ++ [10]) ++ linesL (S.data.toList.drop (k + 1))) := ln_more HLN.out hat
            clear hat hd hd10 hkl hkl1
            go_wp2_with (at_builtin; refine app_byte rfl _ _ rfl w.heap.size O u3 rfl HO.out hbs 10 _ rfl rfl hOn ?_; intro v3 w3 hO3 hb3)
            have HO3 := Lib.hid hO3
            have HB3 := Lib.hid hb3
            clear hO3 hb3
            go_wp2
            go_roundw
            case rel => exact ⟨k + 1, O ++ [10], by rw [HNL.out]; exact hlt, by go_num, HO3.out, by rw [List.length_append, List.length_singleton]; omega, HAT.out, HB.out.trans HB3.out⟩
            case measure => simp [intOf]; omega
        · have hle : ((k : Int) + 1 == (N : Int)) = true := by rw [beq_iff_eq]; omega
          have hle2 : ¬ (k : Int) + 1 < (N : Int) := by omega
          have hle3 := decide_eq_false hle2
          rw [List.getElem?_eq_none (by rw [HNL.out]; omega), if_neg (by simp)] at hat
          have HAT : Hid (linesL S.data.toList = (O ++ [10]) ++ linesL (S.data.toList.drop (k + 1))) := ln_more HLN.out hat
          clear hat hkl
          go_wp2_with (at_builtin; refine app_byte rfl _ _ rfl w.heap.size O u3 rfl HO.out hbs 10 _ rfl rfl hOn ?_; intro v3 w3 hO3 hb3)
          have HO3 := Lib.hid hO3
          have HB3 := Lib.hid hb3
          clear hO3 hb3
          go_wp2
          go_roundw
          case rel => exact ⟨k + 1, O ++ [10], by rw [HNL.out]; exact hlt, by go_num, HO3.out, by rw [List.length_append, List.length_singleton]; omega, HAT.out, HB.out.trans HB3.out⟩
          case measure => simp [intOf]; omega
      · rw [if_neg hc] at hat
        have HAT : Hid (linesL S.data.toList = (O ++ [S.data.toList[k]]) ++ linesL (S.data.toList.drop (k + 1))) := ln_more HLN.out hat
        have hcz := byte_ne hc
        have h13 : ((13 : UInt8).toNat : Int) = 13 := rfl
        rw [h13] at hcz
        clear hat hc h13
        generalize S.data.toList[k] = c at *
        obtain ⟨x, hx⟩ : ∃ x, c.toNat = x := ⟨_, rfl⟩
        rw [hx] at hcz hix
        have HX := Lib.hid hx
        have hcb : ((x : Int) != 13) = true := by simpa using hcz
        have hcb2 : ((x : Int) == 13) = false := by simpa using hcz
        clear hx hkl
        go_wp2_with (at_builtin; refine app_byte rfl _ _ rfl w.heap.size O u3 rfl HO.out hbs c _ (by rw [HX.out]) rfl hOn ?_; intro v3 w3 hO3 hb3)
        have HO3 := Lib.hid hO3
        have HB3 := Lib.hid hb3
        clear hO3 hb3
        go_wp2
        go_roundw
        case rel => exact ⟨k + 1, O ++ [c], by rw [HNL.out]; exact hlt, by go_num, HO3.out, by rw [List.length_append, List.length_singleton]; omega, HAT.out, HB.out.trans HB3.out⟩
        case measure => simp [intOf]; omega
    · have hkz : ¬ (k : Int) < (N : Int) := by omega
      have hkz1 := decide_eq_false hkz
      have hfin := HLN.out
      rw [List.drop_of_length_le (by rw [HNL.out]; omega), show linesL [] = [] from rfl, List.append_nil] at hfin
      obtain ⟨A', cap', hv, hcl, hcm, hli⟩ := HO.out.lies
      have hcv := conv_lies cap' hli
      have hOR : (⟨O.toArray⟩ : ByteArray) = R := by rw [← hfin]; exact HR.out
      rw [hOR] at hcv
      generalize O.length = n at *
      subst hv
      clear hli hfin hOR HO HLN
      go_wp2
      go_ret
      exact ⟨rfl, HB.out⟩
set_option maxHeartbeats 4000000 in
theorem refLines_any (S : ByteArray) (hlen : S.size ≤ 100000) (w : World) : Calls Tryd.prog 9 #[.string S] w fun e w' => e = .returned (.string ⟨(linesL S.data.toList).toArray⟩) ∧ Below w.heap.size w w' := by
  obtain ⟨N, hN⟩ : ∃ N, S.size = N := ⟨_, rfl⟩
  have hNl : S.data.toList.length = N := by rw [← ba_size]; exact hN
  have HNL := Lib.hid hNl
  rw [hN] at hlen
  obtain ⟨R, hR⟩ : ∃ R : ByteArray, ⟨(linesL S.data.toList).toArray⟩ = R := ⟨_, rfl⟩
  rw [hR]
  have HR := Lib.hid hR
  clear hNl hR
  go_enter Tryd.func9, Tryd.ntmps9
  go_wp2
  go_loopw [3, 7] (LnRel w S.data.toList) (fun _ i _ => N - (intOf i).toNat)
  case atStart => exact ⟨0, [], Nat.zero_le _, rfl, Own.nil _ _, Nat.zero_le _, by rw [List.drop_zero]; rfl, Below.refl _ _⟩
  case round =>
    obtain ⟨k, O, hk, rfl, hO, hOl, hln, hb⟩ := hrel
    rw [HNL.out] at hk
    have HO := Lib.hid hO
    have HLN := Lib.hid hln
    have HB := Lib.hid hb
    have hbs := hb.size
    clear hO hln hb
    by_cases hlt : k < N
    · have hkl : k < S.data.toList.length := by rw [HNL.out]; exact hlt
      have hix := index_str S hkl
      have hat := lines_at hkl
      have hkz : (k : Int) < (N : Int) := by omega
      have hOn : O.length + 1 ≤ 1000000000000 := by omega
      by_cases hc : S.data.toList[k] = 13
      · rw [hc] at hix hat
        rw [if_pos rfl] at hat
        have hix' : ∀ w, (Instr.index 9 (.string S) (.int .i64 (k : Int))).run Tryd.prog w = .ok (.int .u8 13) w := hix
        clear hix hc
        by_cases hl : k + 1 < N
        · have hkl1 : k + 1 < S.data.toList.length := by rw [HNL.out]; exact hl
          have hiy := index_next S hkl1
          rw [List.getElem?_eq_getElem hkl1] at hat
          have hle : ((k : Int) + 1 == (N : Int)) = false := by rw [beq_eq_false_iff_ne]; omega
          have hle2 : (k : Int) + 1 < (N : Int) := by omega
          by_cases hd : S.data.toList[k + 1] = 10
          · rw [hd] at hiy hat
            rw [if_pos rfl] at hat
            have hiy' : ∀ w, (Instr.index 9 (.string S) (.int .i64 ((k : Int) + 1))).run Tryd.prog w = .ok (.int .u8 10) w := hiy
            have HNX : Hid (LnRel w S.data.toList u3 (.int .i64 ((k + 1 : Nat) : Int)) wr) := ⟨k + 1, O, by rw [HNL.out]; exact hlt, rfl, HO.out, by omega, by rw [HLN.out, hat], HB.out⟩
            clear hiy hd hat hkl hkl1
            go_wp2
            go_roundw
            case rel => exact (show Value.int .i64 ((k + 1 : Nat) : Int) = _ by go_num) ▸ HNX.out
            case measure => simp [intOf]; omega
          · rw [if_neg (by simpa using hd)] at hat
            have hdz := byte_ne hd
            have hd10 : ((10 : UInt8).toNat : Int) = 10 := rfl
            rw [hd10] at hdz
            generalize S.data.toList[k + 1].toNat = y at *
            have hdb : ((y : Int) != 10) = true := by simpa using hdz
            have hdb2 : ((y : Int) == 10) = false := by simpa using hdz
            have HAT : Hid (linesL S.data.toList = (O ++ [10]) ++ linesL (S.data.toList.drop (k + 1))) := ln_more HLN.out hat
            clear hat hd hd10 hkl hkl1
            go_wp2_with (at_builtin; refine app_byte rfl _ _ rfl w.heap.size O u3 rfl HO.out hbs 10 _ rfl rfl hOn ?_; intro v3 w3 hO3 hb3)
            have HO3 := Lib.hid hO3
            have HB3 := Lib.hid hb3
            clear hO3 hb3
            go_wp2
            go_roundw
            case rel => exact ⟨k + 1, O ++ [10], by rw [HNL.out]; exact hlt, by go_num, HO3.out, by rw [List.length_append, List.length_singleton]; omega, HAT.out, HB.out.trans HB3.out⟩
            case measure => simp [intOf]; omega
        · have hle : ((k : Int) + 1 == (N : Int)) = true := by rw [beq_iff_eq]; omega
          have hle2 : ¬ (k : Int) + 1 < (N : Int) := by omega
          have hle3 := decide_eq_false hle2
          rw [List.getElem?_eq_none (by rw [HNL.out]; omega), if_neg (by simp)] at hat
          have HAT : Hid (linesL S.data.toList = (O ++ [10]) ++ linesL (S.data.toList.drop (k + 1))) := ln_more HLN.out hat
          clear hat hkl
          go_wp2_with (at_builtin; refine app_byte rfl _ _ rfl w.heap.size O u3 rfl HO.out hbs 10 _ rfl rfl hOn ?_; intro v3 w3 hO3 hb3)
          have HO3 := Lib.hid hO3
          have HB3 := Lib.hid hb3
          clear hO3 hb3
          go_wp2
          go_roundw
          case rel => exact ⟨k + 1, O ++ [10], by rw [HNL.out]; exact hlt, by go_num, HO3.out, by rw [List.length_append, List.length_singleton]; omega, HAT.out, HB.out.trans HB3.out⟩
          case measure => simp [intOf]; omega
      · rw [if_neg hc] at hat
        have HAT : Hid (linesL S.data.toList = (O ++ [S.data.toList[k]]) ++ linesL (S.data.toList.drop (k + 1))) := ln_more HLN.out hat
        have hcz := byte_ne hc
        have h13 : ((13 : UInt8).toNat : Int) = 13 := rfl
        rw [h13] at hcz
        clear hat hc h13
        generalize S.data.toList[k] = c at *
        obtain ⟨x, hx⟩ : ∃ x, c.toNat = x := ⟨_, rfl⟩
        rw [hx] at hcz hix
        have HX := Lib.hid hx
        have hcb : ((x : Int) != 13) = true := by simpa using hcz
        have hcb2 : ((x : Int) == 13) = false := by simpa using hcz
        clear hx hkl
        go_wp2_with (at_builtin; refine app_byte rfl _ _ rfl w.heap.size O u3 rfl HO.out hbs c _ (by rw [HX.out]) rfl hOn ?_; intro v3 w3 hO3 hb3)
        have HO3 := Lib.hid hO3
        have HB3 := Lib.hid hb3
        clear hO3 hb3
        go_wp2
        go_roundw
        case rel => exact ⟨k + 1, O ++ [c], by rw [HNL.out]; exact hlt, by go_num, HO3.out, by rw [List.length_append, List.length_singleton]; omega, HAT.out, HB.out.trans HB3.out⟩
        case measure => simp [intOf]; omega
    · have hkz : ¬ (k : Int) < (N : Int) := by omega
      have hkz1 := decide_eq_false hkz
      have hfin := HLN.out
      rw [List.drop_of_length_le (by rw [HNL.out]; omega), show linesL [] = [] from rfl, List.append_nil] at hfin
      obtain ⟨A', cap', hv, hcl, hcm, hli⟩ := HO.out.lies
      have hcv := conv_lies cap' hli
      have hOR : (⟨O.toArray⟩ : ByteArray) = R := by rw [← hfin]; exact HR.out
      rw [hOR] at hcv
      generalize O.length = n at *
      subst hv
      clear hli hfin hOR HO HLN
      go_wp2
      go_ret
      exact ⟨rfl, HB.out⟩
end Go.Proofs.YtmbmobjlmbjkpaaDoor
