/-
  What stands between tags, and in an attribute: the program's and the document's. Conditions: the tables lie as they are laid, internal/bytealg.MaxLen holds some number; the text is not too long.
-/
import Derived.Test.YtmbmobjlmbjkpaaDoorCExp
import Derived.Test.YtmbmobjlmbjkpaaDoorCBlank
import Derived.Test.YtmbmobjlmbjkpaaDoorCShelf
namespace Go.Proofs.YtmbmobjlmbjkpaaDoor
open Go.RowKit
set_option linter.unusedVariables false
theorem if_rep (s : List UInt8) : (if txtB s = true then expL false s else none) = repL s := by
  unfold repL
  by_cases h : txt s
  · rw [if_pos (txtB_iff.2 h), if_pos h]
  · rw [if_neg (fun h' => h (txtB_iff.1 h')), if_neg h]
theorem if_val (s : List UInt8) : (if txtB s = true then expL true s else none) = valL s := by
  unfold valL
  by_cases h : txt s
  · rw [if_pos (txtB_iff.2 h), if_pos h]
  · rw [if_neg (fun h' => h (txtB_iff.1 h')), if_neg h]
theorem endsB_iff {s : List UInt8} : endsB s = true ↔ ends s := by simp [endsB]
/-- What the walks ask of the world. -/
structure Wd (w : World) : Prop where
  tabs : Tabs w
  max : HasMax w
theorem HasMax.lt {w : World} (h : HasMax w) : 0 < w.heap.size := by
  obtain ⟨m, hm⟩ := h
  unfold World.cell? at hm
  rcases Nat.lt_or_ge 0 w.heap.size with h | h
  · exact h
  · rw [Array.getElem?_eq_none h] at hm; simp at hm
theorem Wd.later {w w' : World} (h : Wd w) (hb : Below w.heap.size w w') : Wd w' := ⟨h.tabs.below h.tabs.two hb, h.max.below h.max.lt hb⟩
set_option maxHeartbeats 2000000 in
theorem content_any (S : ByteArray) (hlen : S.size ≤ 100000) (w : World) (hW : Wd w) : Calls Tryd.prog 10 #[.string S] w fun e w' => Ans (contL S.data.toList) e ∧ Below w.heap.size w w' := by
  have HE := Lib.hid (has_ends S w hW.max (by omega))
  have HR := Lib.hid (replaced_any S hlen w hW.tabs)
  clear hW
  cases he : endsB S.data.toList with
  | true =>
    rw [he] at HE
    rw [cont_ends (endsB_iff.1 he)]
    clear he HR
    go_enter Tryd.func10, Tryd.ntmps10
    go_wp2_with fail
    refine HE.out.mono ?_
    rintro e w1 ⟨rfl, hw⟩
    rw [hw]
    go_wp2
    go_ret2
    exact ⟨.inr ⟨rfl, rfl⟩, Below.refl _ _⟩
  | false =>
    rw [he] at HE
    rw [cont_rep (fun h => by rw [endsB_iff.2 h] at he; cases he)]
    generalize repL S.data.toList = Z at *
    clear he
    go_enter Tryd.func10, Tryd.ntmps10
    go_wp2_with fail
    refine HE.out.mono ?_
    rintro e w1 ⟨rfl, hw⟩
    rw [hw]
    clear hw
    go_wp2_with fail
    refine HR.out.mono ?_
    rintro e w2 ⟨⟨Y, rfl, rfl⟩ | ⟨rfl, rfl⟩, hb⟩
    · go_wp2
      go_ret2
      exact ⟨.inl ⟨Y, rfl, rfl⟩, hb⟩
    · go_wp2
      go_ret2
      exact ⟨.inr ⟨rfl, rfl⟩, hb⟩
set_option maxHeartbeats 2000000 in
theorem value_any (S : ByteArray) (hlen : S.size ≤ 100000) (w : World) (hW : Wd w) : Calls Tryd.prog 11 #[.string S] w fun e w' => Ans (valL S.data.toList) e ∧ Below w.heap.size w w' := by
  have HBL := Lib.hid (blanked_any S hlen w)
  have HW := Lib.hid hW
  rw [val_rep]
  obtain ⟨R, hR⟩ : ∃ R : ByteArray, ⟨(S.data.toList.map bl).toArray⟩ = R := ⟨_, rfl⟩
  have hRl : S.data.toList.map bl = R.data.toList := by rw [← hR]
  have hRs : R.size ≤ 100000 := by rw [ba_size, ← hRl, List.length_map, ← ba_size]; exact hlen
  rw [hR] at HBL
  rw [hRl]
  obtain ⟨Z, hZ⟩ : ∃ Z, repL R.data.toList = Z := ⟨_, rfl⟩
  rw [hZ]
  have HZ := Lib.hid hZ
  clear hR hRl hW hZ
  go_enter Tryd.func11, Tryd.ntmps11
  go_wp2_with fail
  refine HBL.out.mono ?_
  rintro e w1 ⟨rfl, hb1⟩
  have HR := Lib.hid (replaced_any R hRs w1 (HW.out.later hb1).tabs)
  rw [HZ.out] at HR
  go_wp2_with fail
  refine HR.out.mono ?_
  rintro e w2 ⟨⟨Y, rfl, rfl⟩ | ⟨rfl, rfl⟩, hb⟩
  · go_wp2
    go_ret2
    exact ⟨.inl ⟨Y, rfl, rfl⟩, hb1.trans (hb.mono hb1.size)⟩
  · go_wp2
    go_ret2
    exact ⟨.inr ⟨rfl, rfl⟩, hb1.trans (hb.mono hb1.size)⟩
set_option maxHeartbeats 2000000 in
theorem refValue_any (S : ByteArray) (hlen : S.size ≤ 100000) (w : World) : Calls Tryd.prog 13 #[.string S] w fun e w' => Ans (valL S.data.toList) e ∧ Below w.heap.size w w' := by
  have HR := Lib.hid (expand_any S true hlen w)
  rw [if_val] at HR
  generalize valL S.data.toList = Z at *
  go_enter Tryd.func13, Tryd.ntmps13
  go_wp2_with fail
  refine HR.out.mono ?_
  rintro e w2 ⟨⟨Y, rfl, rfl⟩ | ⟨rfl, rfl⟩, hb⟩
  · go_wp2
    go_ret2
    exact ⟨.inl ⟨Y, rfl, rfl⟩, hb⟩
  · go_wp2
    go_ret2
    exact ⟨.inr ⟨rfl, rfl⟩, hb⟩
/-- What holds at each round's head. -/
def CoRel (w : World) (s : List UInt8) (i : Value) (wr : World) : Prop := ∃ k : Nat, k ≤ s.length ∧ i = .int .i64 (k : Int) ∧ ¬ ends (s.take k) ∧ wr = w
theorem ends_more {l m : List UInt8} (h : ends l) : ends (l ++ m) := by
  obtain ⟨a, b, rfl⟩ := h
  exact ⟨a, b ++ m, by simp⟩
theorem ends_snoc {l : List UInt8} {c : UInt8} (h : ends (l ++ [c])) : ends l ∨ ∃ a, l = a ++ [93, 93] ∧ c = 62 := by
  obtain ⟨a, b, e⟩ := h
  rcases List.eq_nil_or_concat b with rfl | ⟨b', x, rfl⟩
  · right
    have e' : l ++ [c] = (a ++ [93, 93]) ++ [62] := by rw [e]; simp
    obtain ⟨h1, h2⟩ := List.append_inj' e' rfl
    injection h2 with h2
    exact ⟨a, h1, h2⟩
  · left
    have e' : l ++ [c] = (a ++ 93 :: 93 :: 62 :: b') ++ [x] := by rw [e]; simp
    obtain ⟨h1, _⟩ := List.append_inj' e' rfl
    exact ⟨a, b', h1⟩
theorem ends_here {s : List UInt8} {k : Nat} (h2 : 2 ≤ k) (h : k < s.length) (he : (s.take (k + 1)).drop (k - 2) = [93, 93, 62]) : ends s := by
  have h3 : s.take (k + 1) = (s.take (k + 1)).take (k - 2) ++ [93, 93, 62] := by rw [← he, List.take_append_drop]
  have h4 : ends (s.take (k + 1)) := ⟨(s.take (k + 1)).take (k - 2), [], by rw [← h3]⟩
  have h5 := ends_more (m := s.drop (k + 1)) h4
  rwa [List.take_append_drop] at h5
theorem ends_next {s : List UInt8} {k : Nat} (h : k < s.length) (hn : ¬ ends (s.take k)) (hno : 2 ≤ k → (s.take (k + 1)).drop (k - 2) ≠ [93, 93, 62]) : ¬ ends (s.take (k + 1)) := by
  intro he
  rw [List.take_succ_eq_append_getElem h] at he
  rcases ends_snoc he with h1 | ⟨a, h1, h2⟩
  · exact hn h1
  · have hl := congrArg List.length h1
    rw [List.length_take, List.length_append] at hl
    have hk : k = a.length + 2 := by simp at hl; omega
    refine hno (by omega) ?_
    rw [List.take_succ_eq_append_getElem h, h1, h2, hk]
    simp
theorem slice_three (S : ByteArray) {k : Nat} (h2 : 2 ≤ k) (h : k < S.size) (w : World) : (Instr.slice 9 (.string S) (some (.int .i64 ((k : Int) - 2))) (some (.int .i64 ((k : Int) + 1))) none).run Tryd.prog w = .ok (.string (S.extract (k - 2) (k + 1))) w := by
  obtain ⟨j, rfl⟩ : ∃ j, k = j + 2 := ⟨k - 2, by omega⟩
  have e1 : (((j + 2 : Nat)) : Int) - 2 = (j : Int) := by omega
  have e2 : (((j + 2 : Nat)) : Int) + 1 = ((j + 3 : Nat) : Int) := by omega
  rw [e1, e2]
  have h3 : (0 : Int) ≤ (j : Int) + 3 ∧ (j : Int) + 3 ≤ (S.size : Int) := by omega
  have h4 : ((j : Int) + 3).toNat = j + 3 := by omega
  simp [Instr.slice, run_underlying Tryd.underlying9, Instr.sliceBounds, Instr.sliceBound, asIntOf, h3, h4]
set_option maxHeartbeats 4000000 in
theorem refContent_any (S : ByteArray) (hlen : S.size ≤ 100000) (w : World) : Calls Tryd.prog 12 #[.string S] w fun e w' => Ans (contL S.data.toList) e ∧ Below w.heap.size w w' := by
  have HR := Lib.hid (expand_any S false hlen w)
  rw [if_rep] at HR
  obtain ⟨Z, hZ⟩ : ∃ Z, contL S.data.toList = Z := ⟨_, rfl⟩
  rw [hZ]
  have HZ := Lib.hid hZ
  obtain ⟨N, hN⟩ : ∃ N, S.size = N := ⟨_, rfl⟩
  have hNl : S.data.toList.length = N := by rw [← ba_size]; exact hN
  have HNL := Lib.hid hNl
  have HNS := Lib.hid hN
  rw [hN] at hlen
  clear hNl hZ
  go_enter Tryd.func12, Tryd.ntmps12
  go_wp2
  go_loopw [7] (CoRel w S.data.toList) (fun i _ => N - (intOf i).toNat)
  case atStart => exact ⟨0, Nat.zero_le _, rfl, by rw [List.take_zero]; exact ends_nil, rfl⟩
  case round =>
    obtain ⟨k, hk, rfl, hno, rfl⟩ := hrel
    rw [HNL.out] at hk
    have HNO := Lib.hid hno
    clear hno
    by_cases hlt : k < N
    · have hkl : k < S.data.toList.length := by rw [HNL.out]; exact hlt
      have hkz : (k : Int) < (N : Int) := by omega
      by_cases h2 : 2 ≤ k
      · have hsl := slice_three S h2 (by rw [HNS.out]; exact hlt)
        have hk1 : (1 : Int) < (k : Int) := by omega
        obtain ⟨X, hX⟩ : ∃ X, S.extract (k - 2) (k + 1) = X := ⟨_, rfl⟩
        have hXl : X.data.toList = (S.data.toList.take (k + 1)).drop (k - 2) := by rw [← hX, ba_cut]
        rw [hX] at hsl
        clear hX
        by_cases hx : X.data.toList = [93, 93, 62]
        · have hxb : (X.toList == [93, 93, 62]) = true := by rw [text_is, beq_iff_eq]; exact hx
          have hN0 : none = Z := by
            rw [← HZ.out]
            exact (cont_ends (ends_here h2 hkl (hXl.symm.trans hx))).symm
          subst hN0
          clear hx hXl HZ HNO HR
          go_wp2
          go_ret2
          exact ⟨.inr ⟨rfl, rfl⟩, Below.refl _ _⟩
        · have hxb : (X.toList == [93, 93, 62]) = false := by rw [text_is, beq_eq_false_iff_ne]; exact hx
          have HNX : Hid (CoRel wr S.data.toList (.int .i64 ((k + 1 : Nat) : Int)) wr) := ⟨k + 1, by rw [HNL.out]; exact hlt, rfl, ends_next hkl HNO.out (fun _ => by rw [← hXl]; exact hx), rfl⟩
          clear hx hXl HNO hkl
          go_wp2
          go_roundw
          case rel => exact (show Value.int .i64 ((k + 1 : Nat) : Int) = _ by go_num) ▸ HNX.out
          case measure => simp [intOf]; omega
      · have hk1 : ¬ (1 : Int) < (k : Int) := by omega
        have hk2 := decide_eq_false hk1
        have HNX : Hid (CoRel wr S.data.toList (.int .i64 ((k + 1 : Nat) : Int)) wr) := ⟨k + 1, by rw [HNL.out]; exact hlt, rfl, ends_next hkl HNO.out (fun h => absurd h h2), rfl⟩
        clear HNO hkl
        go_wp2
        go_roundw
        case rel => exact (show Value.int .i64 ((k + 1 : Nat) : Int) = _ by go_num) ▸ HNX.out
        case measure => simp [intOf]; omega
    · have hkz : ¬ (k : Int) < (N : Int) := by omega
      have hkz1 := decide_eq_false hkz
      have hne := HNO.out
      rw [List.take_of_length_le (by rw [HNL.out]; omega)] at hne
      have hZR := HZ.out
      rw [cont_rep hne] at hZR
      rw [hZR] at HR
      clear hne hZR HZ HNO
      go_wp2_with fail
      refine HR.out.mono ?_
      rintro e w2 ⟨⟨Y, rfl, rfl⟩ | ⟨rfl, rfl⟩, hb⟩
      · go_wp2
        go_ret2
        exact ⟨.inl ⟨Y, rfl, rfl⟩, hb⟩
      · go_wp2
        go_ret2
        exact ⟨.inr ⟨rfl, rfl⟩, hb⟩
end Go.Proofs.YtmbmobjlmbjkpaaDoor
