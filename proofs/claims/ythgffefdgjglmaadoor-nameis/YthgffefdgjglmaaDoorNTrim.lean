/-
  Texts without the blanks at their ends, the program's and the document's. Conditions: the text is not too long.
-/
import Derived.Test.YthgffefdgjglmaaDoorNText
namespace Go.Proofs.YthgffefdgjglmaaDoor
open Go.RowKit
set_option linter.unusedVariables false
/-- A text without the blanks at its ends. -/
def trimS (S : ByteArray) : ByteArray := ⟨(trim S.data.toList).toArray⟩
theorem trimS_list (S : ByteArray) : (trimS S).data.toList = trim S.data.toList := by simp [trimS]
theorem trim_le (S : ByteArray) : (trimS S).size ≤ S.size := by
  obtain ⟨a, b, e, _⟩ := trim_parts S.data.toList
  have h := congrArg List.length e
  rw [ba_size, ba_size, trimS_list]
  simp at h ⊢
  omega
/-- What holds at the first loop's head. -/
def T1 (w : World) (n : Nat) (i : Value) (wr : World) : Prop := ∃ k : Nat, k ≤ n ∧ i = .int .i64 k ∧ Below w.heap.size w wr
/-- What holds at the second loop's head. -/
def T2 (w : World) (m n : Nat) (i : Value) (wr : World) : Prop := ∃ k : Nat, m ≤ k ∧ k ≤ n ∧ i = .int .i64 k ∧ Below w.heap.size w wr
set_option maxHeartbeats 4000000 in
theorem trim_blank (S : ByteArray) (hlen : S.size ≤ 100000) (hall : ∀ i (h : i < S.data.toList.length), blk S.data.toList[i] = true) (w : World) : Calls Tryd.prog 17 #[.string S] w fun e w' => e = .returned (.string (trimS S)) ∧ Below w.heap.size w w' := by
  obtain ⟨N, hN⟩ : ∃ N, S.size = N := ⟨_, rfl⟩
  have hNl : S.data.toList.length = N := by rw [← ba_size]; exact hN
  have HX : Hid (ByteArray.empty = trimS S) := ba_ext (by
    rw [trimS_list, trim_uniq (t := []) (a := S.data.toList) (b := []) (by simp) (by rw [List.all_eq_true]; intro x hx; obtain ⟨i, hi, rfl⟩ := List.getElem_of_mem hx; exact hall i hi) rfl (fun c h => by cases h) (fun c h => by cases h)]
    rfl)
  have HI : Hid (∀ i, i < N → ∃ c : UInt8, blkZ (c.toNat : Int) = true ∧ ∀ w, (Instr.index 9 (.string S) (.int .i64 (i : Int))).run Tryd.prog w = .ok (.int .u8 (c.toNat : Int)) w) := fun i hi =>
    ⟨S.data.toList[i]'(by omega), by rw [blkZ_of]; exact hall i _, index_str S (by omega)⟩
  rw [hN] at hlen
  clear hall hNl
  go_enter Tryd.func17, Tryd.ntmps17
  go_wp2
  go_loopw [3] (T1 w N) (fun i _ => N - (intOf i).toNat)
  case atStart => exact ⟨0, Nat.zero_le _, rfl, Below.refl _ _⟩
  case round =>
    obtain ⟨k, hk, rfl, hb⟩ := hrel
    by_cases hlt : k < N
    · obtain ⟨c, hc, hix⟩ := HI.out k hlt
      have hkz : (k : Int) < (N : Int) := by omega
      generalize (c.toNat : Int) = z at *
      go_wp2_with fail
      refine (blank_any _ _).mono ?_
      rintro e w' ⟨rfl, hw⟩
      rw [hw, hc]
      go_wp2
      go_roundw
      case rel => exact ⟨k + 1, hlt, by go_num, hb⟩
      case measure => simp [intOf]; omega
    · obtain rfl : k = N := by omega
      clear HI
      go_wp2
      refine wp_loop_rounds 1 ?_
      rw [rounds_succ]
      go_wp2_with fail
      refine (clone_any _ (by rw [HX.out]; have := trim_le S; omega) _).mono ?_
      rintro e w5 ⟨rfl, hb5⟩
      go_wp2
      go_ret
      exact ⟨by rw [HX.out]; rfl, hb.trans (hb5.mono hb.size)⟩
set_option maxHeartbeats 4000000 in
theorem trim_text (S : ByteArray) (hlen : S.size ≤ 100000) (a t b : List UInt8) (hS : S.data.toList = a ++ (t ++ b)) (ha : a.all blk = true) (hb : b.all blk = true) (h1 : ∀ c, t.head? = some c → blk c = false) (h2 : ∀ c, t.getLast? = some c → blk c = false) (ht : t ≠ []) (w : World) : Calls Tryd.prog 17 #[.string S] w fun e w' => e = .returned (.string (trimS S)) ∧ Below w.heap.size w w' := by
  obtain ⟨N, hN⟩ : ∃ N, S.size = N := ⟨_, rfl⟩
  have hNl : S.data.toList.length = N := by rw [← ba_size]; exact hN
  obtain ⟨I, hI⟩ : ∃ I, a.length = I := ⟨_, rfl⟩
  obtain ⟨J, hJ⟩ : ∃ J, a.length + t.length = J := ⟨_, rfl⟩
  have htl : 0 < t.length := List.length_pos_iff.2 ht
  have hlen3 : I + t.length + b.length = N := by rw [← hNl, hS, ← hI]; simp; omega
  have HX : Hid (S.extract I J = trimS S) := ba_ext (by
    rw [ba_cut, trimS_list, trim_uniq hS ha hb h1 h2, hS, ← hI, ← hJ, ← List.append_assoc, ← List.length_append, List.take_left, List.drop_left])
  have at_ : ∀ i (h : i < N), S.data.toList[i]'(by omega) = (a ++ (t ++ b))[i]'(by rw [← hS]; omega) := fun i h => by simp [hS]
  have HA : Hid (∀ i, i < I → ∃ c : UInt8, blkZ (c.toNat : Int) = true ∧ ∀ w, (Instr.index 9 (.string S) (.int .i64 (i : Int))).run Tryd.prog w = .ok (.int .u8 (c.toNat : Int)) w) := fun i hi =>
    ⟨S.data.toList[i]'(by omega), by
      rw [blkZ_of, at_ i (by omega), List.getElem_append_left (by omega)]
      exact List.all_eq_true.1 ha _ (List.getElem_mem _), index_str S (by omega)⟩
  have HF : Hid (∃ c : UInt8, blkZ (c.toNat : Int) = false ∧ ∀ w, (Instr.index 9 (.string S) (.int .i64 (I : Int))).run Tryd.prog w = .ok (.int .u8 (c.toNat : Int)) w) :=
    ⟨S.data.toList[I]'(by omega), by
      rw [blkZ_of, at_ I (by omega), List.getElem_append_right (by omega)]
      have e : I - a.length = 0 := by omega
      simp only [e]
      rw [List.getElem_append_left htl]
      exact h1 _ (by rw [List.head?_eq_getElem?, List.getElem?_eq_getElem htl]), index_str S (by omega)⟩
  have HB : Hid (∀ i, J ≤ i → i < N → ∃ c : UInt8, blkZ (c.toNat : Int) = true ∧ ∀ w, (Instr.index 9 (.string S) (.int .i64 (i : Int))).run Tryd.prog w = .ok (.int .u8 (c.toNat : Int)) w) := fun i hj hi =>
    ⟨S.data.toList[i]'(by omega), by
      rw [blkZ_of, at_ i (by omega), List.getElem_append_right (by omega), List.getElem_append_right (by omega)]
      exact List.all_eq_true.1 hb _ (List.getElem_mem _), index_str S (by omega)⟩
  have HL : Hid (∃ c : UInt8, blkZ (c.toNat : Int) = false ∧ ∀ w, (Instr.index 9 (.string S) (.int .i64 ((J - 1 : Nat) : Int))).run Tryd.prog w = .ok (.int .u8 (c.toNat : Int)) w) :=
    ⟨S.data.toList[J - 1]'(by omega), by
      rw [blkZ_of, at_ (J - 1) (by omega), List.getElem_append_right (by omega), List.getElem_append_left (by omega)]
      have e : J - 1 - a.length = t.length - 1 := by omega
      simp only [e]
      exact h2 _ (by rw [List.getLast?_eq_getElem?, List.getElem?_eq_getElem (by omega)]), index_str S (by omega)⟩
  have hIJ : I < J := by omega
  have hJN : J ≤ N := by omega
  rw [hN] at hlen
  clear hS ha hb h1 h2 ht hI hJ htl hlen3 at_ hNl
  go_enter Tryd.func17, Tryd.ntmps17
  go_wp2
  go_loopw [3] (T1 w I) (fun i _ => I - (intOf i).toNat)
  case atStart => exact ⟨0, Nat.zero_le _, rfl, Below.refl _ _⟩
  case round =>
    obtain ⟨k, hk, rfl, hb⟩ := hrel
    have hkz : (k : Int) < (N : Int) := by omega
    by_cases hlt : k < I
    · obtain ⟨c, hc, hix⟩ := HA.out k hlt
      generalize (c.toNat : Int) = z at *
      go_wp2_with fail
      refine (blank_any _ _).mono ?_
      rintro e w' ⟨rfl, hw⟩
      rw [hw, hc]
      go_wp2
      go_roundw
      case rel => exact ⟨k + 1, hlt, by go_num, hb⟩
      case measure => simp [intOf]; omega
    · obtain rfl : k = I := by omega
      obtain ⟨c, hc, hix⟩ := HF.out
      generalize (c.toNat : Int) = z at *
      clear HF HA
      go_wp2_with fail
      refine (blank_any _ _).mono ?_
      rintro e w' ⟨rfl, hw⟩
      rw [hw, hc]
      go_wp2
      clear hix hc hw hkz
      go_loopw [4] (T2 w J N) (fun i _ => (intOf i).toNat)
      case atStart => exact ⟨N, hJN, Nat.le_refl _, rfl, hb⟩
      case round =>
        clear hb
        obtain ⟨j, hj1, hj2, rfl, hb⟩ := hrel
        have hkj : (k : Int) < (j : Int) := by omega
        obtain ⟨i, hi0⟩ : ∃ i, i + 1 = j := ⟨j - 1, by omega⟩
        have hi1 : ((j : Int) - 1) = (i : Int) := by omega
        have HI0 := Lib.hid hi0
        clear hi0
        by_cases hlt : J < j
        · obtain ⟨c, hc, hix⟩ := HB.out i (by have := HI0.out; omega) (by have := HI0.out; omega)
          generalize (c.toNat : Int) = z at *
          go_wp2_with fail
          refine (blank_any _ _).mono ?_
          rintro e w' ⟨rfl, hw⟩
          rw [hw, hc]
          go_wp2
          go_roundw
          case rel => exact ⟨i, by have := HI0.out; omega, by have := HI0.out; omega, by go_num, hb⟩
          case measure => have := HI0.out; simp [intOf]; omega
        · obtain rfl : j = J := by omega
          obtain ⟨c, hc, hix⟩ := HL.out
          have hji : j - 1 = i := by have := HI0.out; omega
          rw [hji] at hix
          clear hji
          have hix' : ∀ w, (Instr.index 9 (.string S) (.int .i64 (i : Int))).run Tryd.prog w = .ok (.int .u8 (c.toNat : Int)) w := hix
          generalize (c.toNat : Int) = z at *
          clear hix
          go_wp2_with fail
          refine (blank_any _ _).mono ?_
          rintro e w' ⟨rfl, hw⟩
          rw [hw, hc]
          clear hix' hc HB HL
          have g1 : (k : Int) ≤ (j : Int) := by omega
          have g2 : (j : Int) ≤ (N : Int) := by omega
          go_wp2_with fail
          refine (clone_any _ (by rw [HX.out]; have := trim_le S; omega) _).mono ?_
          rintro e w5 ⟨rfl, hb5⟩
          go_wp2
          go_ret
          exact ⟨by rw [HX.out]; rfl, hb.trans (hb5.mono hb.size)⟩
theorem trim_any (S : ByteArray) (hlen : S.size ≤ 100000) (w : World) : Calls Tryd.prog 17 #[.string S] w fun e w' => e = .returned (.string (trimS S)) ∧ Below w.heap.size w w' := by
  obtain ⟨a, b, e, ha, hb, h1, h2⟩ := trim_parts S.data.toList
  by_cases ht : trim S.data.toList = []
  · refine trim_blank S hlen (fun i hi => ?_) w
    rw [ht, List.nil_append] at e
    have hab : (S.data.toList).all blk = true := by rw [e, List.all_append, ha, hb]; rfl
    exact List.all_eq_true.1 hab _ (List.getElem_mem _)
  · exact trim_text S hlen a _ b e ha hb h1 h2 ht w
set_option maxHeartbeats 4000000 in
theorem refTrim_blank (S : ByteArray) (hlen : S.size ≤ 100000) (hall : ∀ i (h : i < S.data.toList.length), blk S.data.toList[i] = true) (w : World) : Calls Tryd.prog 18 #[.string S] w fun e w' => e = .returned (.string (trimS S)) ∧ Below w.heap.size w w' := by
  obtain ⟨N, hN⟩ : ∃ N, S.size = N := ⟨_, rfl⟩
  have hNl : S.data.toList.length = N := by rw [← ba_size]; exact hN
  have HX : Hid (ByteArray.empty = trimS S) := ba_ext (by
    rw [trimS_list, trim_uniq (t := []) (a := S.data.toList) (b := []) (by simp) (by rw [List.all_eq_true]; intro x hx; obtain ⟨i, hi, rfl⟩ := List.getElem_of_mem hx; exact hall i hi) rfl (fun c h => by cases h) (fun c h => by cases h)]
    rfl)
  have HI : Hid (∀ i, i < N → ∃ c : UInt8, blkZ (c.toNat : Int) = true ∧ ∀ w, (Instr.index 9 (.string S) (.int .i64 (i : Int))).run Tryd.prog w = .ok (.int .u8 (c.toNat : Int)) w) := fun i hi =>
    ⟨S.data.toList[i]'(by omega), by rw [blkZ_of]; exact hall i _, index_str S (by omega)⟩
  rw [hN] at hlen
  clear hall hNl
  go_enter Tryd.func18, Tryd.ntmps18
  go_wp2
  go_loopw [3] (T1 w N) (fun i _ => N - (intOf i).toNat)
  case atStart => exact ⟨0, Nat.zero_le _, rfl, Below.refl _ _⟩
  case round =>
    obtain ⟨k, hk, rfl, hb⟩ := hrel
    by_cases hlt : k < N
    · obtain ⟨c, hc, hix⟩ := HI.out k hlt
      have hkz : (k : Int) < (N : Int) := by omega
      generalize (c.toNat : Int) = z at *
      go_wp2_with fail
      refine (refBlank_any _ _).mono ?_
      rintro e w' ⟨rfl, hw⟩
      rw [hw, hc]
      go_wp2
      go_roundw
      case rel => exact ⟨k + 1, hlt, by go_num, hb⟩
      case measure => simp [intOf]; omega
    · obtain rfl : k = N := by omega
      clear HI
      go_wp2
      refine wp_loop_rounds 1 ?_
      rw [rounds_succ]
      go_wp2
      go_ret
      exact ⟨by rw [← HX.out]; rfl, hb⟩
set_option maxHeartbeats 4000000 in
theorem refTrim_text (S : ByteArray) (hlen : S.size ≤ 100000) (a t b : List UInt8) (hS : S.data.toList = a ++ (t ++ b)) (ha : a.all blk = true) (hb : b.all blk = true) (h1 : ∀ c, t.head? = some c → blk c = false) (h2 : ∀ c, t.getLast? = some c → blk c = false) (ht : t ≠ []) (w : World) : Calls Tryd.prog 18 #[.string S] w fun e w' => e = .returned (.string (trimS S)) ∧ Below w.heap.size w w' := by
  obtain ⟨N, hN⟩ : ∃ N, S.size = N := ⟨_, rfl⟩
  have hNl : S.data.toList.length = N := by rw [← ba_size]; exact hN
  obtain ⟨I, hI⟩ : ∃ I, a.length = I := ⟨_, rfl⟩
  obtain ⟨J, hJ⟩ : ∃ J, a.length + t.length = J := ⟨_, rfl⟩
  have htl : 0 < t.length := List.length_pos_iff.2 ht
  have hlen3 : I + t.length + b.length = N := by rw [← hNl, hS, ← hI]; simp; omega
  have HX : Hid (S.extract I J = trimS S) := ba_ext (by
    rw [ba_cut, trimS_list, trim_uniq hS ha hb h1 h2, hS, ← hI, ← hJ, ← List.append_assoc, ← List.length_append, List.take_left, List.drop_left])
  have at_ : ∀ i (h : i < N), S.data.toList[i]'(by omega) = (a ++ (t ++ b))[i]'(by rw [← hS]; omega) := fun i h => by simp [hS]
  have HA : Hid (∀ i, i < I → ∃ c : UInt8, blkZ (c.toNat : Int) = true ∧ ∀ w, (Instr.index 9 (.string S) (.int .i64 (i : Int))).run Tryd.prog w = .ok (.int .u8 (c.toNat : Int)) w) := fun i hi =>
    ⟨S.data.toList[i]'(by omega), by
      rw [blkZ_of, at_ i (by omega), List.getElem_append_left (by omega)]
      exact List.all_eq_true.1 ha _ (List.getElem_mem _), index_str S (by omega)⟩
  have HF : Hid (∃ c : UInt8, blkZ (c.toNat : Int) = false ∧ ∀ w, (Instr.index 9 (.string S) (.int .i64 (I : Int))).run Tryd.prog w = .ok (.int .u8 (c.toNat : Int)) w) :=
    ⟨S.data.toList[I]'(by omega), by
      rw [blkZ_of, at_ I (by omega), List.getElem_append_right (by omega)]
      have e : I - a.length = 0 := by omega
      simp only [e]
      rw [List.getElem_append_left htl]
      exact h1 _ (by rw [List.head?_eq_getElem?, List.getElem?_eq_getElem htl]), index_str S (by omega)⟩
  have HB : Hid (∀ i, J ≤ i → i < N → ∃ c : UInt8, blkZ (c.toNat : Int) = true ∧ ∀ w, (Instr.index 9 (.string S) (.int .i64 (i : Int))).run Tryd.prog w = .ok (.int .u8 (c.toNat : Int)) w) := fun i hj hi =>
    ⟨S.data.toList[i]'(by omega), by
      rw [blkZ_of, at_ i (by omega), List.getElem_append_right (by omega), List.getElem_append_right (by omega)]
      exact List.all_eq_true.1 hb _ (List.getElem_mem _), index_str S (by omega)⟩
  have HL : Hid (∃ c : UInt8, blkZ (c.toNat : Int) = false ∧ ∀ w, (Instr.index 9 (.string S) (.int .i64 ((J - 1 : Nat) : Int))).run Tryd.prog w = .ok (.int .u8 (c.toNat : Int)) w) :=
    ⟨S.data.toList[J - 1]'(by omega), by
      rw [blkZ_of, at_ (J - 1) (by omega), List.getElem_append_right (by omega), List.getElem_append_left (by omega)]
      have e : J - 1 - a.length = t.length - 1 := by omega
      simp only [e]
      exact h2 _ (by rw [List.getLast?_eq_getElem?, List.getElem?_eq_getElem (by omega)]), index_str S (by omega)⟩
  have hIJ : I < J := by omega
  have hJN : J ≤ N := by omega
  rw [hN] at hlen
  clear hS ha hb h1 h2 ht hI hJ htl hlen3 at_ hNl
  go_enter Tryd.func18, Tryd.ntmps18
  go_wp2
  go_loopw [3] (T1 w I) (fun i _ => I - (intOf i).toNat)
  case atStart => exact ⟨0, Nat.zero_le _, rfl, Below.refl _ _⟩
  case round =>
    obtain ⟨k, hk, rfl, hb⟩ := hrel
    have hkz : (k : Int) < (N : Int) := by omega
    by_cases hlt : k < I
    · obtain ⟨c, hc, hix⟩ := HA.out k hlt
      generalize (c.toNat : Int) = z at *
      go_wp2_with fail
      refine (refBlank_any _ _).mono ?_
      rintro e w' ⟨rfl, hw⟩
      rw [hw, hc]
      go_wp2
      go_roundw
      case rel => exact ⟨k + 1, hlt, by go_num, hb⟩
      case measure => simp [intOf]; omega
    · obtain rfl : k = I := by omega
      obtain ⟨c, hc, hix⟩ := HF.out
      generalize (c.toNat : Int) = z at *
      clear HF HA
      go_wp2_with fail
      refine (refBlank_any _ _).mono ?_
      rintro e w' ⟨rfl, hw⟩
      rw [hw, hc]
      go_wp2
      clear hix hc hw hkz
      go_loopw [4] (T2 w J N) (fun i _ => (intOf i).toNat)
      case atStart => exact ⟨N, hJN, Nat.le_refl _, rfl, hb⟩
      case round =>
        clear hb
        obtain ⟨j, hj1, hj2, rfl, hb⟩ := hrel
        have hkj : (k : Int) < (j : Int) := by omega
        obtain ⟨i, hi0⟩ : ∃ i, i + 1 = j := ⟨j - 1, by omega⟩
        have hi1 : ((j : Int) - 1) = (i : Int) := by omega
        have HI0 := Lib.hid hi0
        clear hi0
        by_cases hlt : J < j
        · obtain ⟨c, hc, hix⟩ := HB.out i (by have := HI0.out; omega) (by have := HI0.out; omega)
          generalize (c.toNat : Int) = z at *
          go_wp2_with fail
          refine (refBlank_any _ _).mono ?_
          rintro e w' ⟨rfl, hw⟩
          rw [hw, hc]
          go_wp2
          go_roundw
          case rel => exact ⟨i, by have := HI0.out; omega, by have := HI0.out; omega, by go_num, hb⟩
          case measure => have := HI0.out; simp [intOf]; omega
        · obtain rfl : j = J := by omega
          obtain ⟨c, hc, hix⟩ := HL.out
          have hji : j - 1 = i := by have := HI0.out; omega
          rw [hji] at hix
          clear hji
          have hix' : ∀ w, (Instr.index 9 (.string S) (.int .i64 (i : Int))).run Tryd.prog w = .ok (.int .u8 (c.toNat : Int)) w := hix
          generalize (c.toNat : Int) = z at *
          clear hix
          go_wp2_with fail
          refine (refBlank_any _ _).mono ?_
          rintro e w' ⟨rfl, hw⟩
          rw [hw, hc]
          clear hix' hc HB HL
          have g1 : (k : Int) ≤ (j : Int) := by omega
          have g2 : (j : Int) ≤ (N : Int) := by omega
          go_wp2
          go_ret
          exact ⟨by rw [← HX.out]; rfl, hb⟩
theorem refTrim_any (S : ByteArray) (hlen : S.size ≤ 100000) (w : World) : Calls Tryd.prog 18 #[.string S] w fun e w' => e = .returned (.string (trimS S)) ∧ Below w.heap.size w w' := by
  obtain ⟨a, b, e, ha, hb, h1, h2⟩ := trim_parts S.data.toList
  by_cases ht : trim S.data.toList = []
  · refine refTrim_blank S hlen (fun i hi => ?_) w
    rw [ht, List.nil_append] at e
    have hab : (S.data.toList).all blk = true := by rw [e, List.all_append, ha, hb]; rfl
    exact List.all_eq_true.1 hab _ (List.getElem_mem _)
  · exact refTrim_text S hlen a _ b e ha hb h1 h2 ht w
end Go.Proofs.YthgffefdgjglmaaDoor
