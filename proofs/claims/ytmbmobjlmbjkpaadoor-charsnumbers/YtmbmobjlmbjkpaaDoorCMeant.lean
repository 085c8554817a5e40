/-
  chars.meant: the bytes of what a reference is. Conditions: the text is not too long.
-/
import Derived.Test.YtmbmobjlmbjkpaaDoorCNum
import Derived.Test.YtmbmobjlmbjkpaaDoorCPre
namespace Go.Proofs.YtmbmobjlmbjkpaaDoor
open Go.RowKit
set_option linter.unusedVariables false
/-- What is answered. -/
def MeantAns (S : ByteArray) (B : Nat) (e : Ending) (w' : World) : Prop :=
  (∃ y v, refL S.data.toList = some y ∧ e = .returned (.tuple #[v, .bool true]) ∧ Own w' B v y) ∨ (refL S.data.toList = none ∧ e = .returned (.tuple #[.slice none 0 0, .bool false]))
theorem Own.mono {w : World} {B B' : Nat} {v : Value} {l : List UInt8} (h : Own w B v l) (hB : B' ≤ B) : Own w B' v l := by
  rcases h with h | ⟨g, cap, e, h1, h2⟩
  · exact .inl h
  · exact .inr ⟨g, cap, e, by omega, h2⟩
/-- utf.Bytes of one character. -/
theorem bytes_one (r : Int) (hr : chB r = true) (w : World) : Calls Tryd.prog 34 #[.slice (some ⟨w.heap.size, 0, none⟩) 1 1] (w.alloc (.cells #[.int .i32 r] 21)) fun e w' => ∃ v, e = .returned (.tuple #[v, .bool true]) ∧ Own w' w.heap.size v (encB r) ∧ Below w.heap.size w w' := by
  have hb := (Below.refl w.heap.size w).alloc (Nat.le_refl _) (.cells #[.int .i32 r] 21)
  have hl : Lies (w.alloc (.cells #[.int .i32 r] 21)) (w.alloc (.cells #[.int .i32 r] 21)).heap.size (some ⟨w.heap.size, 0, none⟩) (i32s [r]) := fun _ => ⟨w.heap.size, 0, rfl, by simp, fun j hj => by
    have hj0 : j = 0 := by simpa [i32s] using hj
    subst hj0
    rw [Nat.zero_add, cell_of_row _ _ 0 _ _ _ (heap_alloc_last w _)]
    rfl⟩
  refine (bytes_any (some ⟨w.heap.size, 0, none⟩) 1 [r] _ hl (by simp)).mono ?_
  rintro e w' ⟨h1, ⟨_, v, rfl, h2⟩ | ⟨h2, _⟩⟩
  · refine ⟨v, rfl, ?_, hb.trans (h1.mono hb.size)⟩
    have e1 : u8s (encs [r]) = u8c (encB r) := by
      rw [u8s_encs (by simp [hr])]; simp [encBs]
    rw [e1] at h2
    exact (Own.of_row h2).mono hb.size
  · simp [hr] at h2
theorem name_ref {s : List UInt8} {r : Int} (h : nameZ s = some r) : refL s = some (encB r) ∧ chB r = true ∧ (¬ ∃ t, s = [35, 120] ++ t) ∧ (¬ ∃ t, s = [35] ++ t) := by
  unfold nameZ at h
  split at h
  · next e => subst e; injection h with h; subst h; exact ⟨by decide, by decide, by simp, by simp⟩
  split at h
  · next e => subst e; injection h with h; subst h; exact ⟨by decide, by decide, by simp, by simp⟩
  split at h
  · next e => subst e; injection h with h; subst h; exact ⟨by decide, by decide, by simp, by simp⟩
  split at h
  · next e => subst e; injection h with h; subst h; exact ⟨by decide, by decide, by simp, by simp⟩
  split at h
  · next e => subst e; injection h with h; subst h; exact ⟨by decide, by decide, by simp, by simp⟩
  · cases h
theorem no_name {s : List UInt8} (h : s.head? = some 35) : nameZ s = none := by
  unfold nameZ
  rw [if_neg (by rintro rfl; simp at h), if_neg (by rintro rfl; simp at h), if_neg (by rintro rfl; simp at h), if_neg (by rintro rfl; simp at h), if_neg (by rintro rfl; simp at h)]
theorem no_ref {s : List UInt8} (h : nameZ s = none) (h1 : s.head? ≠ some 35) : refL s = none := by
  unfold refL
  unfold nameZ at h
  split at h
  · cases h
  split at h
  · cases h
  split at h
  · cases h
  split at h
  · cases h
  split at h
  · cases h
  · next a b c d e => rw [if_neg a, if_neg b, if_neg c, if_neg d, if_neg e, if_neg h1]
set_option maxHeartbeats 2000000 in
theorem meant_name (S : ByteArray) (r : Int) (hr : nameZ S.data.toList = some r) (w : World) : Calls Tryd.prog 24 #[.string S] w fun e w' => MeantAns S w.heap.size e w' ∧ Below w.heap.size w w' := by
  obtain ⟨h1, h2, h3, h4⟩ := name_ref hr
  have HR := Lib.hid h1
  have HN : Hid (∀ w, Calls Tryd.prog 31 #[.string S] w fun e w' => e = .returned (.tuple #[.int .i32 r, .bool true]) ∧ w' = w) := fun w => by
    refine (named_any S w).mono ?_
    rintro e w' ⟨⟨r', h, he⟩ | ⟨h, _⟩, hw⟩
    · rw [hr] at h
      injection h with h
      exact ⟨by rw [he, h], hw⟩
    · rw [hr] at h; cases h
  have HX := Lib.hid (pre_miss S ⟨#[35, 120]⟩ h3)
  have HD := Lib.hid (pre_miss S ⟨#[35]⟩ h4)
  have HB := Lib.hid (bytes_one r h2 w)
  clear h1 h2 h3 h4 hr
  go_enter Tryd.func24, Tryd.ntmps24
  go_wp2_with fail
  refine (HN.out _).mono ?_
  rintro e w' ⟨rfl, hw⟩
  rw [hw]
  clear hw
  go_wp2_with fail
  refine (HX.out _).mono ?_
  rintro e w' ⟨rfl, hw⟩
  rw [hw]
  clear hw
  go_wp2_with fail
  refine (HD.out _).mono ?_
  rintro e w' ⟨rfl, hw⟩
  rw [hw]
  clear hw
  go_wp2_with fail
  refine HB.out.mono ?_
  rintro e w1 ⟨v, rfl, ho, hb⟩
  have HO := Lib.hid ho
  clear ho
  go_wp2
  go_ret2
  exact ⟨.inl ⟨_, v, HR.out, rfl, HO.out⟩, hb⟩
set_option maxHeartbeats 2000000 in
theorem meant_hex (S R : ByteArray) (hS : S.data.toList = [35, 120] ++ R.data.toList) (hlen : S.size ≤ 100000) (w : World) : Calls Tryd.prog 24 #[.string S] w fun e w' => MeantAns S w.heap.size e w' ∧ Below w.heap.size w w' := by
  have hRs : R.size ≤ 100000 := by
    have := congrArg List.length hS
    rw [List.length_append, ← ba_size, ← ba_size] at this
    omega
  have hnn : nameZ S.data.toList = none := no_name (by rw [hS]; rfl)
  have hrf : refL S.data.toList = chrL 16 R.data.toList := by rw [hS]; exact refL_hex _
  rw [chrL_low 16 (by omega)] at hrf
  have HRF := Lib.hid hrf
  have HN : Hid (∀ w, Calls Tryd.prog 31 #[.string S] w fun e w' => e = .returned (.tuple #[.int .i32 0, .bool false]) ∧ w' = w) := fun w => by
    refine (named_any S w).mono ?_
    rintro e w' ⟨⟨r', h, he⟩ | ⟨h, he⟩, hw⟩
    · rw [hnn] at h; cases h
    · exact ⟨he, hw⟩
  have HX := Lib.hid (pre_hit S R ⟨#[35, 120]⟩ hS)
  have HM := Lib.hid (number16_any R hRs w)
  clear hrf hnn hS hRs
  go_enter Tryd.func24, Tryd.ntmps24
  go_wp2_with fail
  refine (HN.out _).mono ?_
  rintro e w' ⟨rfl, hw⟩
  rw [hw]
  clear hw
  go_wp2_with fail
  refine (HX.out _).mono ?_
  rintro e w' ⟨rfl, hw⟩
  rw [hw]
  clear hw
  go_wp2_with fail
  refine HM.out.mono ?_
  rintro e w1 ⟨⟨hl, rfl⟩ | ⟨n, hl, rfl⟩, hb1⟩
  · have HL := Lib.hid hl
    clear hl
    go_wp2
    go_ret2
    refine ⟨.inr ⟨?_, rfl⟩, hb1⟩
    rw [HRF.out, HL.out]
  · have HL := Lib.hid hl
    clear hl
    cases hx : xmlB (n : Int) with
    | false =>
      have HXX := Lib.hid hx
      clear hx
      go_wp2
      go_ret2
      refine ⟨.inr ⟨?_, rfl⟩, hb1⟩
      rw [HRF.out, HL.out]
      dsimp only
      rw [HXX.out, if_neg (by simp)]
    | true =>
      have HXX := Lib.hid hx
      have HB := Lib.hid (bytes_one (n : Int) (xml_ch hx) w1)
      clear hx
      go_wp2_with fail
      refine HB.out.mono ?_
      rintro e w2 ⟨v, rfl, ho, hb2⟩
      have HO := Lib.hid (ho.mono hb1.size)
      have hbf := hb1.trans (hb2.mono hb1.size)
      clear ho hb1 hb2
      go_wp2
      go_ret2
      refine ⟨.inl ⟨_, v, ?_, rfl, HO.out⟩, hbf⟩
      rw [HRF.out, HL.out]
      dsimp only
      rw [HXX.out, if_pos rfl]
set_option maxHeartbeats 2000000 in
theorem meant_ten (S R : ByteArray) (hS : S.data.toList = [35] ++ R.data.toList) (hX : R.data.toList.head? ≠ some 120) (hlen : S.size ≤ 100000) (w : World) : Calls Tryd.prog 24 #[.string S] w fun e w' => MeantAns S w.heap.size e w' ∧ Below w.heap.size w w' := by
  have hRs : R.size ≤ 100000 := by
    have := congrArg List.length hS
    rw [List.length_append, ← ba_size, ← ba_size] at this
    omega
  have hnn : nameZ S.data.toList = none := no_name (by rw [hS]; rfl)
  have hrf : refL S.data.toList = chrL 10 R.data.toList := by rw [hS]; exact refL_ten _ hX
  rw [chrL_low 10 (by omega)] at hrf
  have HRF := Lib.hid hrf
  have HN : Hid (∀ w, Calls Tryd.prog 31 #[.string S] w fun e w' => e = .returned (.tuple #[.int .i32 0, .bool false]) ∧ w' = w) := fun w => by
    refine (named_any S w).mono ?_
    rintro e w' ⟨⟨r', h, he⟩ | ⟨h, he⟩, hw⟩
    · rw [hnn] at h; cases h
    · exact ⟨he, hw⟩
  have HX := Lib.hid (pre_miss S ⟨#[35, 120]⟩ (by
    rintro ⟨t, ht⟩
    rw [hS] at ht
    have h2 : R.data.toList = 120 :: t := by
      have : (35 : UInt8) :: R.data.toList = 35 :: 120 :: t := ht
      injection this
    exact hX (by rw [h2]; rfl)))
  have HD := Lib.hid (pre_hit S R ⟨#[35]⟩ hS)
  clear hX
  have HM := Lib.hid (number10_any R hRs w)
  clear hrf hnn hS hRs
  go_enter Tryd.func24, Tryd.ntmps24
  go_wp2_with fail
  refine (HN.out _).mono ?_
  rintro e w' ⟨rfl, hw⟩
  rw [hw]
  clear hw
  go_wp2_with fail
  refine (HX.out _).mono ?_
  rintro e w' ⟨rfl, hw⟩
  rw [hw]
  clear hw
  go_wp2_with fail
  refine (HD.out _).mono ?_
  rintro e w' ⟨rfl, hw⟩
  rw [hw]
  clear hw
  go_wp2_with fail
  refine HM.out.mono ?_
  rintro e w1 ⟨⟨hl, rfl⟩ | ⟨n, hl, rfl⟩, hb1⟩
  · have HL := Lib.hid hl
    clear hl
    go_wp2
    go_ret2
    refine ⟨.inr ⟨?_, rfl⟩, hb1⟩
    rw [HRF.out, HL.out]
  · have HL := Lib.hid hl
    clear hl
    cases hx : xmlB (n : Int) with
    | false =>
      have HXX := Lib.hid hx
      clear hx
      go_wp2
      go_ret2
      refine ⟨.inr ⟨?_, rfl⟩, hb1⟩
      rw [HRF.out, HL.out]
      dsimp only
      rw [HXX.out, if_neg (by simp)]
    | true =>
      have HXX := Lib.hid hx
      have HB := Lib.hid (bytes_one (n : Int) (xml_ch hx) w1)
      clear hx
      go_wp2_with fail
      refine HB.out.mono ?_
      rintro e w2 ⟨v, rfl, ho, hb2⟩
      have HO := Lib.hid (ho.mono hb1.size)
      have hbf := hb1.trans (hb2.mono hb1.size)
      clear ho hb1 hb2
      go_wp2
      go_ret2
      refine ⟨.inl ⟨_, v, ?_, rfl, HO.out⟩, hbf⟩
      rw [HRF.out, HL.out]
      dsimp only
      rw [HXX.out, if_pos rfl]
set_option maxHeartbeats 2000000 in
theorem meant_none (S : ByteArray) (h1 : nameZ S.data.toList = none) (h2 : S.data.toList.head? ≠ some 35) (w : World) : Calls Tryd.prog 24 #[.string S] w fun e w' => MeantAns S w.heap.size e w' ∧ Below w.heap.size w w' := by
  have HR := Lib.hid (no_ref h1 h2)
  have HN : Hid (∀ w, Calls Tryd.prog 31 #[.string S] w fun e w' => e = .returned (.tuple #[.int .i32 0, .bool false]) ∧ w' = w) := fun w => by
    refine (named_any S w).mono ?_
    rintro e w' ⟨⟨r', h, he⟩ | ⟨h, he⟩, hw⟩
    · rw [h1] at h; cases h
    · exact ⟨he, hw⟩
  have HX := Lib.hid (pre_miss S ⟨#[35, 120]⟩ (by rintro ⟨t, ht⟩; rw [ht] at h2; exact h2 rfl))
  have HD := Lib.hid (pre_miss S ⟨#[35]⟩ (by rintro ⟨t, ht⟩; rw [ht] at h2; exact h2 rfl))
  clear h1 h2
  go_enter Tryd.func24, Tryd.ntmps24
  go_wp2_with fail
  refine (HN.out _).mono ?_
  rintro e w' ⟨rfl, hw⟩
  rw [hw]
  clear hw
  go_wp2_with fail
  refine (HX.out _).mono ?_
  rintro e w' ⟨rfl, hw⟩
  rw [hw]
  clear hw
  go_wp2_with fail
  refine (HD.out _).mono ?_
  rintro e w' ⟨rfl, hw⟩
  rw [hw]
  clear hw
  go_wp2
  go_ret2
  exact ⟨.inr ⟨HR.out, rfl⟩, Below.refl _ _⟩
theorem meant_any (S : ByteArray) (hlen : S.size ≤ 100000) (w : World) : Calls Tryd.prog 24 #[.string S] w fun e w' => MeantAns S w.heap.size e w' ∧ Below w.heap.size w w' := by
  cases hn : nameZ S.data.toList with
  | some r => exact meant_name S r hn w
  | none =>
    by_cases h35 : S.data.toList.head? = some 35
    · obtain ⟨t, ht⟩ : ∃ t, S.data.toList = 35 :: t := by
        cases hs : S.data.toList with
        | nil => rw [hs] at h35; cases h35
        | cons c t =>
          rw [hs] at h35
          injection h35 with h
          exact ⟨t, by rw [h]⟩
      by_cases hx : t.head? = some 120
      · obtain ⟨u, hu⟩ : ∃ u, t = 120 :: u := by
          cases t with
          | nil => cases hx
          | cons c u =>
            injection hx with h
            exact ⟨u, by rw [h]⟩
        exact meant_hex S ⟨u.toArray⟩ (by rw [ht, hu]; rfl) hlen w
      · exact meant_ten S ⟨t.toArray⟩ (by rw [ht]; rfl) hx hlen w
    · exact meant_none S hn h35 w
end Go.Proofs.YtmbmobjlmbjkpaaDoor
