/-
  name.Split: a full name's prefix and local name. Conditions: the tables lie as they are laid; the text is not too long.
-/
import Derived.Test.YthgffefdgjglmaaDoorNIs
namespace Go.Proofs.YthgffefdgjglmaaDoor
open Go.RowKit
set_option linter.unusedVariables false
/-- What is answered of a full name, and of another text. -/
def SplitAns (S : ByteArray) (e : Ending) : Prop :=
  (∃ P L : ByteArray, Full S.data.toList P.data.toList L.data.toList ∧ P.size ≤ S.size ∧ L.size ≤ S.size ∧ e = .returned (.tuple #[.string P, .string L, .bool true])) ∨ ((∀ p l, ¬ Full S.data.toList p l) ∧ e = .returned (.tuple #[.string ⟨#[]⟩, .string ⟨#[]⟩, .bool false]))
set_option maxHeartbeats 4000000 in
theorem split_any (S : ByteArray) (hlen : S.size ≤ 100000) (w : World) (hT : NTabs w) : Calls Tryd.prog 13 #[.string S] w fun e w' => SplitAns S e ∧ Below w.heap.size w w' := by
  have h5 := hT.five
  have HT := Lib.hid hT
  have HC := Lib.hid (cut_any S (by omega) w)
  clear hT
  go_enter Tryd.func13, Tryd.ntmps13
  go_wp2_with fail
  refine HC.out.mono ?_
  rintro e w1 ⟨⟨hno, rfl⟩ | ⟨P, R, hs, hno, rfl⟩, hb1⟩
  · have HNO := Lib.hid hno
    have hs1 := hb1.size
    have HIS := Lib.hid (is_any S hlen w1 (HT.out.below h5 hb1))
    clear hno HC
    cases hq : nmB S.data.toList with
    | false =>
      rw [hq] at HIS
      have HQ := Lib.hid hq
      clear hq
      go_wp2_with fail
      refine HIS.out.mono ?_
      rintro e w2 ⟨rfl, hb2⟩
      have hbf := hb1.trans (hb2.mono hs1)
      go_wp2
      go_ret3
      refine ⟨.inr ⟨fun p l h => ?_, rfl⟩, hbf⟩
      have := nmB_yes ((full_plain HNO.out).1 h).2.2
      rw [HQ.out] at this; cases this
    | true =>
      rw [hq] at HIS
      have HQ := Lib.hid hq
      clear hq
      go_wp2_with fail
      refine HIS.out.mono ?_
      rintro e w2 ⟨rfl, hb2⟩
      have hbf := hb1.trans (hb2.mono hs1)
      go_wp2_with fail
      refine (clone_any ⟨#[]⟩ (by show (0 : Nat) ≤ _; omega) _).mono ?_
      rintro e w3 ⟨rfl, hb3⟩
      have hbg := hbf.trans (hb3.mono hbf.size)
      go_wp2_with fail
      refine (clone_any S (by omega) _).mono ?_
      rintro e w4 ⟨rfl, hb4⟩
      have hbh := hbg.trans (hb4.mono hbg.size)
      go_wp2
      go_ret3
      exact ⟨.inl ⟨⟨#[]⟩, S, .inl ⟨rfl, rfl, nmB_iff.1 HQ.out⟩, Nat.zero_le _, Nat.le_refl _, rfl⟩, hbh⟩
  · have HNO := Lib.hid hno
    have HS := Lib.hid hs
    have hs1 := hb1.size
    have hPR : P.size + 1 + R.size = S.size := by rw [ba_size, ba_size, ba_size, hs]; simp; omega
    have HIP := Lib.hid (is_any P (by omega) w1 (HT.out.below h5 hb1))
    clear hno hs HC
    cases hp : nmB P.data.toList with
    | false =>
      rw [hp] at HIP
      have HQ := Lib.hid hp
      clear hp
      go_wp2_with fail
      refine HIP.out.mono ?_
      rintro e w2 ⟨rfl, hb2⟩
      have hbf := hb1.trans (hb2.mono hs1)
      go_wp2
      go_ret3
      refine ⟨.inr ⟨fun p l h => ?_, rfl⟩, hbf⟩
      rw [HS.out] at h
      have := nmB_yes ((full_cut HNO.out).1 h).2.2.1
      rw [HQ.out] at this; cases this
    | true =>
      rw [hp] at HIP
      have HP := Lib.hid hp
      clear hp
      go_wp2_with fail
      refine HIP.out.mono ?_
      rintro e w2 ⟨rfl, hb2⟩
      have hbf := hb1.trans (hb2.mono hs1)
      have HIR := Lib.hid (is_any R (by omega) w2 (HT.out.below h5 hbf))
      clear HIP
      cases hq : nmB R.data.toList with
      | false =>
        rw [hq] at HIR
        have HQ := Lib.hid hq
        clear hq
        go_wp2_with fail
        refine HIR.out.mono ?_
        rintro e w3 ⟨rfl, hb3⟩
        have hbg := hbf.trans (hb3.mono hbf.size)
        go_wp2
        go_ret3
        refine ⟨.inr ⟨fun p l h => ?_, rfl⟩, hbg⟩
        rw [HS.out] at h
        have := nmB_yes ((full_cut HNO.out).1 h).2.2.2
        rw [HQ.out] at this; cases this
      | true =>
        rw [hq] at HIR
        have HQ := Lib.hid hq
        clear hq
        go_wp2_with fail
        refine HIR.out.mono ?_
        rintro e w3 ⟨rfl, hb3⟩
        have hbg := hbf.trans (hb3.mono hbf.size)
        go_wp2_with fail
        refine (clone_any P (by omega) _).mono ?_
        rintro e w4 ⟨rfl, hb4⟩
        have hbh := hbg.trans (hb4.mono hbg.size)
        go_wp2_with fail
        refine (clone_any R (by omega) _).mono ?_
        rintro e w5 ⟨rfl, hb5⟩
        have hbi := hbh.trans (hb5.mono hbh.size)
        go_wp2
        go_ret3
        exact ⟨.inl ⟨P, R, by rw [HS.out]; exact (full_cut HNO.out).2 ⟨rfl, rfl, nmB_iff.1 HP.out, nmB_iff.1 HQ.out⟩, by omega, by omega, rfl⟩, hbi⟩
end Go.Proofs.YthgffefdgjglmaaDoor
