/-
  BaseOnly walked: what is read has just those letters. Conditions: none.
-/
import Derived.Test.YthadagnebnakhaaBAwake
namespace Go.Proofs.Ythadagnebnakhaa
open Go.RowKit
set_option linter.unusedVariables false
set_option maxHeartbeats 2000000 in
theorem only_any (S : ByteArray) (w : World) :
    Calls Try.prog 5 #[.string S] w fun e w' => e = .returned (.bool true) ∧ Below w.heap.size w w' := by
  have HAW := Lib.hid awake_any
  obtain ⟨n, hN⟩ : ∃ n, S.size = n := ⟨_, rfl⟩
  by_cases hn : 400 < n
  · have hz : (400 : Int) < (n : Int) := by omega
    go_enter Try.func5, Try.ntmps5
    go_wp2_with fail
    refine (HAW.out w).mono ?_
    rintro e w1 ⟨rfl, hb1⟩
    go_wp2_with fail
    refine (HAW.out w1).mono ?_
    rintro e w2 ⟨rfl, hb2⟩
    go_wp2
    go_ret
    exact ⟨rfl, hb1.trans (hb2.mono hb1.size)⟩
  · have hz : ¬ (400 : Int) < (n : Int) := by omega
    have hz1 := decide_eq_false hz
    obtain ⟨s, hs⟩ : ∃ s : List UInt8, (⟨s.toArray⟩ : ByteArray) = S := ⟨S.data.toList, by simp⟩
    have hsl : s.length = n := by rw [← hN, ← hs]; rfl
    have HSL := Lib.hid hsl
    have HD : Hid (∀ W, Calls Try.prog 10 #[.string S] W fun e w' => DecAns W.heap.size s e w' ∧ Below W.heap.size W w') := fun W => by rw [← hs]; exact decode_any s W (by omega)
    have HR : Hid (∀ W, Calls Try.prog 13 #[.string S] W fun e w' => e = .returned (.string ⟨(sq s).toArray⟩) ∧ Below W.heap.size W w') := fun W => by rw [← hs]; exact squeeze_any s W (by omega)
    clear hs hsl
    go_enter Try.func5, Try.ntmps5
    go_wp2_with fail
    refine (HAW.out w).mono ?_
    rintro e w1 ⟨rfl, hb1⟩
    go_wp2_with fail
    refine (HD.out w1).mono ?_
    rintro e w2 ⟨hd1, hb2⟩
    have hb12 := hb1.trans (hb2.mono hb1.size)
    rcases hd1 with ⟨b, v, hdb, rfl, hown⟩ | ⟨hdb, rfl⟩
    · obtain ⟨A1, cap1, hv, hc1, hm1, _, hli⟩ := own_full hown rfl
      subst hv
      have he := (dec_iff s b).1 hdb
      have hbl : b.length ≤ 1000 := by
        have h1 := enc_length b
        have h2 := sq_len s
        rw [← he, HSL.out] at h2
        omega
      have HE := Lib.hid (encode_part A1 b cap1 w2 hli hc1 hm1 (by omega))
      rw [he] at HE
      generalize (⟨(sq s).toArray⟩ : ByteArray) = F at *
      generalize b.length = m at *
      clear hown hli hdb HD he HAW
      go_wp2_with fail
      refine HE.out.mono ?_
      rintro e w3 ⟨rfl, hb3⟩
      have hb123 := hb12.trans (hb3.mono hb12.size)
      clear HE
      go_wp2_with fail
      refine (HR.out w3).mono ?_
      rintro e w4 ⟨rfl, hb4⟩
      have hb5 := hb123.trans (hb4.mono hb123.size)
      go_wp2
      go_ret
      exact ⟨rfl, hb5⟩
    · clear hdb HD HR
      go_wp2
      go_ret
      exact ⟨rfl, hb12⟩
end Go.Proofs.Ythadagnebnakhaa
