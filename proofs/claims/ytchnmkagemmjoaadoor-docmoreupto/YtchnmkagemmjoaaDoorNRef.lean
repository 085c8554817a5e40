/-
  The document's own answers on names: how long a text is one, whether it is one, a full name's parts. Conditions: the text is not too long.
-/
import Derived.Test.YtchnmkagemmjoaaDoorNIs
namespace Go.Proofs.YtchnmkagemmjoaaDoor
open Go.RowKit
set_option linter.unusedVariables false
/-- What is answered: how long the longest name is that a text begins with. -/
def LongAns (S : ByteArray) (e : Ending) : Prop := ∃ l rest, Run S.data.toList l rest ∧ e = .returned (.int .i64 ((encBs l).length : Nat))
/-- What holds at each round's head. -/
def LRel (w : World) (S : ByteArray) (i : Value) (wr : World) : Prop := ∃ (k : Nat) (l : List Int) (rest : List UInt8), i = .int .i64 k ∧ (encBs l).length = k ∧ nmL l = true ∧ S.data.toList = encBs l ++ rest ∧ Below w.heap.size w wr
theorem run_stop {s rest x : List UInt8} {l : List Int} {r : Int} (e : s = encBs l ++ rest) (hl : nmL l = true) (hr : chB r = true) (hx : rest = encB r ++ x) (hg : goes l r = false) : Run s l rest :=
  ⟨e, hl, fun r' x' hr' e' => by
    obtain ⟨rfl, _⟩ := encB_inj hr hr' (hx.symm.trans e')
    exact hg⟩
theorem run_none {s rest : List UInt8} {l : List Int} (e : s = encBs l ++ rest) (hl : nmL l = true) (hb : ¬ Begins rest) : Run s l rest :=
  ⟨e, hl, fun r x hr hx => absurd ⟨r, x, hr, hx⟩ hb⟩
theorem begins_nil : ¬ Begins [] := by
  rintro ⟨r, x, _, e⟩
  have := congrArg List.length e
  have hp := encB_pos r
  rw [List.length_append] at this; simp at this
  omega
theorem goes_cons {l : List Int} (h : l ≠ []) (r : Int) : goes l r = staB r := by
  cases l with
  | nil => exact absurd rfl h
  | cons _ _ => rfl
set_option maxHeartbeats 4000000 in
theorem refLong_any (S : ByteArray) (hlen : S.size ≤ 2000000) (w : World) : Calls Tryd.prog 38 #[.string S] w fun e w' => LongAns S e ∧ Below w.heap.size w w' := by
  obtain ⟨N, hN⟩ : ∃ N, S.size = N := ⟨_, rfl⟩
  rw [hN] at hlen
  go_enter Tryd.func38, Tryd.ntmps38
  go_wp2
  go_loopw [3] (LRel w S) (fun i _ => N - (intOf i).toNat)
  case atStart => exact ⟨0, [], S.data.toList, rfl, rfl, rfl, rfl, Below.refl _ _⟩
  case round =>
    obtain ⟨k, l, rest, rfl, hkl, hnl, hs, hb⟩ := hrel
    have hbs := hb.size
    have hlenN : k + rest.length = N := by rw [← hN, ba_size, hs, List.length_append, hkl]
    have HS := Lib.hid hs
    have HKL := Lib.hid hkl
    have HNL := Lib.hid hnl
    by_cases hlt : k < N
    · have hkz : (k : Int) < (N : Int) := by omega
      have hkz2 : (k : Int) ≤ (N : Int) := by omega
      obtain ⟨R, hR⟩ : ∃ R, S.extract k N = R := ⟨_, rfl⟩
      have hRl : R.data.toList = rest := by rw [← hR, ba_cut, ← hN, ba_size, List.take_length, hs, ← hkl, List.drop_left]
      have hRs : R.size = rest.length := by rw [ba_size, hRl]
      obtain ⟨n, hn⟩ : ∃ n, rest.length = n := ⟨_, rfl⟩
      rw [hn] at hRs
      obtain ⟨c, W, hcv, hcell, hsz, hbW, hc1, hc2⟩ := conv_text R (by omega) wr
      have hFI : Calls Tryd.prog 51 #[.slice (some ⟨wr.heap.size, 0, none⟩) n c] W fun e w' => FirstAns rest e ∧ Below W.heap.size W w' := by
        refine first_any wr.heap.size 0 n c rest W hn (by omega) (by omega) hc2 hsz (fun j hj => ?_)
        have := hcell j (by rw [hRl]; exact hj)
        simpa [hRl] using this
      have HFI := Lib.hid hFI
      rw [hRs] at hcv
      have HN := Lib.hid hn
      have hbw : Below w.heap.size w W := hb.trans (hbW.mono hbs)
      clear hs hkl hnl hRl hcell hc1 hc2 hFI hn hRs hbW
      go_wp2_with fail
      refine HFI.out.mono ?_
      rintro e w1 ⟨⟨r, x, hr, hx, rfl⟩ | ⟨hnb, rfl⟩, hb1⟩
      · have hbw1 : Below w.heap.size w w1 := hbw.trans (hb1.mono hbw.size)
        obtain ⟨K, hK⟩ : ∃ K, (encB r).length = K := ⟨_, rfl⟩
        have hK1 : 1 ≤ K := by rw [← hK]; exact encB_pos r
        have hK2 : K ≤ rest.length := by rw [hx, List.length_append, hK]; omega
        rw [hK]
        have HK := Lib.hid hK
        have HX := Lib.hid hx
        have HR := Lib.hid hr
        have hK0 : ((K : Int) == 0) = false := by rw [beq_eq_false_iff_ne]; omega
        have HBG := Lib.hid (refBegins_any r)
        have HST := Lib.hid (refStands_any r)
        have hKN : k + K ≤ N := by omega
        have HNX : Hid (goes l r = true → LRel w S (.int .i64 ((k + K : Nat) : Int)) w1) := fun hg =>
          ⟨k + K, l ++ [r], x, rfl, by rw [encBs_append, List.length_append, HKL.out]; simp [encBs, HK.out], by rw [nmL_snoc, HNL.out, hg]; rfl, by rw [HS.out, HX.out, encBs_append]; simp [encBs], hbw1⟩
        have HOUT : Hid (goes l r = false → LongAns S (.returned (.int .i64 (k : Nat)))) := fun hg =>
          ⟨l, rest, run_stop HS.out HNL.out HR.out HX.out hg, by rw [HKL.out]⟩
        clear hK hx hr hb1 HFI hcv hR hK2
        by_cases hl0 : l = []
        · have hk0 : ((k : Int) == 0) = true := by rw [beq_iff_eq, ← HKL.out, hl0]; rfl
          have hg0 : goes l r = begB r := by rw [hl0]; rfl
          rw [hg0] at HNX HOUT
          clear hl0 hg0
          cases hbg : begB r with
          | false =>
            rw [hbg] at HNX HOUT HBG
            go_wp2_with fail
            refine (HBG.out _).mono ?_
            rintro e w' ⟨rfl, hw⟩
            rw [hw]
            go_wp2
            go_ret
            exact ⟨HOUT.out (by simp), hbw1⟩
          | true =>
            have hst := sta_of_beg hbg
            rw [hbg] at HNX HOUT HBG
            rw [hst] at HST
            go_wp2_with fail
            refine (HBG.out _).mono ?_
            rintro e w' ⟨rfl, hw⟩
            rw [hw]
            go_wp2_with fail
            refine (HST.out _).mono ?_
            rintro e w'' ⟨rfl, hw'⟩
            rw [hw']
            clear hw hw'
            go_wp2
            go_roundw
            case rel => exact (show Value.int .i64 ((k + K : Nat) : Int) = _ by go_num) ▸ HNX.out (by simp)
            case measure => simp [intOf]; omega
        · have hk0 : ((k : Int) == 0) = false := by
            rw [beq_eq_false_iff_ne]
            intro h
            have : (encBs l).length = 0 := by rw [HKL.out]; omega
            exact hl0 (encBs_nil (List.eq_nil_of_length_eq_zero this))
          have hg0 : goes l r = staB r := goes_cons hl0 r
          rw [hg0] at HNX HOUT
          clear hl0 hg0
          cases hst : staB r with
          | false =>
            rw [hst] at HNX HOUT HST
            go_wp2_with fail
            refine (HST.out _).mono ?_
            rintro e w' ⟨rfl, hw⟩
            rw [hw]
            go_wp2
            go_ret
            exact ⟨HOUT.out (by simp), hbw1⟩
          | true =>
            rw [hst] at HNX HOUT HST
            go_wp2_with fail
            refine (HST.out _).mono ?_
            rintro e w' ⟨rfl, hw⟩
            rw [hw]
            clear hw
            go_wp2
            go_roundw
            case rel => exact (show Value.int .i64 ((k + K : Nat) : Int) = _ by go_num) ▸ HNX.out (by simp)
            case measure => simp [intOf]; omega
      · have hbw1 : Below w.heap.size w w1 := hbw.trans (hb1.mono hbw.size)
        have HNB := Lib.hid hnb
        clear hnb HFI hcv hR hb1
        go_wp2
        go_ret
        exact ⟨⟨l, rest, run_none HS.out HNL.out HNB.out, by rw [HKL.out]; rfl⟩, hbw1⟩
    · have hkz : ¬ (k : Int) < (N : Int) := by omega
      have hr0 : rest = [] := List.eq_nil_of_length_eq_zero (by omega)
      have HR0 := Lib.hid hr0
      clear hs hkl hnl hr0
      go_wp2
      go_ret
      exact ⟨⟨l, rest, run_none HS.out HNL.out (by rw [HR0.out]; exact begins_nil), by rw [HKL.out]; rfl⟩, hb⟩
theorem nonempty_tests {S : ByteArray} (h : S.data.toList ≠ []) : (S.toList == []) = false ∧ S.toList.isEmpty = false := by
  rw [Lib.toList_data]
  refine ⟨by simpa using h, by simpa using h⟩
set_option maxHeartbeats 4000000 in
theorem refIs_any (S : ByteArray) (hlen : S.size ≤ 2000000) (w : World) : Calls Tryd.prog 28 #[.string S] w fun e w' => e = .returned (.bool (nmB S.data.toList)) ∧ Below w.heap.size w w' := by
  by_cases hS : S.data.toList = []
  · obtain rfl : S = ⟨#[]⟩ := ba_ext hS
    have hno : nmB (⟨#[]⟩ : ByteArray).data.toList = false := nmB_no (fun h => nm_ne h rfl)
    rw [hno]
    clear hno hS hlen
    go_enter Tryd.func28, Tryd.ntmps28
    go_wp2
    go_ret
    exact ⟨rfl, Below.refl _ _⟩
  · obtain ⟨t1, t2⟩ := nonempty_tests hS
    obtain ⟨B, hB⟩ : ∃ B, nmB S.data.toList = B := ⟨_, rfl⟩
    rw [hB]
    have HB := Lib.hid hB
    have HS := Lib.hid hS
    have HL := Lib.hid (refLong_any S hlen w)
    clear hB hS
    go_enter Tryd.func28, Tryd.ntmps28
    go_wp2_with fail
    refine HL.out.mono ?_
    rintro e w1 ⟨⟨l, rest, hrun, rfl⟩, hb1⟩
    have hsum : (encBs l).length + rest.length = S.size := by rw [ba_size, hrun.eq, List.length_append]
    have his := hrun.is
    have heq := hrun.eq
    obtain ⟨K, hK⟩ : ∃ K, (encBs l).length = K := ⟨_, rfl⟩
    rw [hK] at hsum ⊢
    by_cases hq : rest = []
    · have hT : true = B := by
        rw [← HB.out]
        refine (nmB_yes (his.2 ⟨fun h => ?_, hq⟩)).symm
        rw [h, hq] at heq
        exact HS.out heq
      subst hT
      have hKs : ((K : Int) == (S.size : Int)) = true := by rw [beq_iff_eq, ← hsum, hq]; simp
      clear his heq hrun hK hsum hq HB HL
      go_wp2
      go_ret
      exact ⟨rfl, hb1⟩
    · have hF : false = B := by
        rw [← HB.out]
        exact (nmB_no (fun h => hq (his.1 h).2)).symm
      subst hF
      have hKs : ((K : Int) == (S.size : Int)) = false := by
        rw [beq_eq_false_iff_ne]
        intro h
        exact hq (List.eq_nil_of_length_eq_zero (by omega))
      clear his heq hrun hK hsum hq HB HL
      go_wp2
      go_ret
      exact ⟨rfl, hb1⟩
end Go.Proofs.YtchnmkagemmjoaaDoor
