/-
  NameShorter walked. Conditions: the tables lie as they are laid.
-/
import Derived.Test.YthgffefdgjglmaaDoorWalkJoins
import Derived.Test.YthgffefdgjglmaaDoorRefBytes
namespace Go.Proofs.YthgffefdgjglmaaDoor
open Go.RowKit
set_option linter.unusedVariables false
/-- A slice of numbers up to one of them. -/
theorem slice_upto {A : Option Addr} {len cap m : Nat} (hm : m ≤ len) (hc : len ≤ cap) (W : World) : (Instr.slice 31 (.slice A len cap) none (some (.int .i64 (m : Int))) none).run Tryd.prog W = .ok (.slice A m cap) W := by
  have hs : ∀ w, (sizeOf 21).run Tryd.prog w = .ok 1 w := fun w => by kernel_rfl
  have h1 : (m : Int) ≤ (cap : Int) := by omega
  have h2 : m ≤ cap := by omega
  have hA : A.map (·.add 0) = A := by cases A <;> simp [Addr.add]
  simp [Instr.slice, run_underlying Tryd.underlying31, Instr.sliceBounds, Instr.sliceBound, asIntOf, hs, h2, hA]
theorem lies_upto {w : World} {B : Nat} {A : Option Addr} {l : List Int} (n : Nat) (h : Lies w B A (i32s l)) : Lies w B A (i32s (l.take n)) := fun hne => by
  obtain ⟨b, o, e, hb, hc⟩ := h (fun h => hne (by
    have : l = [] := by simpa [i32s] using h
    rw [this]; simp [i32s]))
  refine ⟨b, o, e, hb, fun j hj => ?_⟩
  have hj' : j < n ∧ j < l.length := by simp [i32s] at hj; omega
  rw [hc j (by simp [i32s]; exact hj'.2)]
  simp [i32s]
/-- The law up to where the number is asked. -/
theorem shorter_out (S : ByteArray) (x : Int) (r : Int) (w : World) (hT : NTabs w) (h : 300 < S.size ∨ (S.size ≤ 300 ∧ nmB S.data.toList = false)) :
    Calls Tryd.prog 7 #[.string S, .int .u8 x, .int .i32 r] w fun e w' => e = .returned (.bool true) ∧ Below w.heap.size w w' := by
  have h5 := hT.five
  have HT := Lib.hid hT
  have HA := Lib.hid (awake_any w hT)
  clear hT
  rcases h with hn | ⟨hn, hq⟩
  · have hz : (300 : Int) < (S.size : Int) := by omega
    go_enter Tryd.func7, Tryd.ntmps7
    go_wp2_with fail
    refine HA.out.mono ?_
    rintro e w1 ⟨rfl, hb1⟩
    go_wp2_with fail
    refine (awake_any w1 (HT.out.below h5 hb1)).mono ?_
    rintro e w2 ⟨rfl, hb2⟩
    go_wp2
    go_ret
    exact ⟨rfl, hb1.trans (hb2.mono hb1.size)⟩
  · have hz : ¬ (300 : Int) < (S.size : Int) := by omega
    have hz1 := decide_eq_false hz
    have HI := Lib.hid (refIs_any S (by omega))
    rw [hq] at HI
    clear hq
    go_enter Tryd.func7, Tryd.ntmps7
    go_wp2_with fail
    refine HA.out.mono ?_
    rintro e w1 ⟨rfl, hb1⟩
    go_wp2_with fail
    refine (HI.out w1).mono ?_
    rintro e w2 ⟨rfl, hb2⟩
    have hbw := hb1.trans (hb2.mono hb1.size)
    clear hb1 hb2
    go_wp2_with fail
    refine (awake_any w2 (HT.out.below h5 hbw)).mono ?_
    rintro e w3 ⟨rfl, hb3⟩
    go_wp2
    go_ret
    exact ⟨rfl, hbw.trans (hb3.mono hbw.size)⟩
set_option maxHeartbeats 1000000 in
theorem shorter_in (S : ByteArray) (x : Nat) (hx : x < 256) (r : Int) (w : World) (hT : NTabs w) (hn : S.size ≤ 300) (hq : nm S.data.toList) :
    Calls Tryd.prog 7 #[.string S, .int .u8 (x : Int), .int .i32 r] w fun e w' => e = .returned (.bool true) ∧ Below w.heap.size w w' := by
  have h5 := hT.five
  have HT := Lib.hid hT
  have HA := Lib.hid (awake_any w hT)
  have hz : ¬ (300 : Int) < (S.size : Int) := by omega
  have hz1 := decide_eq_false hz
  have HI := Lib.hid (refIs_any S (by omega))
  rw [nmB_yes hq] at HI
  have HQ := Lib.hid hq
  clear hT hq
  go_enter Tryd.func7, Tryd.ntmps7
  go_wp2_with fail
  refine HA.out.mono ?_
  rintro e w1 ⟨rfl, hb1⟩
  go_wp2_with fail
  refine (HI.out w1).mono ?_
  rintro e w2 ⟨rfl, hb2⟩
  have hbw := hb1.trans (hb2.mono hb1.size)
  clear hb1 hb2 HI HA
  obtain ⟨c, W, hcv, hcell, hsz, hbW, hc1, hc2⟩ := conv_text S (by omega) w2
  have HCH : Hid (Calls Tryd.prog 21 #[.slice (some ⟨w2.heap.size, 0, none⟩) S.size c] W fun e w' => CharsAns S.data.toList W.heap.size e w' ∧ Below W.heap.size W w') := by
    have h := refChars_any (some ⟨w2.heap.size, 0, none⟩) c S.data.toList W (lies_of hsz hcell) (by rw [← ba_size]; exact hc1) hc2 (by rw [← ba_size]; omega)
    rwa [← ba_size] at h
  have hbx := hbw.trans (hbW.mono hbw.size)
  clear hcell hsz hbW hc1 hc2 hbw
  go_wp2_with fail
  refine HCH.out.mono ?_
  rintro e w3 ⟨⟨l, v, hall, hbs, rfl, hown⟩ | ⟨hv, _⟩, hb3⟩
  rotate_left
  · rw [nm_valid HQ.out] at hv; cases hv
  have hby := hbx.trans (hb3.mono hbx.size)
  clear hbx hb3 HCH hcv
  obtain ⟨A, cap, rfl, hlc, hcm, hli, _⟩ := own_form hown
  have hnm : l ≠ [] ∧ nmL l = true := by
    have := HQ.out
    rw [hbs] at this
    exact (nm_encs hall).1 this
  have hll : l.length ≤ 300 := by have := encBs_long l; rw [← hbs, ← ba_size] at this; omega
  obtain ⟨L, hL⟩ : ∃ L, l.length = L := ⟨_, rfl⟩
  have hLL : L ≤ 300 := by omega
  have hL0 : 0 < L := by rw [← hL]; exact List.length_pos_iff.2 hnm.1
  have hLz : ((L : Int) == 0) = false := by rw [beq_eq_false_iff_ne]; omega
  obtain ⟨n, hn'⟩ : ∃ n, 1 + x % L = n := ⟨_, rfl⟩
  have hxL := Nat.mod_lt x hL0
  have hnL : n ≤ L := by omega
  have hn1 : 1 ≤ n := by omega
  have hnz : 1 + (x : Int) % (L : Int) = (n : Int) := by omega
  have hncap : (n : Int) ≤ (cap : Int) := by omega
  have hn300 : n ≤ 300 := by omega
  have HLI := Lib.hid (lies_upto n hli)
  have hallt : (l.take n).all chB = true := by
    rw [List.all_eq_true] at hall ⊢
    exact fun y hy => hall y (List.mem_of_mem_take hy)
  have htl : (l.take n).length = n := by rw [List.length_take]; omega
  have HBY : Hid (Calls Tryd.prog 22 #[.slice A n cap] w3 fun e w' => ∃ v, e = .returned v ∧ w'.ownsRow w3.heap.size 5 1 v (encBs (l.take n)).length (u8c (encBs (l.take n))) ∧ Below w3.heap.size w3 w') := by
    have h := refBytes_any A cap (l.take n) w3 HLI.out hallt (by omega)
    rwa [htl] at h
  have HNT : Hid (nm (encBs (l.take n))) := nm_take hnm.2 hn1 hnm.1
  have HNM := Lib.hid hnm
  have HBS := Lib.hid hbs
  have hTl : (encBs (l.take n)).length ≤ 1200 := by have := encBs_le (l.take n); omega
  rw [hL]
  clear hli hlc hall hbs hown hnm hL hallt htl hn' hxL HLI hll hcm
  go_wp2_with fail
  refine HBY.out.mono ?_
  rintro e w4 ⟨v, rfl, hown, hb4⟩
  have hbz := hby.trans (hb4.mono hby.size)
  obtain ⟨A', cap', rfl, hlc, hcm, hli, _⟩ := own_form hown
  have hcs := conv_lies cap' hli
  obtain ⟨T, hT⟩ : ∃ T : ByteArray, (⟨(encBs (l.take n)).toArray⟩ : ByteArray) = T := ⟨_, rfl⟩
  rw [hT] at hcs
  have hTd : T.data.toList = encBs (l.take n) := by rw [← hT]
  have hTs : T.size ≤ 1200 := by rw [ba_size, hTd]; exact hTl
  have HIT : Hid (∀ W, NTabs W → Calls Tryd.prog 15 #[.string T] W fun e w' => e = .returned (.bool true) ∧ Below W.heap.size W w') := fun W h => by
    have h1 := is_any T (by omega) W h
    rwa [hTd, nmB_yes HNT.out] at h1
  generalize (encBs (l.take n)).length = K at *
  have HCH := Lib.hid (char_any r)
  clear hT hTd hTs hTl HBY hown hli hlc hcm hby hb4 HNT
  cases hr : chB r with
  | false =>
    rw [hr] at HCH
    clear hr
    go_wp2_with fail
    refine (HCH.out w4).mono ?_
    rintro e w5 ⟨rfl, hw⟩
    rw [← hw]
    clear hw hcs
    go_wp2_with fail
    refine (HIT.out w4 (HT.out.below h5 hbz)).mono ?_
    rintro e w5 ⟨rfl, hb5⟩
    go_wp2
    go_ret
    exact ⟨rfl, hbz.trans (hb5.mono hbz.size)⟩
  | true =>
    have HR := Lib.hid hr
    rw [hr] at HCH
    obtain ⟨C, hC⟩ : ∃ C, staB r = C := ⟨_, rfl⟩
    have HST : Hid (∀ W, Calls Tryd.prog 12 #[.int .i32 r] W fun e w' => e = .returned (.bool C) ∧ w' = W) := fun W => by rw [← hC]; exact refStands_any r W
    have hCC : (C == C) = true := by simp
    obtain ⟨O, hO⟩ : ∃ O, Obj.cells (u8c (encB r)).toArray 5 = O := ⟨_, rfl⟩
    obtain ⟨M, hM⟩ : ∃ M, (encB r).length = M := ⟨_, rfl⟩
    have HON : Hid (∀ W, Calls Tryd.prog 24 #[.int .i32 r] W fun e w' => e = .returned (.slice (some ⟨W.heap.size, 0, none⟩) M M) ∧ W.alloc O = w') := fun W => by
      have h := refOne_any r hr W
      rwa [hO, hM] at h
    obtain ⟨R, hR⟩ : ∃ R : ByteArray, (⟨(encB r).toArray⟩ : ByteArray) = R := ⟨_, rfl⟩
    have HCV : Hid (∀ W : World, (convert 34 9 (.slice (some ⟨W.heap.size, 0, none⟩) M M)).run Tryd.prog (W.alloc O) = .ok (.string R) (W.alloc O)) := fun W => by
      rw [← hR, ← hM]
      exact conv_lies (B := W.heap.size + 1) (bs := encB r) (encB r).length (fun _ => ⟨W.heap.size, 0, rfl, by omega, fun j hj => by
        rw [← hO, Nat.zero_add, World.cell?_alloc_mark]; simp⟩)
    obtain ⟨J, hJ⟩ : ∃ J, S ++ R = J := ⟨_, rfl⟩
    have hJd : J.data.toList = encBs l ++ encB r := by rw [← hJ, ba_add, HBS.out, ← hR]
    have hRs : R.size ≤ 4 := by
      rw [ba_size, ← hR]
      show (encB r).length ≤ 4
      rw [encB_length]; exact (encZ_le r).2
    have hJs : J.size ≤ 304 := by rw [← hJ, ba_add_size]; omega
    have HIJ : Hid (∀ W, NTabs W → Calls Tryd.prog 15 #[.string J] W fun e w' => e = .returned (.bool C) ∧ Below W.heap.size W w') := fun W h => by
      have h1 := is_any J (by omega) W h
      have e : nmB (encBs l ++ encB r) = C := by rw [← hC, Bool.eq_iff_iff, nmB_iff]; exact nm_snoc HNM.out.1 HNM.out.2 hr
      rwa [hJd, e] at h1
    clear hr hC hO hM hR hJd
    go_wp2_with fail
    refine (HCH.out w4).mono ?_
    rintro e w5 ⟨rfl, hw⟩
    rw [← hw]
    clear hw hcs
    go_wp2_with fail
    refine (HIT.out w4 (HT.out.below h5 hbz)).mono ?_
    rintro e w5 ⟨rfl, hb5⟩
    have hb5' := hbz.trans (hb5.mono hbz.size)
    clear hbz hb5 HCH HIT
    go_wp2_with fail
    refine (HON.out w5).mono ?_
    rintro e w6 ⟨rfl, hw⟩
    rw [← hw]
    have hcs := HCV.out w5
    have hb6 := hb5'.alloc hb5'.size O
    clear hw HCV hb5' HON
    generalize w5.alloc O = w7 at *
    go_wp2_with fail
    refine (HIJ.out w7 (HT.out.below h5 hb6)).mono ?_
    rintro e w8 ⟨rfl, hb8⟩
    have hb9 := hb6.trans (hb8.mono hb6.size)
    clear hb6 hb8 hcs
    go_wp2_with fail
    refine (HST.out w8).mono ?_
    rintro e w9 ⟨rfl, hw⟩
    rw [hw]
    go_wp2
    go_ret
    exact ⟨rfl, hb9⟩
theorem shorter_law (S : ByteArray) (x : Nat) (hx : x < 256) (r : Int) (w : World) (hT : NTabs w) :
    Calls Tryd.prog 7 #[.string S, .int .u8 (x : Int), .int .i32 r] w fun e w' => e = .returned (.bool true) ∧ Below w.heap.size w w' := by
  by_cases hn : 300 < S.size
  · exact shorter_out S x r w hT (.inl hn)
  · cases hq : nmB S.data.toList with
    | false => exact shorter_out S x r w hT (.inr ⟨by omega, hq⟩)
    | true => exact shorter_in S x hx r w hT (by omega) (nmB_iff.1 hq)
theorem shorter_num (S : ByteArray) (x : Int) (hx : (Lit.int .u8 x).wf = true) (r : Int) (w : World) (hT : NTabs w) :
    Calls Tryd.prog 7 #[.string S, .int .u8 x, .int .i32 r] w fun e w' => e = .returned (.bool true) ∧ Below w.heap.size w w' := by
  simp [Lit.wf, IntKind.min, IntKind.max, IntKind.signed, IntKind.bits] at hx
  obtain ⟨n, rfl⟩ : ∃ n : Nat, x = (n : Int) := ⟨x.toNat, by omega⟩
  exact shorter_law S n (by omega) r w hT
end Go.Proofs.YthgffefdgjglmaaDoor
