/-
  running.take: more bytes are taken in. Conditions: the tables lie as they were laid; the bytes lie elsewhere; there are not too many.
-/
import Derived.Test.YtlndjmpopoihnaaDoorMix
import Derived.Test.YtlndjmpopoihnaaDoorPureSt
import Derived.Laws.CopyOwn
namespace Go.Proofs.YtlndjmpopoihnaaDoor
open Go.RowKit
/-- These bytes lie at an address outside block R (where there are any). -/
def At8 (w : World) (R : Nat) (A : Option Addr) (l : List UInt8) : Prop := l ≠ [] → ∃ b o, A = some ⟨b, o, none⟩ ∧ b ≠ R ∧ b < w.heap.size ∧ w.rangeAt b o (u8c l)
theorem At8.one {w w' : World} {R : Nat} {A : Option Addr} {l : List UInt8} (h : At8 w R A l) (hg : w.grownBy w' (some R)) : At8 w' R A l := fun hl => by
  obtain ⟨b, o, e, hb, hlt, hr⟩ := h hl
  exact ⟨b, o, e, hb, Nat.lt_of_lt_of_le hlt hg.size, range_keep hr (hg.block b hlt (fun e => hb (by injection e)))⟩
theorem At8.cut {w : World} {R : Nat} {A : Option Addr} {l : List UInt8} (h : At8 w R A l) {k cap : Nat} (hk : k ≤ l.length) (hc : l.length ≤ cap) : At8 w R (if cap = k then A else A.map (·.add k)) (l.drop k) := fun hl => by
  have hlt : k < l.length := by
    rcases Nat.lt_or_ge k l.length with h1 | h1
    · exact h1
    · exact absurd (List.drop_of_length_le h1) hl
  obtain ⟨b, o, e, hb, hlt', hr⟩ := h (fun e => by subst e; simp at hlt)
  rw [if_neg (by omega), e]
  refine ⟨b, o + k, by simp [Addr.add], hb, hlt', fun j v hv => ?_⟩
  have hj : j < l.length - k := by
    have := (List.getElem?_eq_some_iff.1 hv).1
    rwa [u8c_length, List.length_drop] at this
  rw [Nat.add_assoc]
  refine hr (k + j) v ?_
  rw [← hv, u8c_at (by omega), u8c_at (by rw [List.length_drop]; exact hj), List.getD_eq_getElem?_getD, List.getD_eq_getElem?_getD, List.getElem?_drop]
/-- Block R is a sum on its way, behind these bytes. -/
def Sta (w : World) (R : Nat) (bs : List UInt8) : Prop := ∃ s q, St bs s q ∧ Holds w R 47 (cellsR s q bs.length)
/-- How long a slice is. -/
def lenOf : Value → Nat | .slice _ n _ => n | _ => 0
def TK (R : Nat) (bs p : List UInt8) (w : World) (v : Value) (wr : World) : Prop :=
  ∃ (x r : List UInt8) (A : Option Addr) (cap : Nat), p = x ++ r ∧ v = .slice A r.length cap ∧ r.length ≤ cap ∧ cap ≤ 9223372036854775807 ∧ At8 wr R A r ∧ Sta wr R (bs ++ x) ∧ Tabs wr ∧ w.grownBy wr (some R)
theorem cellsR_over (s : S8) {q x : List UInt8} {d : Nat} (n : Nat) (hq : q.length = 64) (hd : d + x.length ≤ 64) :
    (cellsR s q n).take (8 + d) ++ (u8c x ++ (cellsR s q n).drop (8 + d + (u8c x).length)) = cellsR s (over q d x) n := by
  have h8 : (u32c (lst s)).length = 8 := by simp [u32c_length, lst]
  unfold cellsR over
  rw [List.take_append, List.take_of_length_le (by omega), h8, List.drop_append, List.drop_of_length_le (by omega), h8, List.nil_append, u8c_length,
    List.take_append_of_le_length (by rw [u8c_length]; omega), List.drop_append_of_le_length (by rw [u8c_length]; omega), u8c_append, u8c_append]
  have e1 : 8 + d - 8 = d := by omega
  have e2 : 8 + d + x.length - 8 = d + x.length := by omega
  rw [e1, e2]
  have t1 : (u8c q).take d = u8c (q.take d) := by simp [u8c]
  have t2 : (u8c q).drop (d + x.length) = u8c (q.drop (d + x.length)) := by simp [u8c]
  rw [t1, t2]
  simp only [List.append_assoc]
theorem cellsR_setLen (s : S8) {q : List UInt8} (n m : Nat) (hq : q.length = 64) : (cellsR s q n).set 72 (.int .u64 (m : Int)) = cellsR s q m := by
  have h8 : (u32c (lst s)).length = 8 := by simp [u32c_length, lst]
  unfold cellsR
  rw [List.set_append_right _ _ (by omega), List.set_append_right _ _ (by rw [u8c_length]; omega), h8, u8c_length, hq]
  rfl
theorem Addr_add_none (b o j : Nat) : (⟨b, o, none⟩ : Addr).add j = ⟨b, o + j, none⟩ := by unfold Addr.add; split <;> simp_all
theorem slice_from {A : Option Addr} {len cap m : Nat} (hm : m ≤ len) (W : World) : (Instr.slice 22 (.slice A len cap) (some (.int .i64 (m : Int))) none none).run Tryd.prog W = .ok (.slice (if cap = m then A else A.map (·.add m)) (len - m) (cap - m)) W := by
  have hs : ∀ w, (sizeOf 5).run Tryd.prog w = .ok 1 w := fun w => by kernel_rfl
  have h1 : (m : Int) ≤ (len : Int) := by omega
  simp [Instr.slice, run_underlying Tryd.underlying22, Instr.sliceBounds, Instr.sliceBound, asIntOf, hs, hm]
set_option maxHeartbeats 2000000 in
theorem take_any (R : Nat) (bs p : List UInt8) (A : Option Addr) (cap : Nat) (w : World) (hc : p.length ≤ cap) (hcm : cap ≤ 9223372036854775807) (hA : At8 w R A p) (hS : Sta w R bs) (hT : Tabs w) (h2 : 2 ≤ R) (hn : bs.length + p.length ≤ 1152921504606846976) :
    Calls Tryd.prog 20 #[.pointer (some ⟨R, 0, none⟩), .slice A p.length cap] w fun e w' => e = .returned (.tuple #[]) ∧ Sta w' R (bs ++ p) ∧ w.grownBy w' (some R) := by
  have HR : Hid (TK R bs p w (.slice A p.length cap) w) := ⟨[], p, A, cap, rfl, rfl, hc, hcm, hA, by simpa using hS, hT, one_refl w _⟩
  clear hc hcm hA hS hT
  go_enter Tryd.func20, Tryd.ntmps20
  go_wp2
  go_loopw [1] (TK R bs p w) (fun v _ => lenOf v)
  case atStart => exact HR.out
  case round =>
    clear HR
    obtain ⟨x, r, A, cap, hp, rfl, hc, hcm, hA, hS, hT, hg⟩ := hrel
    by_cases hr : r = []
    · have hz : r.length = 0 := by rw [hr]; rfl
      have HSx : Hid (Sta wr R (bs ++ p)) := by rw [hp, hr, List.append_nil]; exact hS
      clear hp hr hA hS hT
      go_wp2
      go_end0
      exact ⟨rfl, HSx.out, hg⟩
    · obtain ⟨s, q, hst, hR⟩ := hS
      obtain ⟨b, o, rfl, hbR, hblt, hrange⟩ := hA hr
      obtain ⟨N, hN⟩ : ∃ N, (bs ++ x).length = N := ⟨_, rfl⟩
      have hr0 : 0 < r.length := List.length_pos_iff.2 hr
      have hN1 : N + r.length ≤ 1152921504606846976 := by rw [← hN, List.length_append]; rw [hp, List.length_append] at hn; omega
      rw [hN] at hR
      obtain ⟨d, hdN⟩ : ∃ d, N % 64 = d := ⟨_, rfl⟩
      have hd : d < 64 := by omega
      have ht : (N : Int).tmod 64 = (d : Int) := by rw [Int.tmod_eq_emod_of_nonneg (by omega)]; omega
      obtain ⟨m, hm⟩ : ∃ m, Nat.min r.length (64 - d) = m := ⟨_, rfl⟩
      have hm1 : m ≤ r.length := by rw [← hm]; exact Nat.min_le_left _ _
      have hm2 : m ≤ 64 - d := by rw [← hm]; exact Nat.min_le_right _ _
      have hm3 : m = r.length ∨ m = 64 - d := by
        rw [← hm]
        rcases Nat.le_total r.length (64 - d) with h | h
        · exact .inl (Nat.min_eq_left h)
        · exact .inr (Nat.min_eq_right h)
      have hm0 : 0 < m := by omega
      have cl : wr.cell? ⟨R, 72, none⟩ = some (.int .u64 (N : Int)) := (hR.cell 72).trans (cellsR_len s N hst.len)
      have HP := Lib.hid hp
      have HST := Lib.hid hst
      have HR := Lib.hid hR
      have HNN := Lib.hid hN
      have HM := Lib.hid hm
      have HRG := Lib.hid hrange
      have HM3 := Lib.hid hm3
      clear hp hst hR hN hm hrange hA hr hm3
      have HDN := Lib.hid hdN
      clear hdN
      have w4 : ¬ (64 = d) := by omega
      have w6 : d ≤ 64 := by omega
      have w7 : (d : Int) ≤ 64 := by omega
      have hrz : (0 : Int) < (r.length : Int) := by omega
      go_wp2
      go_still_tail 10, (by kernel_rfl)
      change wpList _ _ _ _ _ wr.drew
      obtain ⟨y, hy⟩ : ∃ y, r.take m = y := ⟨_, rfl⟩
      have hyl : (u8c y).length = m := by rw [u8c_length, ← hy, List.length_take]; omega
      refine wpList_copy_own rfl (.tmp 16) (.tmp 17) 22 22 rfl 5 Tryd.underlying22 (by kernel_rfl) R (8 + d) (64 - d) (64 - d) ⟨b, o, none⟩ r.length cap rfl rfl (cellsR s q N).toArray 47 HR.out (u8c y) (hyl.trans HM.out.symm) ?h1 ?h2 ?h3 ?_
      case h1 =>
        intro j v hv
        rw [Addr_add_none]
        refine HRG.out j v ?_
        have hj : j < m := by have := (List.getElem?_eq_some_iff.1 hv).1; omega
        rw [← hv, ← hy, u8c_at (by omega), u8c_at (by rw [List.length_take]; omega), List.getD_eq_getElem?_getD, List.getD_eq_getElem?_getD, List.getElem?_take_of_lt hj]
      case h2 => rw [hyl, List.size_toArray, cellsR_length HST.out.len]; omega
      case h3 => intro v hv; simp [u8c] at hv; obtain ⟨z, _, rfl⟩ := hv; rfl
      rw [cellsR_over s N HST.out.len (by rw [u8c_length] at hyl; omega), hyl]
      have hR3 := (HR.out.drew).row (cellsR s (over q d y) N)
      have hg3 := one_row (one_drewN hg 1) (.inl rfl) (cellsR s (over q d y) N).toArray
      change w.grownBy (wr.drew.setRow R (cellsR s (over q d y) N).toArray) (some R) at hg3
      have hg4 := one_row (one_drewN (one_refl wr (some R)) 1) (.inl rfl) (cellsR s (over q d y) N).toArray
      change wr.grownBy (wr.drew.setRow R (cellsR s (over q d y) N).toArray) (some R) at hg4
      have hT3 := hT.one hg4 h2
      have hA3 := ((show At8 wr R (some ⟨b, o, none⟩) r from fun _ => ⟨b, o, rfl, hbR, hblt, HRG.out⟩).one hg4).cut hm1 hc
      clear HRG HR HM hT hg hg4 cl ht hblt
      generalize wr.drew.setRow R (cellsR s (over q d y) N).toArray = w3 at *
      have hsl := slice_from (A := some ⟨b, o, none⟩) (cap := cap) hm1
      generalize (if cap = m then some (⟨b, o, none⟩ : Addr) else (some (⟨b, o, none⟩ : Addr)).map (·.add m)) = A3 at *
      have hov : (over q d y).length = 64 := over_length HST.out.len (by rw [u8c_length] at hyl; omega)
      have hyl' : y.length = m := by rw [← u8c_length]; exact hyl
      have c72 : w3.cell? ⟨R, 72, none⟩ = some (.int .u64 (N : Int)) := (hR3.cell 72).trans (cellsR_len s N hov)
      have f72 : w3.frozen? ⟨R, 72, none⟩ = false := hR3.soft 72
      have hR4 : Holds (w3.setCell ⟨R, 72, none⟩ (.int .u64 ((N : Int) + (m : Int)))) R 47 (cellsR s (over q d y) (N + m)) := by
        have := hR3.put 72 (.int .u64 ((N : Int) + (m : Int)))
        rw [← Int.natCast_add, cellsR_setLen s N (N + m) hov] at this
        exact this
      have hg4 := one_put hg3 (p := ⟨R, 72, none⟩) (.inl rfl) (.int .u64 ((N : Int) + (m : Int)))
      have hg5 := one_put (one_refl w3 (some R)) (p := ⟨R, 72, none⟩) (.inl rfl) (.int .u64 ((N : Int) + (m : Int)))
      have hT4 := hT3.one hg5 h2
      have hA4 := hA3.one hg5
      have hNm : (bs ++ (x ++ y)).length = N + m := by rw [← List.append_assoc, List.length_append, HNN.out, hyl']
      have hxy : p = (x ++ y) ++ r.drop m := by rw [HP.out, List.append_assoc, ← hy, List.take_append_drop]
      have hdl : (r.drop m).length = r.length - m := List.length_drop
      have HHG := Lib.hid hg4
      have HHT := Lib.hid hT4
      have HHA := Lib.hid hA4
      have HHR := Lib.hid hR4
      have HXY := Lib.hid hxy
      have HDL := Lib.hid hdl
      have HNM := Lib.hid hNm
      have HOV := Lib.hid hov
      have HYL := Lib.hid hyl'
      clear hg3 hT3 hA3 hR3 hg4 hg5 hT4 hA4 hR4 hxy hdl hNm hov hyl hyl' hy hbR hn
      have hDN := HDN.out
      by_cases hfull : d + m = 64
      · have htest : (((N : Int) + (m : Int)) % 64 == 0) = true := by simp; omega
        have HX : Hid (Holds (w3.setCell ⟨R, 72, none⟩ (.int .u64 ((N : Int) + (m : Int)))) R 47 (cellsR s (over q d y) (N + m))) := HHR.out
        have HMIX := Lib.hid (mix_any R s (over q d y) (N + m) HOV.out _ HHR.out HHT.out)
        clear hDN
        go_wp2_with (go_at_call 26; ((with_reducible refine HMIX.out.mono ?_); rintro e w5 ⟨rfl, hR5, hg5⟩))
        go_roundw
        case rel =>
          refine ⟨x ++ y, r.drop m, A3, cap - m, HXY.out, by rw [HDL.out], by rw [HDL.out]; omega, by omega, HHA.out.one hg5, ?_, HHT.out.one hg5 h2, one_trans HHG.out hg5⟩
          refine ⟨_, _, ?_, by rw [HNM.out]; exact hR5⟩
          have := HST.out.full (x := y) (by rw [HNN.out, HDN.out, HYL.out]; exact hfull)
          rw [HNN.out, HDN.out] at this
          rw [← List.append_assoc]; exact this
        case measure => simp [lenOf]; omega
      · have htest : (((N : Int) + (m : Int)) % 64 == 0) = false := by simp; omega
        clear hDN
        go_wp2
        go_roundw
        case rel =>
          refine ⟨x ++ y, r.drop m, A3, cap - m, HXY.out, by rw [HDL.out], by rw [HDL.out]; omega, by omega, HHA.out, ?_, HHT.out, HHG.out⟩
          refine ⟨_, _, ?_, by rw [HNM.out]; exact HHR.out⟩
          have := HST.out.few (x := y) (by rw [HNN.out, HDN.out, HYL.out]; omega)
          rw [HNN.out, HDN.out] at this
          rw [← List.append_assoc]; exact this
        case measure => simp [lenOf]; omega
end Go.Proofs.YtlndjmpopoihnaaDoor
