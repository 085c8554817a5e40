/-
  The document's key: 64 bytes, each xored with one. Conditions: the key is not too long.
-/
import Derived.Test.YtlndjmpopoihnaaDoorAppK
import Derived.Test.YtlndjmpopoihnaaDoorOf
import Derived.Test.YtlndjmpopoihnaaDoorRSum
namespace Go.Proofs.YtlndjmpopoihnaaDoor
open Go.RowKit
set_option linter.unusedVariables false
attribute [local go_sem] v_xor
/-- The slice v is the call's own, these are its bytes; nothing below has turned. -/
structure OW (B : Nat) (w : World) (l : List UInt8) (v : Value) (wr : World) : Prop where
  own : wr.ownsRow B 5 1 v l.length (u8c l)
  bl : Below w.heap.size w wr
  wb : w.heap.size ≤ B
  bs : B ≤ wr.heap.size
theorem own_alloc {w : World} {B n : Nat} {v : Value} {xs : List Value} (h : w.ownsRow B 5 1 v n xs) (O : Obj) : (w.alloc O).ownsRow B 5 1 v n xs := h.alloc O
theorem OW.next {B : Nat} {w wr w' : World} {l l' : List UInt8} {v v' : Value} (h : OW B w l v wr) (ho : w'.ownsRow B 5 1 v' l'.length (u8c l')) (hg : wr.grownBy w' v.ownBlock) : OW B w l' v' w' :=
  ⟨ho, h.bl.trans ((below_own h.own hg h.bs).mono h.wb), h.wb, Nat.le_trans h.bs hg.size⟩
theorem OW.alloc {B : Nat} {w wr : World} {l : List UInt8} {v : Value} (h : OW B w l v wr) (O : Obj) : OW B w l v (wr.alloc O) :=
  ⟨h.own.alloc O, h.bl.alloc h.bl.size O, h.wb, by have := h.bs; simp; omega⟩
/-- A key and so many noughts. -/
def KJ (B : Nat) (h : List UInt8) (w : World) (v : Value) (wr : World) : Prop := ∃ j : Nat, h.length + j ≤ 64 ∧ OW B w (h ++ List.replicate j 0) v wr
def KX (g c : Nat) (K : List UInt8) (x : UInt8) (w : World) (i : Value) (wr : World) : Prop :=
  ∃ (k : Nat) (cur : List Value), k ≤ 64 ∧ i = .int .i64 k ∧ Holds wr g 5 cur ∧ cur.length = c ∧ cur.take 64 = u8c (mxk K x k) ∧ Below w.heap.size w wr
set_option maxHeartbeats 2000000 in
set_option maxRecDepth 100000 in
theorem rkey_any (A : Option Addr) (key : List UInt8) (cap : Nat) (x : UInt8) (z : Int) (hzx : z = v8 x) (w : World) (hA : Lies w A key) (hc : key.length ≤ cap) (hcm : cap ≤ 9223372036854775807) (hA0 : A = none → cap = 0) (hn : key.length ≤ 1000000) :
    Calls Tryd.prog 14 #[.slice A key.length cap, .int .u8 z] w fun e w' => ∃ v, e = .returned v ∧ w'.ownsRow w.heap.size 5 1 v 64 (u8c (mx (keyB key) x)) ∧ Below w.heap.size w w' := by
  subst hzx
  obtain ⟨H, hH⟩ : ∃ H, keyH key = H := ⟨_, rfl⟩
  have hHl : H.length ≤ 64 := by rw [← hH]; exact keyH_le key
  obtain ⟨K, hK⟩ : ∃ K, keyB key = K := ⟨_, rfl⟩
  have hKL : K.length = 64 := by rw [← hK]; exact keyB_length key
  have hKH : H ++ List.replicate (64 - H.length) 0 = K := by rw [← hK, ← hH]; rfl
  have HKH := Lib.hid hKH
  have HKL := Lib.hid hKL
  have HK := Lib.hid hK
  have HA0 := Lib.hid hA0
  have HLA := Lib.hid hA
  have HRS := Lib.hid (rsum_any A key cap w hc hcm hA0 hn hA)
  obtain ⟨n, hN⟩ : ∃ n, key.length = n := ⟨_, rfl⟩
  have HKS : Hid (n ≤ 64 → key = H) := fun h => by rw [← hH, keyH_short (by omega)]
  have HKG : Hid (64 < n → sha key = H) := fun h => by rw [← hH, keyH_long (by omega)]
  rw [hN] at HRS hn hc ⊢
  have HN := Lib.hid hN
  clear hN hH hK hKH hKL hA0 hA
  by_cases hbig : 64 < n
  all_goals
    first
      | (have hd : (64 : Int) < (n : Int) := by omega
         have hsk := HKG.out hbig
         rw [hsk] at HRS
         have HHL : Hid (H.length = 32) := by unfold Hid; rw [← hsk]; rfl
         have HI32 := Lib.hid (info32 HHL.out)
         have HZ32 := Lib.hid (size_of HHL.out)
         clear hsk HKS HKG HLA HA0
         go_enter Tryd.func14, Tryd.ntmps14
         go_wp2_with fail
         refine HRS.out.mono ?_
         rintro e w1 ⟨rfl, hb1⟩
         have HK1 : Hid (Kept [] w w1) := (Kept.start w).below hb1 (Nat.le_refl _)
         clear HRS hb1
         go_upto_region 3 with (refine store_row_as rfl 25 (.tmp 5) (.tmp 12) rfl w1.heap.size _ rfl rfl 25 _ (heap_alloc_last _ _) HI32.out (HZ32.out _ rfl) (u8c_one _) (Kept [(w1.heap.size, 25, u8c H)] w) (HK1.out.set _ _ _) ?_; intro w2 hK2)
         generalize w1.heap.size = G at *
         clear w1 HK1 HI32 HZ32
         have HLI : Hid (∀ O, Lies (w2.alloc O) (some ⟨G, 0, none⟩) H) := fun O => (hK2.lies (.head _)).below ((Below.refl w2.heap.size w2).alloc (Nat.le_refl _) O) (Nat.le_refl _)
         have HOW : Hid (OW w2.heap.size w [] (.slice (some ⟨w2.heap.size, 0, none⟩) 0 0) (w2.alloc (.cells #[] 5))) := ⟨own_new w2 [] (by simp), hK2.bl.alloc hK2.bl.size _, hK2.bl.size, by simp⟩
         have hHn := HHL.out
         clear hK2
         have HL2 : Hid (([] : List UInt8).length + 32 ≤ 1000000000000) := by unfold Hid; simp
         go_upto_region 5 with (refine app_list rfl (.tmp 14) (.tmp 15) rfl w2.heap.size [] _ rfl HOW.out.own HOW.out.bs (some ⟨G, 0, none⟩) 32 32 H rfl HHL.out (fun h => by cases h) (HLI.out _) HL2.out ?_; intro v3 w3 hO3 hg3)
         clear HHL)
      | (have hd : ¬ (64 : Int) < (n : Int) := by omega
         have hd1 := decide_eq_false hd
         have hd2 := decide_eq_false hbig
         have hsk := HKS.out (by omega)
         have HHL : Hid (H.length = n) := by unfold Hid; rw [← hsk]; exact HN.out
         have HLI : Hid (∀ O, Lies (w.alloc O) A H) := fun O => by
           rw [← hsk]; exact HLA.out.below ((Below.refl w.heap.size w).alloc (Nat.le_refl _) O) (Nat.le_refl _)
         have HOW : Hid (OW w.heap.size w [] (.slice (some ⟨w.heap.size, 0, none⟩) 0 0) (w.alloc (.cells #[] 5))) := ⟨own_new w [] (by simp), (Below.refl _ _).alloc (Nat.le_refl _) _, Nat.le_refl _, by simp⟩
         clear hsk HKS HKG HLA HRS
         have hHn := HHL.out
         have HL2 : Hid (([] : List UInt8).length + n ≤ 1000000000000) := by unfold Hid; simp; omega
         go_enter Tryd.func14, Tryd.ntmps14
         go_upto_region 5 with (refine app_list rfl (.tmp 14) (.tmp 15) rfl w.heap.size [] _ rfl HOW.out.own HOW.out.bs A n cap H rfl HHL.out HA0.out (HLI.out _) HL2.out ?_; intro v3 w3 hO3 hg3)
         clear HHL)
    have hO3' := HOW.out.next hO3 hg3
    rw [List.nil_append] at hO3'
    clear hO3 hg3 HLI
    obtain ⟨Bk, hBk⟩ : ∃ Bk, OW Bk w H v3 w3 := ⟨_, hO3'⟩
    have HKJ : Hid (KJ Bk H w v3 w3) := ⟨0, by omega, by simpa using hBk⟩
    clear hO3' hBk HOW HL2
    obtain ⟨p, hp⟩ : ∃ p, H.length = p := ⟨_, rfl⟩
    have HP := Lib.hid hp
    have hp64 : p ≤ 64 := by omega
    clear hp hHn
    go_loopw [6] (KJ Bk H w) (fun v _ => 64 - lenOf v)
    case atStart => exact HKJ.out
    case round =>
      clear HKJ
      obtain ⟨j, hj, hO⟩ := hrel
      rw [HP.out] at hj
      have hlen : (H ++ List.replicate j (0 : UInt8)).length = p + j := by rw [List.length_append, List.length_replicate, HP.out]
      obtain ⟨A', cap', rfl, hle, hcm', _, _⟩ := own_form hO.own
      rw [hlen] at hle ⊢
      have HO := Lib.hid hO
      have HLN := Lib.hid hlen
      rw [hlen] at HO
      by_cases hjz : p + j < 64
      · have hcat : H ++ List.replicate (j + 1) (0 : UInt8) = (H ++ List.replicate j 0) ++ [0] := by rw [List.replicate_succ', List.append_assoc]
        have HCAT := Lib.hid hcat
        have HL3 : Hid ((H ++ List.replicate j (0 : UInt8)).length + 1 ≤ 1000000000000) := by unfold Hid; rw [hlen]; omega
        have HLZ : Hid (Lies (wr.alloc (.cells #[.int .u8 0] 5)) (some ⟨wr.heap.size, 0, none⟩) [0]) := fun _ => ⟨_, _, rfl, by simp, fun i v hv => by rw [Nat.zero_add, cell_of_row _ _ i _ _ _ (heap_alloc_last _ _)]; exact List.getElem?_toArray.trans hv⟩
        have ht1 : (p : Int) + (j : Int) < 64 := by omega
        clear hcat hlen hO
        go_wp2_with (refine app_list rfl (.tmp 20) (.tmp 21) rfl Bk (H ++ List.replicate j 0) _ rfl (HO.out.alloc _).own (HO.out.alloc _).bs (some ⟨wr.heap.size, 0, none⟩) 1 1 [0] rfl rfl (fun h => by cases h) HLZ.out HL3.out ?_; intro v4 w4 hO4 hg4)
        go_roundw
        case rel => exact ⟨j + 1, by rw [HP.out]; omega, by rw [HCAT.out]; exact (HO.out.alloc _).next hO4 hg4⟩
        case measure =>
          obtain ⟨A4, cap4, rfl, _, _, _, _⟩ := own_form hO4
          simp [lenOf, HP.out]; omega
      · have hpj : p + j = 64 := by omega
        have hHK : H ++ List.replicate j (0 : UInt8) = K := by rw [← HKH.out, HP.out, show 64 - p = j by omega]
        have hbO := hO.bl
        have hwB := hO.wb
        obtain ⟨_, h0 | ⟨g, cc, cur, hv, hg, hh, hnn, hcc, hsz, ht⟩⟩ := hO.own
        · exact absurd h0.2 (by rw [hlen]; omega)
        injection hv with hv1 hv2 hv3
        subst hv1 hv3
        rw [hlen, hpj] at hnn
        rw [hlen, hpj, hHK, Nat.mul_one] at ht
        rw [hpj]
        have HKX : Hid (KX g cap' K x w (.int .i64 0) wr) := by
          refine ⟨0, cur.toList, by omega, rfl, by unfold Holds; simpa using hh, by simpa using hsz, ?_, hbO⟩
          rw [ht]
          simp [mxk, mx]
        have hwg : w.heap.size ≤ g := by omega
        have HCC := Lib.hid hcc
        clear hO HO hlen HLN hh hsz ht hHK hbO hwB hg hcc hle hv2 hcm'
        go_wp2
        go_loopw [25] (KX g cap' K x w) (fun i _ => 64 - (intOf i).toNat)
        case atStart => exact HKX.out
        case round =>
          clear HKX
          obtain ⟨k, cur, hk, rfl, hH, hcl, ht, hb⟩ := hrel
          by_cases hlt : k < 64
          · have c0 : wr.cell? ⟨g, k, none⟩ = some (.int .u8 (v8 (K.getD k 0))) := by
              rw [hH.cell, ← List.getElem?_take_of_lt hlt, ht, u8c_at (by rw [mxk_length, HKL.out]; exact hlt), mxk_at (by rw [HKL.out]; exact hlt)]
            have f0 : ∀ i, wr.frozen? ⟨g, i, none⟩ = false := hH.soft
            have hnx := mxk_next (x := x) (show k < K.length by rw [HKL.out]; exact hlt)
            generalize K.getD k 0 = c at *
            have hki : (k : Int) < 64 := by omega
            have HH := Lib.hid hH
            have HCL := Lib.hid hcl
            have HTK := Lib.hid ht
            have HNX := Lib.hid hnx
            clear hH hcl ht hnx
            go_wp2
            go_roundw
            case rel =>
              refine ⟨k + 1, cur.set k (.int .u8 (v8 (c ^^^ x))), by omega, by go_num, HH.out.put _ _, by rw [List.length_set]; exact HCL.out, ?_, hb.setCell hwg _⟩
              rw [List.take_set, HTK.out, u8c_set, HNX.out]
            case measure => simp [intOf]; omega
          · have hk64 : k = 64 := by omega
            have hd7 : decide ((k : Int) < 64) = false := by simp; omega
            have hd8 : decide (k < 64) = false := by simp; omega
            have hmk : mxk K x k = mx (keyB key) x := by
              rw [HK.out]; unfold mxk
              rw [List.take_of_length_le (by rw [HKL.out]; omega), List.drop_of_length_le (by rw [HKL.out]; omega), List.append_nil]
            rw [hmk] at ht
            have HO : Hid (wr.ownsRow w.heap.size 5 1 (.slice (some ⟨g, 0, none⟩) 64 cap') 64 (u8c (mx (keyB key) x))) :=
              ⟨by rw [u8c_length, mx_length, keyB_length], .inr ⟨g, cap', cur.toArray, rfl, hwg, hH, hnn, HCC.out, by rw [List.size_toArray, hcl]; omega, by simpa using ht⟩⟩
            clear hmk ht hH hcl hk64
            go_wp2
            go_ret
            exact ⟨_, rfl, HO.out, hb⟩
end Go.Proofs.YtlndjmpopoihnaaDoor
