/-
  The document's own sum. Conditions: there are not too many bytes.
-/
import Derived.Test.YtlndjmpopoihnaaDoorRBlock
import Derived.Test.YtlndjmpopoihnaaDoorRApp
import Derived.Test.YtlndjmpopoihnaaDoorPad
import Derived.Test.YtlndjmpopoihnaaDoorFin
namespace Go.Proofs.YtlndjmpopoihnaaDoor
open Go.RowKit
set_option linter.unusedVariables false
/-- Bytes, 80, and so many noughts. -/
def S1 (N : Nat) (bs : List UInt8) (z : Nat) (w : World) (v : Value) (wr : World) : Prop := ∃ j : Nat, j ≤ z ∧ OB N w (bs ++ (128 :: List.replicate j 0)) v wr
def S2 (N : Nat) (bs : List UInt8) (z L : Nat) (w : World) (v i : Value) (wr : World) : Prop := ∃ k : Nat, k ≤ 8 ∧ i = .int .i64 k ∧ OB N w (bs ++ pre z L k) v wr
theorem pre_z (z n : Nat) : pre z n 0 = 128 :: List.replicate z 0 := by simp [pre]
theorem pre_snoc (z : Nat) : (128 : UInt8) :: List.replicate (z + 1) 0 = (128 :: List.replicate z 0) ++ [0] := by
  rw [List.cons_append, List.replicate_succ']
/-- The words so far, all bytes, room for the answer. -/
structure R3 (N H b o : Nat) (all : List UInt8) (h : S8) (w wr : World) : Prop where
  hb : Holds wr H 42 (u32c (lst h))
  ra : wr.rangeAt b o (u8c all)
  bh : b < H
  rs : ∃ z, Holds wr N 25 z ∧ z.length = 32
  bl : Below N w wr
  nh : N < H
def S3 (N H b o : Nat) (all : List UInt8) (M : Nat) (w : World) (i : Value) (wr : World) : Prop := ∃ c l : Nat, l ≤ M ∧ l = 64 * c ∧ i = .int .i64 l ∧ R3 N H b o all (blks all c) w wr
def S4 (N H O : Nat) (s : S8) (w : World) (i : Value) (wr : World) : Prop :=
  ∃ (k : Nat) (l : List Value), k ≤ 32 ∧ i = .int .i64 k ∧ Holds wr O 25 l ∧ l.length = 32 ∧ l.take k = (u8c (out s)).take k ∧ Holds wr H 42 (u32c (lst s)) ∧ (∃ z, Holds wr N 25 z ∧ z.length = 32) ∧ Below N w wr ∧ H < O ∧ N < H
theorem byte_at (x : UInt32) {r : Nat} (h : r < 4) : u x / 2 ^ (24 - 8 * r) % 256 = v8 ((bytes4 x).getD r 0) := by
  have hr : r = 0 ∨ r = 1 ∨ r = 2 ∨ r = 3 := by omega
  rcases hr with rfl | rfl | rfl | rfl
  · exact (congrArg (· % 256) (show u x / 2 ^ (24 - 8 * 0) = u (x >>> 24) from u_shr x 24 (by decide))).trans (u_byte' _)
  · exact (congrArg (· % 256) (show u x / 2 ^ (24 - 8 * 1) = u (x >>> 16) from u_shr x 16 (by decide))).trans (u_byte' _)
  · exact (congrArg (· % 256) (show u x / 2 ^ (24 - 8 * 2) = u (x >>> 8) from u_shr x 8 (by decide))).trans (u_byte' _)
  · exact (congrArg (· % 256) (show u x / 2 ^ (24 - 8 * 3) = u x from Int.ediv_one _)).trans (u_byte' _)
theorem out_get (s : S8) {i r : Nat} (hi : i < 8) (hr : r < 4) : (out s)[4 * i + r]? = some ((bytes4 ((lst s).getD i 0)).getD r 0) := by
  have h1 : i = 0 ∨ i = 1 ∨ i = 2 ∨ i = 3 ∨ i = 4 ∨ i = 5 ∨ i = 6 ∨ i = 7 := by omega
  have h2 : r = 0 ∨ r = 1 ∨ r = 2 ∨ r = 3 := by omega
  rcases h1 with rfl | rfl | rfl | rfl | rfl | rfl | rfl | rfl <;> rcases h2 with rfl | rfl | rfl | rfl <;> rfl
theorem out_at (s : S8) {k : Nat} (h : k < 32) : (u8c (out s))[k]? = some (.int .u8 (u ((lst s).getD (k / 4) 0) / 2 ^ (24 - 8 * (k % 4)) % 256)) := by
  have e : k = 4 * (k / 4) + k % 4 := by omega
  rw [byte_at _ (show k % 4 < 4 by omega)]
  have := out_get s (i := k / 4) (r := k % 4) (by omega) (by omega)
  rw [← e] at this
  simp only [u8c, List.getElem?_map, this, Option.map_some]
theorem size8 (t : S8) : (u32c (lst t)).toArray.size = 8 := rfl
theorem slice_mid {b o len cap l : Nat} (h1 : l + 64 ≤ len) (h2 : len ≤ cap) (W : World) : (Instr.slice 22 (.slice (some ⟨b, o, none⟩) len cap) (some (.int .i64 (l : Int))) (some (.int .i64 ((l : Int) + 64))) none).run Tryd.prog W = .ok (.slice (some ⟨b, o + l, none⟩) 64 (cap - l)) W := by
  have hs : ∀ w, (sizeOf 5).run Tryd.prog w = .ok 1 w := fun w => by kernel_rfl
  have g1 : 0 ≤ (l : Int) + 64 ∧ (l : Int) + 64 ≤ (cap : Int) := by omega
  have g2 : (l : Int) ≤ (l : Int) + 64 := by omega
  have g3 : ((l : Int) + 64).toNat = l + 64 := by omega
  have g4 : ¬ cap = l := by omega
  have g5 : l + 64 - l = 64 := by omega
  simp [Instr.slice, run_underlying Tryd.underlying22, Instr.sliceBounds, Instr.sliceBound, asIntOf, hs, g1, g3, g4, g5, Addr_add_none]
set_option maxHeartbeats 2000000 in
theorem rsum_any (A : Option Addr) (bs : List UInt8) (cap : Nat) (w : World) (hc : bs.length ≤ cap) (hcm : cap ≤ 9223372036854775807) (hA0 : A = none → cap = 0) (hn : bs.length ≤ 1000000)
    (hA : bs ≠ [] → ∃ b o, A = some ⟨b, o, none⟩ ∧ b < w.heap.size ∧ w.rangeAt b o (u8c bs)) :
    Calls Tryd.prog 10 #[.slice A bs.length cap] w fun e w' => e = .returned (.agg (u8c (sha bs)).toArray) ∧ Below w.heap.size w w' := by
  obtain ⟨n, hN⟩ : ∃ n, bs.length = n := ⟨_, rfl⟩
  rw [hN] at hn hc ⊢
  have HN := Lib.hid hN
  have HA0 := Lib.hid hA0
  have HOB : Hid (∀ z : Array Value, z.size = 32 → OB w.heap.size w [] (.slice (some ⟨w.heap.size + 1, 0, none⟩) 0 0) ((w.alloc (.cells z 25)).alloc (.cells #[] 5))) := by
    intro z hz
    refine ⟨⟨rfl, .inr ⟨w.heap.size + 1, 0, #[], rfl, Nat.le_refl _, heap_alloc2_new _ _ _, Nat.le_refl _, by simp [maxLen], rfl, rfl⟩⟩, ⟨z.toList, ?_, by simpa using hz⟩, ((Below.refl _ _).alloc (Nat.le_refl _) _).alloc (by simp) _⟩
    have := (Holds.fresh w 25 z.toList).alloc (.cells #[] 5)
    simpa using this
  have HAA : Hid (∀ O1 O2, bs ≠ [] → ∃ b o, A = some ⟨b, o, none⟩ ∧ ((w.alloc O1).alloc O2).rangeAt b o (u8c bs)) := fun O1 O2 hne => by
    obtain ⟨b, o, e, hlt, hr⟩ := hA hne
    exact ⟨b, o, e, range_keep hr ((((Below.refl w.heap.size w).alloc (Nat.le_refl _) O1).alloc (by simp) O2).block b hlt)⟩
  have HL1 : Hid (([] ++ bs).length + 1 ≤ 1000000000000) := by unfold Hid; rw [List.nil_append, hN]; omega
  clear hN hA hA0
  go_enter Tryd.func10, Tryd.ntmps10
  go_upto_region 2 with (first | (refine app_any rfl (.tmp 10) (.tmp 11) rfl w.heap.size w [] _ rfl (HOB.out _ rfl) A n cap bs rfl HN.out HA0.out (HAA.out _ _) (by simp; omega) ?_; intro v1 w1 hO1) | (refine app_one rfl (.tmp 12) (.tmp 13) rfl w.heap.size w ([] ++ bs) v1 rfl hO1 128 128 rfl rfl HL1.out ?_; intro v2 w2 hO2))
  obtain ⟨z, hz⟩ : ∃ z, (119 - n % 64) % 64 = z := ⟨_, rfl⟩
  have hz64 : z < 64 := by omega
  have HZ := Lib.hid hz
  have HS1 : Hid (S1 w.heap.size bs z w v2 w2) := ⟨0, by omega, by simpa using hO2⟩
  clear hz hO1 hO2 HOB HAA HL1
  go_loopw [3] (S1 w.heap.size bs z w) (fun v _ => n + 1 + z - lenOf v)
  case atStart => exact HS1.out
  case round =>
    clear HS1
    obtain ⟨j, hj, hO⟩ := hrel
    have hlen : (bs ++ (128 :: List.replicate j 0)).length = n + 1 + j := by simp [HN.out]; omega
    obtain ⟨A', cap', rfl, hle, hcm', _, _⟩ := own_form hO.own
    rw [hlen] at hle ⊢
    have HO := Lib.hid hO
    have HLN := Lib.hid hlen
    rw [hlen] at HO
    clear hO hlen
    have hzz := HZ.out
    by_cases hjz : j < z
    · have htest : ((n + 1 + j : Int) % 64 != 56) = true := by simp; omega
      have hcat : bs ++ (128 :: List.replicate (j + 1) 0) = (bs ++ (128 :: List.replicate j 0)) ++ [0] := by rw [pre_snoc, List.append_assoc]
      have HCAT := Lib.hid hcat
      have HL2 : Hid ((bs ++ (128 :: List.replicate j 0)).length + 1 ≤ 1000000000000) := by unfold Hid; rw [HLN.out]; omega
      clear hcat hzz
      go_wp2_with (refine app_one rfl (.tmp 19) (.tmp 20) rfl w.heap.size w (bs ++ (128 :: List.replicate j 0)) _ rfl HO.out 0 0 rfl rfl HL2.out ?_; intro v3 w3 hO3)
      go_roundw
      case rel => exact ⟨j + 1, by omega, by rw [HCAT.out]; exact hO3⟩
      case measure => 
        obtain ⟨A3, cap3, rfl, _, _, _, _⟩ := own_form hO3.own
        simp [lenOf, HN.out]; omega
    · have hjz' : j = z := by omega
      have htest : ((n + 1 + j : Int) % 64 != 56) = false := by simp; omega
      have hO' : OB w.heap.size w (bs ++ pre z (8 * n) 0) (.slice A' (n + 1 + j) cap') wr := by rw [pre_z]; rw [← hjz']; exact HO.out
      obtain ⟨L, hL⟩ : ∃ L : Nat, (n : Int) * 8 = (L : Int) := ⟨n * 8, by omega⟩
      have hL8 : 8 * n = L := by omega
      rw [hL8] at hO'
      have hLm : L ≤ 8000000 := by omega
      have HS2 : Hid (S2 w.heap.size bs z L w (.slice A' (n + 1 + j) cap') (.int .i64 0) wr) := ⟨0, by omega, rfl, hO'⟩
      have HL8 := Lib.hid hL8
      clear hO' hjz' hL8 hzz HO
      go_wp2
      clear hL htest
      go_loopw [3, 26] (S2 w.heap.size bs z L w) (fun _ i _ => 8 - (intOf i).toNat)
      case atStart => exact HS2.out
      case round =>
        clear HS2
        obtain ⟨k, hk, rfl, hO⟩ := hrel
        have hlen : (bs ++ pre z L k).length = n + (1 + z + k) := by rw [List.length_append, pre_length, HN.out]
        by_cases hk8 : k < 8
        · have hcat : bs ++ pre z L (k + 1) = (bs ++ pre z L k) ++ [be L k] := by rw [pre_succ, List.append_assoc]
          have hval : (L : Int) / 2 ^ (56 - 8 * k) % 256 = v8 (be L k) := by
            rw [v8_be, Int.natCast_emod, Int.natCast_ediv, Int.natCast_pow]; rfl
          have HCAT := Lib.hid hcat
          have HVAL := Lib.hid hval
          have HL2 : Hid ((bs ++ pre z L k).length + 1 ≤ 1000000000000) := by unfold Hid; rw [hlen]; omega
          have HO := Lib.hid hO
          clear hcat hlen hval hO
          go_wp2_with (refine app_one rfl (.tmp 29) (.tmp 37) rfl w.heap.size w (bs ++ pre z L k) u3 rfl HO.out (be L k) _ HVAL.out rfl HL2.out ?_; intro v3 w3 hO3)
          go_roundw
          case rel => exact ⟨k + 1, by omega, by go_num, by rw [HCAT.out]; exact hO3⟩
          case measure => simp [intOf]; omega
        · have hk88 : k = 8 := by omega
          have hd : decide ((k : Int) < 8) = false := by simp; omega
          have hpd : bs ++ pre z L k = bs ++ padd n := by
            rw [hk88]; unfold padd pre; rw [HZ.out, HL8.out]
          rw [hpd] at hO hlen
          obtain ⟨A3, cap3, rfl, hle, hcm3, hA30, hA3⟩ := own_form hO.own
          obtain ⟨M, hM⟩ : ∃ M, (bs ++ padd n).length = M := ⟨_, rfl⟩
          rw [hM] at hle ⊢
          have hM64 : M % 64 = 0 := by rw [← hM, hlen, hk88]; have := HZ.out; omega
          have hMm : M ≤ 2000000 := by rw [← hM, hlen]; omega
          have hMp : 64 ≤ M := by rw [← hM, hlen]; omega
          have HM := Lib.hid hM
          have HO := Lib.hid hO
          have HA3 := Lib.hid hA3
          have HPD : Hid (sha bs = out (blks (bs ++ padd n) (M / 64))) := by unfold Hid sha; rw [HN.out, hM]
          clear hlen hpd hO hA3 hM hk88 hA30 HZ HL8
          obtain ⟨b, o, rfl, hbN, hbs, hra⟩ := HA3.out (fun h => by have := HM.out; rw [h] at this; simp at this; omega)
          obtain ⟨v0, hv0, hv0l⟩ := HO.out.rs
          have hbl := HO.out.bl
          have HRA := Lib.hid hra
          have HV0 := Lib.hid hv0
          clear hra hv0 HA3 HO
          go_wp2_with fail
          refine (first_any wr).mono ?_
          rintro e w4 ⟨rfl, hb4⟩
          have hb4s := hb4.size
          have HS3 : Hid (∀ E : Array Value, R3 w.heap.size w4.heap.size b o (bs ++ padd n) (blks (bs ++ padd n) 0) w ((w4.alloc (.cells E 42)).setRow w4.heap.size (u32c (lst h0)).toArray)) := by
            intro E
            have hNs := HV0.out.lt
            rw [World.setRow_alloc_new]
            have hbb : Below w.heap.size w (w4.alloc (.cells (u32c (lst h0)).toArray 42)) := (hbl.trans (hb4.mono (by omega))).alloc (by omega) _
            refine ⟨Holds.fresh w4 _ _, ?_, by omega, ⟨v0, (HV0.out.below hb4 hNs).alloc _, hv0l⟩, hbb, by omega⟩
            exact range_keep (range_keep HRA.out (hb4.block b hbs)) (Below.heap_alloc _ _ _ (by omega))
          have HZ8 : Hid (∀ A : Array Value, A.size = 8 → A.size = (u32c (lst h0)).toArray.size) := fun A h => by rw [h]; rfl
          have HI8 : Hid (∀ t : S8, (Tryd.prog.info? 42).map (·.size) = some (u32c (lst t)).toArray.size) := fun t => by kernel_rfl
          clear hb4 hbl HRA HV0 hbs
          go_upto_region 11 with (refine store_row_as rfl 42 (.tmp 6) (.tmp 40) rfl w4.heap.size _ rfl rfl 42 _ (heap_alloc_last _ _) (HI8.out h0) (HZ8.out _ rfl) (u32c_one _) (R3 w.heap.size w4.heap.size b o (bs ++ padd n) (blks (bs ++ padd n) 0) w) (HS3.out _) ?_; intro w6 hR6)
          generalize w4.heap.size = H at *
          have HS : Hid (S3 w.heap.size H b o (bs ++ padd n) M w (.int .i64 0) w6) := ⟨0, 0, by omega, rfl, rfl, hR6⟩
          clear HS3 hR6 HZ8 hb4s hbN
          generalize bs ++ padd n = all at *
          go_wp2
          go_loopw [7] (S3 w.heap.size H b o all M w) (fun i _ => M - (intOf i).toNat)
          case atStart => exact HS.out
          case round =>
            clear HS
            obtain ⟨c, l, hl, hlc, rfl, hR⟩ := hrel
            by_cases hlM : l < M
            · have hlM64 : l + 64 ≤ M := by omega
              obtain ⟨s, hs⟩ : ∃ s, blks all c = s := ⟨_, rfl⟩
              rw [hs] at hR
              have x0 : wr.cell? ⟨H, 0, none⟩ = some (.int .u32 (u s.a)) := hR.hb.cell 0
              have x1 : wr.cell? ⟨H, 1, none⟩ = some (.int .u32 (u s.b)) := hR.hb.cell 1
              have x2 : wr.cell? ⟨H, 2, none⟩ = some (.int .u32 (u s.c)) := hR.hb.cell 2
              have x3 : wr.cell? ⟨H, 3, none⟩ = some (.int .u32 (u s.d)) := hR.hb.cell 3
              have x4 : wr.cell? ⟨H, 4, none⟩ = some (.int .u32 (u s.e)) := hR.hb.cell 4
              have x5 : wr.cell? ⟨H, 5, none⟩ = some (.int .u32 (u s.f)) := hR.hb.cell 5
              have x6 : wr.cell? ⟨H, 6, none⟩ = some (.int .u32 (u s.g)) := hR.hb.cell 6
              have x7 : wr.cell? ⟨H, 7, none⟩ = some (.int .u32 (u s.h)) := hR.hb.cell 7
              have hsl := slice_mid (b := b) (o := o) (len := M) (cap := cap3) (l := l) (by omega) (by omega)
              have a1 : IntKind.i64.wrap ((l : Int) + 64) = (l : Int) + 64 := IntWalk.i64_in _ (by omega)
              have hdr : (all.drop l).length = M - l := by rw [List.length_drop, HM.out]
              have hq : ((all.drop l).take 64).length = 64 := by rw [List.length_take, hdr]; omega
              have hwb := hR.hb.lt
              have hra : wr.drew.rangeAt b (o + l) (u8c ((all.drop l).take 64)) := fun j v hv => by
                have hj : j < 64 := by have := (List.getElem?_eq_some_iff.1 hv).1; rwa [u8c_length, hq] at this
                rw [Nat.add_assoc]
                refine hR.ra (l + j) v ?_
                rw [← hv, u8c_at (by rw [HM.out]; omega), u8c_at (by rw [hq]; exact hj), List.getD_eq_getElem?_getD, List.getD_eq_getElem?_getD, List.getElem?_take_of_lt hj, List.getElem?_drop]
              have hblk : blks all (c + 1) = blk s ((all.drop l).take 64) := by rw [blks, hs, hlc]
              have HBLK := Lib.hid (rblock_any s ((all.drop l).take 64) hq b (o + l) (cap3 - l) wr.drew (by have := hR.bh; show b < wr.heap.size; omega) hra)
              have HEQ := Lib.hid hblk
              have HLC := Lib.hid hlc
              have HR := Lib.hid hR
              clear hs hR hdr hq hra hblk hlc
              generalize (all.drop l).take 64 = qq at *
              go_wp2
              go_still_tail 6, (by kernel_rfl)
              change wpList _ _ _ _ _ wr.drew
              clear x0 x1 x2 x3 x4 x5 x6 x7 hsl a1
              go_wp2_with fail
              refine HBLK.out.mono ?_
              rintro e w7 ⟨rfl, hb7⟩
              have HS7 : Hid (R3 w.heap.size H b o all (blks all (c + 1)) w (w7.setRow H (u32c (lst (blk s qq))).toArray)) := by
                rw [HEQ.out]
                have hR := HR.out
                have hbs := hR.bh
                have hnh := hR.nh
                have hb7' : Below H wr w7 := ⟨hb7.os, hb7.tape, hb7.output, hb7.size, fun i hi => hb7.block i (by show i < wr.heap.size; omega)⟩
                have hH : Holds w7 H 42 (u32c (lst s)) := (hb7.block H hwb).trans hR.hb
                obtain ⟨z, hz, hzl⟩ := hR.rs
                refine ⟨hH.row _, range_keep (range_keep hR.ra (hb7'.block b hbs)) (setRow_other _ _ _ _ (by omega)), hbs, ⟨z, (hz.below hb7' hnh).rowFar (by omega) _, hzl⟩, below_row (hR.bl.trans (hb7'.mono (by omega))) (by omega) _, hnh⟩
              have HOLD : Hid (w7.heap[H]? = some (.cells (u32c (lst s)).toArray 42 (0, 0))) := (hb7.block H hwb).trans HR.out.hb
              clear HBLK hb7 HEQ HR
              have HZ8 : Hid ((u32c (lst s)).toArray.size = (u32c (lst (blk s qq))).toArray.size) := (size8 s).trans (size8 _).symm
              go_wp2_with (refine store_row_as rfl 42 (.tmp 6) (.tmp 53) rfl H _ rfl rfl 42 _ HOLD.out (HI8.out _) HZ8.out (u32c_one _) (R3 w.heap.size H b o all (blks all (c + 1)) w) HS7.out ?_; intro w8 hR8)
              go_roundw
              case rel => exact ⟨c + 1, l + 64, by omega, by rw [HLC.out]; omega, by go_num, hR8⟩
              case measure => simp [intOf]; omega
            · have hlM' : l = M := by omega
              have hcM : c = M / 64 := by omega
              have hd : decide ((l : Int) < (M : Int)) = false := by simp; omega
              have hss : sha bs = out (blks all c) := by rw [hcM]; exact HPD.out
              obtain ⟨s, hs⟩ : ∃ s, blks all c = s := ⟨_, rfl⟩
              rw [hs] at hss hR
              have HSS := Lib.hid hss
              have hsz := hR.hb.lt
              obtain ⟨O, hOs⟩ : ∃ O, wr.heap.size = O := ⟨_, rfl⟩
              rw [hOs] at hsz
              have HS4 : Hid (∀ E : Array Value, E.size = 32 → S4 w.heap.size H O s w (.int .i64 0) (wr.alloc (.cells E 25))) := by
                intro E hE
                obtain ⟨z, hz, hzl⟩ := hR.rs
                have hnh := hR.nh
                refine ⟨0, E.toList, by omega, rfl, ?_, by simpa using hE, by simp, hR.hb.alloc _, ⟨z, hz.alloc _, hzl⟩, hR.bl.alloc (by omega) _, hsz, hnh⟩
                have := Holds.fresh wr 25 E.toList
                rw [hOs] at this
                simpa using this
              clear hss hs hlM' hcM HPD hlc hR
              go_wp2
              clear hOs
              go_loopw [54] (S4 w.heap.size H O s w) (fun i _ => 32 - (intOf i).toNat)
              case atStart => exact HS4.out (Array.replicate 32 (.int .u8 0)) rfl
              case round =>
                clear HS4
                obtain ⟨k4, l4, hk4, rfl, hO, hl4, ht4, hH, hrs, hbl4, hHO, hNH⟩ := hrel
                by_cases hlt4 : k4 < 32
                · have ch : wr.cell? ⟨H, k4 / 4, none⟩ = some (.int .u32 (u ((lst s).getD (k4 / 4) 0))) := by rw [hH.cell]; exact u32c_at (show k4 / 4 < 8 by omega)
                  obtain ⟨v4, hv4⟩ : ∃ v, wr.cell? ⟨O, k4, none⟩ = some v := ⟨l4[k4], by rw [hO.cell, List.getElem?_eq_getElem]⟩
                  have hf : wr.frozen? ⟨O, k4, none⟩ = false := hO.soft k4
                  have HO := Lib.hid hO
                  have HHH := Lib.hid hH
                  have HRS := Lib.hid hrs
                  have HT4 := Lib.hid ht4
                  have HL4 := Lib.hid hl4
                  have hat := out_at s hlt4
                  generalize (lst s).getD (k4 / 4) 0 = x at *
                  have HAT := Lib.hid hat
                  clear hO hH hrs ht4 hl4 hat
                  go_wp2
                  go_roundw
                  case rel =>
                    refine ⟨k4 + 1, l4.set k4 _, by omega, by go_num, HO.out.put _ _, by rw [List.length_set]; exact HL4.out, ?_, HHH.out.far (by simp; omega) _, ?_, hbl4.setCell (by simp; omega) _, hHO, hNH⟩
                    · rw [take_set _ _ _ (by rw [HL4.out]; exact hlt4), HT4.out, List.take_add_one, HAT.out]; rfl
                    · obtain ⟨z, hz, hzl⟩ := HRS.out
                      exact ⟨z, hz.far (by simp; omega) _, hzl⟩
                  case measure => simp [intOf]; omega
                · have hd4 : decide ((k4 : Int) < 32) = false := by simp; omega
                  have hol : (u8c (out s)).length = 32 := by rw [u8c_length]; rfl
                  have hlw : l4 = u8c (out s) := by
                    rw [List.take_of_length_le (by omega), List.take_of_length_le (by omega)] at ht4
                    exact ht4
                  rw [hlw] at hO
                  obtain ⟨z, hz, hzl⟩ := hrs
                  have i25 : (Tryd.prog.info? 25).map (·.size) = some (u8c (out s)).toArray.size := by rw [List.size_toArray, hol]; kernel_rfl
                  have hzs : z.toArray.size = (u8c (out s)).toArray.size := by rw [List.size_toArray, List.size_toArray, hzl, hol]
                  have HI := Lib.hid i25
                  have HZS := Lib.hid hzs
                  have H1 := Lib.hid (u8c_one (out s))
                  have HW := Lib.hid hO
                  have HZZ := Lib.hid hz
                  clear hlw hl4 ht4 hzl hol i25 hzs hO hz hH
                  go_wp2_with (first | (refine wpList_load_row rfl 25 _ rfl O rfl 25 _ (0, 0) _ HW.out Tryd.underlying25 rfl HI.out ?_) | (refine wpList_store_row rfl 25 _ _ rfl w.heap.size _ rfl rfl 25 _ HZZ.out HI.out HZS.out H1.out ?_))
                  rw [HSS.out]
                  exact bodyPost_ret (results_cell_row rfl _ _ w.heap.size 25 _ (0, 0) _ rfl (HZZ.out.row _) Tryd.underlying25 rfl HI.out) rfl ⟨rfl, below_row hbl4 (Nat.le_refl _) _⟩
end Go.Proofs.YtlndjmpopoihnaaDoor
