/-
  mac.Of: the HMAC of all parts. Conditions: the tables lie as they were laid; there are not too many bytes.
-/
import Derived.Test.YtlndjmpopoihnaaDoorKept
namespace Go.Proofs.YtlndjmpopoihnaaDoor
open Go.RowKit
set_option linter.unusedVariables false
theorem allOf_cons (p : Part) (ps : List Part) : allOf (p :: ps) = p.l ++ allOf ps := by simp [allOf]
theorem info32 {l : List UInt8} (h : l.length = 32) : (Tryd.prog.info? 25).map (·.size) = some (u8c l).toArray.size := by rw [List.size_toArray, u8c_length, h]; kernel_rfl
theorem size_of {l : List UInt8} {n : Nat} (h : l.length = n) (E : Array Value) (hE : E.size = n) : E.size = (u8c l).toArray.size := by rw [hE, List.size_toArray, u8c_length, h]
set_option maxHeartbeats 2000000 in
set_option maxRecDepth 100000 in
theorem mac_any (A : Option Addr) (key : List UInt8) (cap : Nat) (PA : Option Addr) (ps : List Part) (pc : Nat) (w : World) (hA : Lies w A key) (hc : key.length ≤ cap) (hcm : cap ≤ 9223372036854775807) (hkn : key.length ≤ 1000000000000)
    (hP0 : PA = none → pc = 0) (hP : PartsAt w PA ps) (hps : ∀ p ∈ ps, p.lies w) (hl : ps.length ≤ 1000000) (hn : (allOf ps).length ≤ 1000000000000) (hT : Tabs w) :
    Calls Tryd.prog 9 #[.slice A key.length cap, .slice PA ps.length pc] w fun e w' => e = .returned (.agg (u8c (hmac key (allOf ps))).toArray) ∧ Below w.heap.size w w' := by
  have HP0 := Lib.hid hP0
  have HP := Lib.hid hP
  have HPS := Lib.hid hps
  have HT := Lib.hid hT
  obtain ⟨k, hk⟩ : ∃ k, keyB key = k := ⟨_, rfl⟩
  have hkl : k.length = 64 := by rw [← hk]; exact keyB_length key
  have HKL := Lib.hid hkl
  have hi : (mx k 54).length = 64 := by rw [mx_length]; exact hkl
  have ho : (mx k 92).length = 64 := by rw [mx_length]; exact hkl
  have hhm : hmac key (allOf ps) = sha (mx k 92 ++ sha (mx k 54 ++ allOf ps)) := by rw [← hk]; rfl
  have HHM := Lib.hid hhm
  obtain ⟨q, hq⟩ : ∃ q, mx k 54 = q := ⟨_, rfl⟩
  obtain ⟨r, hr⟩ : ∃ r, mx k 92 = r := ⟨_, rfl⟩
  rw [hq] at hi
  rw [hr] at ho
  have HQL := Lib.hid hi
  have HRL := Lib.hid ho
  have HMQ : Hid (∀ W, Calls Tryd.prog 16 #[.agg (u8c k).toArray, .int .u8 54] W fun e w' => e = .returned (.agg (u8c q).toArray) ∧ Below W.heap.size W w') := fun W => hq ▸ mask_any k hkl 54 54 rfl W
  have HMR : Hid (∀ W, Calls Tryd.prog 16 #[.agg (u8c k).toArray, .int .u8 92] W fun e w' => e = .returned (.agg (u8c r).toArray) ∧ Below W.heap.size W w') := fun W => hr ▸ mask_any k hkl 92 92 rfl W
  rw [hq, hr] at HHM
  have HFILL : Hid (∀ E : Array Value, E.size = 32 → Calls Tryd.prog 15 #[.slice A key.length cap] (w.alloc (.cells E 25)) fun e w' => e = .returned (.agg (u8c k).toArray) ∧ ∃ Z : List Value, Z.length = 32 ∧ Kept [(w.heap.size, 25, Z)] w w') := fun E hE => by
    have hb := (Below.refl w.heap.size w).alloc (Nat.le_refl _) (.cells E 25)
    have h := fill_any A key cap (w.alloc (.cells E 25)) (hA.below hb (Nat.le_refl _)) hc hcm (by omega) (hT.below hb hT.two)
    rw [hk] at h
    refine h.mono fun e w' hh => ⟨hh.1, E.toList, by simpa using hE, ?_⟩
    exact ((Kept.start w).new 25 E.toList).below hh.2 (Nat.le_refl _)
  have HI64 : Hid ((Tryd.prog.info? 36).map (·.size) = some (u8c k).toArray.size) := info64 hkl
  have HIQ : Hid ((Tryd.prog.info? 36).map (·.size) = some (u8c q).toArray.size) := info64 hi
  have HIR : Hid ((Tryd.prog.info? 36).map (·.size) = some (u8c r).toArray.size) := info64 ho
  have HZK := Lib.hid (size_of hkl)
  have HZQ := Lib.hid (size_of hi)
  have HZR := Lib.hid (size_of ho)
  clear hP0 hP hps hT hk hkl hi ho hhm hq hr hA
  obtain ⟨n, hN⟩ : ∃ n, key.length = n := ⟨_, rfl⟩
  obtain ⟨m, hM⟩ : ∃ m, ps.length = m := ⟨_, rfl⟩
  rw [hN] at HFILL hkn ⊢
  rw [hM] at hl ⊢
  have HM := Lib.hid hM
  clear hN hM hc
  go_enter Tryd.func9, Tryd.ntmps9
  go_wp2_with fail
  refine (HFILL.out _ rfl).mono ?_
  rintro e w1 ⟨rfl, Z, hZ, hK1⟩
  have HZL := Lib.hid hZ
  have HK1 := Lib.hid hK1
  clear HFILL hZ hK1
  go_upto_region 2 with (refine store_row_as rfl 36 (.tmp 5) (.tmp 10) rfl w1.heap.size _ rfl rfl 36 _ (heap_alloc_last _ _) HI64.out (HZK.out _ rfl) (u8c_one _) (Kept [(w1.heap.size, 36, u8c k), (w.heap.size, 25, Z)] w) (HK1.out.set _ _ _) ?_; intro w2 hK2)
  generalize w1.heap.size = b5 at *
  clear HK1 w1 HZK
  have HK2 := Lib.hid hK2
  clear hK2
  go_upto_region 3 with (first | (refine wpList_load_row rfl 36 _ rfl b5 rfl 36 _ (0, 0) _ (HK2.out.got (.head _)) Tryd.underlying36 rfl HI64.out ?_) | (refine (HMQ.out w2).mono ?_; rintro e w3 ⟨rfl, hb3⟩; have HK3 := Lib.hid (HK2.out.below hb3 (Nat.le_refl _)); clear hb3) | (refine store_row_as rfl 36 (.tmp 6) (.tmp 12) rfl w3.heap.size _ rfl rfl 36 _ (heap_alloc_last _ _) HIQ.out (HZQ.out _ rfl) (u8c_one _) (Kept [(w3.heap.size, 36, u8c q), (b5, 36, u8c k), (w.heap.size, 25, Z)] w) (HK3.out.set _ _ _) ?_; intro w4 hK4))
  generalize w3.heap.size = b6 at *
  clear HK2 HK3 w3 w2 HZQ HMQ
  have HK4 := Lib.hid hK4
  clear hK4
  go_upto_region 4 with (first | (refine wpList_load_row rfl 36 _ rfl b5 rfl 36 _ (0, 0) _ (HK4.out.got (.tail _ (.head _))) Tryd.underlying36 rfl HI64.out ?_) | (refine (HMR.out w4).mono ?_; rintro e w5 ⟨rfl, hb5⟩; have HK5 := Lib.hid (HK4.out.below hb5 (Nat.le_refl _)); clear hb5) | (refine store_row_as rfl 36 (.tmp 7) (.tmp 14) rfl w5.heap.size _ rfl rfl 36 _ (heap_alloc_last _ _) HIR.out (HZR.out _ rfl) (u8c_one _) (Kept [(w5.heap.size, 36, u8c r), (b6, 36, u8c q), (b5, 36, u8c k), (w.heap.size, 25, Z)] w) (HK5.out.set _ _ _) ?_; intro w6 hK6))
  generalize w5.heap.size = b7 at *
  clear HK4 HK5 w5 w4 HZR HMR HI64 HIQ HIR
  have HK6 := Lib.hid hK6
  have HP6 : Hid (PartsAt w6 PA ps) := fun hne => by
    obtain ⟨b, o, e, hlt, hr⟩ := HP.out hne
    exact ⟨b, o, e, Nat.lt_of_lt_of_le hlt hK6.bl.size, range_keep hr (hK6.bl.block b hlt)⟩
  clear hK6
  have HLQ : Hid (∀ W, Kept [(b7, 36, u8c r), (b6, 36, u8c q), (b5, 36, u8c k), (w.heap.size, 25, Z)] w W → ∀ p ∈ (⟨some ⟨b6, 0, none⟩, q, 64⟩ : Part) :: ps, p.lies W) := fun W hW p hp => by
    rcases List.mem_cons.1 hp with rfl | hp
    · exact ⟨by show q.length ≤ 64; rw [HQL.out]; omega, show 64 ≤ 9223372036854775807 by decide, hW.lies (.tail _ (.head _))⟩
    · exact (HPS.out p hp).later hW.bl
  have HN1 : Hid ((allOf ((⟨some ⟨b6, 0, none⟩, q, 64⟩ : Part) :: ps)).length ≤ 1000000000000000000) := by
    unfold Hid; rw [allOf_cons, List.length_append, HQL.out]; omega
  obtain ⟨D, hD⟩ : ∃ D, sha (q ++ allOf ps) = D := ⟨_, rfl⟩
  have HD := Lib.hid hD
  have HDL : Hid (D.length = 32) := by unfold Hid; rw [← hD]; rfl
  have HQV : Hid (Value.slice (some ⟨b6, 0, none⟩) 64 64 = (⟨some ⟨b6, 0, none⟩, q, 64⟩ : Part).val) := by
    show _ = Value.slice (some ⟨b6, 0, none⟩) q.length 64
    rw [HQL.out]
  clear hD
  go_wp2_with (refine app_parts rfl (.tmp 16) (.tmp 17) rfl ⟨some ⟨b6, 0, none⟩, q, 64⟩ _ HQV.out rfl PA m pc ps rfl HM.out HP0.out HP6.out (by omega) ?_; intro A' c' w7 hb7 hP7)
  have hK7 := HK6.out.below hb7 (Nat.le_refl _)
  have HS1 : Hid (Calls Tryd.prog 12 #[.slice A' (1 + m) c'] w7 fun e w' => e = .returned (.agg (u8c D).toArray) ∧ Below w7.heap.size w7 w') := by
    have h := sum_any A' _ c' w7 hP7 (HLQ.out w7 hK7) (by rw [List.length_cons, HM.out]; omega) HN1.out (HT.out.below hK7.bl HT.out.two)
    rw [allOf_cons, HD.out, List.length_cons, HM.out, Nat.add_comm m 1] at h
    exact h
  have HK7 := Lib.hid hK7
  clear hK7 hb7 hP7 HLQ HN1 HP6 HK6
  refine HS1.out.mono ?_
  rintro e w8 ⟨rfl, hb8⟩
  have HK8 := Lib.hid (HK7.out.below hb8 (Nat.le_refl _))
  clear hb8 HK7 HS1
  have HI32 := Lib.hid (info32 HDL.out)
  have HZ32 := Lib.hid (size_of HDL.out)
  go_upto_region 5 with (refine store_row_as rfl 25 (.tmp 8) (.tmp 19) rfl w8.heap.size _ rfl rfl 25 _ (heap_alloc_last _ _) HI32.out (HZ32.out _ rfl) (u8c_one _) (Kept [(w8.heap.size, 25, u8c D), (b7, 36, u8c r), (b6, 36, u8c q), (b5, 36, u8c k), (w.heap.size, 25, Z)] w) (HK8.out.set _ _ _) ?_; intro w9 hK9)
  generalize w8.heap.size = b8 at *
  clear HK8 HI32 HZ32 w8
  have HS2 : Hid (Calls Tryd.prog 12 #[.slice (some ⟨w9.heap.size, 0, none⟩) 2 2] (w9.drew.alloc (.cells #[.slice (some ⟨b7, 0, none⟩) 64 64, .slice (some ⟨b8, 0, none⟩) 32 32] 22)) fun e w' => e = .returned (.agg (u8c (sha (r ++ D))).toArray) ∧ Kept [(w.heap.size, 25, Z)] w w') := by
    have hKd := hK9.drew
    have h := sum_of [⟨some ⟨b7, 0, none⟩, r, 64⟩, ⟨some ⟨b8, 0, none⟩, D, 32⟩] w9.heap.size w9.drew rfl (fun p hp => by
      simp only [List.mem_cons, List.not_mem_nil, or_false] at hp
      rcases hp with rfl | rfl
      · exact ⟨by show r.length ≤ 64; rw [HRL.out]; omega, show 64 ≤ 9223372036854775807 by decide, hKd.lies (.tail _ (.head _))⟩
      · exact ⟨by show D.length ≤ 32; rw [HDL.out]; omega, show 32 ≤ 9223372036854775807 by decide, hKd.lies (.head _)⟩) (show 2 ≤ 1000000000 by decide) (by simp [allOf, HRL.out, HDL.out]) (HT.out.below hKd.bl HT.out.two)
    have hall : allOf [⟨some ⟨b7, 0, none⟩, r, 64⟩, ⟨some ⟨b8, 0, none⟩, D, 32⟩] = r ++ D := by simp [allOf]
    rw [hall] at h
    simp only [List.map_cons, List.map_nil, Part.val, List.length_cons, List.length_nil, HRL.out, HDL.out] at h
    refine h.mono fun e w' hh => ⟨hh.1, ?_⟩
    have hk := hKd.below hh.2 (Nat.le_refl _)
    exact ⟨hk.bl, fun x hx => hk.hs x (by simp at hx; simp [hx])⟩
  have HF : Hid (sha (r ++ D) = hmac key (allOf ps)) := by unfold Hid; rw [HHM.out, HD.out]
  have HSL := Lib.hid (sha_len (r ++ D))
  generalize sha (r ++ D) = F at *
  clear hK9 HT HP HPS HM HD HHM
  go_still_tail 2, (by kernel_rfl)
  change wpList _ _ _ _ _ w9.drew
  go_wp2_with fail
  refine HS2.out.mono ?_
  rintro e w10 ⟨rfl, hK10⟩
  have HI32 := Lib.hid (info32 HSL.out)
  have HZ32 : Hid (Z.toArray.size = (u8c F).toArray.size) := size_of HSL.out _ (by rw [List.size_toArray, HZL.out])
  have HK10 := Lib.hid hK10
  clear hK10 HS2
  go_wp2_with (refine wpList_store_row rfl 25 _ _ rfl w.heap.size _ rfl rfl 25 _ (HK10.out.got (.head _)) HI32.out HZ32.out (u8c_one _) ?_)
  exact bodyPost_ret (results_cell_row rfl _ _ w.heap.size 25 _ (0, 0) _ rfl ((HK10.out.got (.head _)).row _) Tryd.underlying25 rfl HI32.out) rfl ⟨by rw [HF.out], below_row HK10.out.bl (Nat.le_refl _) _⟩
end Go.Proofs.YtlndjmpopoihnaaDoor
