/-
  mac.fill: a key as a block. Conditions: the tables lie as they were laid; the key is not too long.
-/
import Derived.Test.YtlndjmpopoihnaaDoorEqual
import Derived.Test.YtlndjmpopoihnaaDoorMask
import Derived.Test.YtlndjmpopoihnaaDoorMkBytes
import Derived.Test.YtlndjmpopoihnaaDoorRBlock
import Derived.StillTailTactics
namespace Go.Proofs.YtlndjmpopoihnaaDoor
open Go.RowKit
set_option linter.unusedVariables false
theorem byteSize : (Tryd.prog.info? 5).map (·.size) = some 1 := by kernel_rfl
theorem zeros_cells (n : Nat) : (List.replicate n (Value.int .u8 0)) = u8c (List.replicate n 0) := by simp [u8c, v8]
/-- Bytes copied to the front of a block of 64. -/
theorem copy_front {w : World} {ops : Array Oper} {rest : List Oper} {o : Oper} {a : Act} {Q : Exit → Act → World → Prop} (hgd : o.guard = none) (d s : Operand)
    (ho : o.op = .call { callee := .builtin .copy, args := #[d, s], argTypes := #[22, 22] }) (g : Nat) (hd : a.eval d = .slice (some ⟨g, 0, none⟩) 64 64)
    (A : Option Addr) (n cap : Nat) (l : List UInt8) (hs : a.eval s = .slice A n cap) (hn : l.length = n) (h64 : n ≤ 64) (hl : l ≠ [] → ∃ b o, A = some ⟨b, o, none⟩ ∧ w.rangeAt b o (u8c l))
    (hg : Holds w g 36 (u8c (List.replicate 64 0))) (B : Nat) (w0 : World) (hb : Below B w0 w) (hBg : B ≤ g)
    (h : ∀ w', Holds w' g 36 (u8c (l ++ List.replicate (64 - n) 0)) → w.grownBy w' (some g) → Below B w0 w' → wpList Tryd.prog ops Q rest (a.put o.dst (.int .i64 n)) w') : wpList Tryd.prog ops Q (o :: rest) a w := by
  by_cases hne : l = []
  · subst hne
    obtain rfl : n = 0 := by simpa using hn.symm
    exact wpList_copy_nothing hgd d s 22 22 ho 5 Tryd.underlying22 byteSize _ _ _ _ _ _ hd hs (by simp) (h w (by simpa using hg) (one_refl w _) hb)
  · obtain ⟨b, o', rfl, hr⟩ := hl hne
    have e : (u8c (List.replicate 64 (0 : UInt8))).toArray.toList.take 0 ++ (u8c l ++ (u8c (List.replicate 64 (0 : UInt8))).toArray.toList.drop (0 + (u8c l).length)) = u8c (l ++ List.replicate (64 - n) 0) := by
      rw [u8c_append, Nat.zero_add, u8c_length, hn]
      show [] ++ (u8c l ++ (u8c (List.replicate 64 (0 : UInt8))).drop n) = _
      rw [List.nil_append]
      congr 1
      simp only [u8c, List.map_replicate, List.drop_replicate]
    refine wpList_copy_own hgd d s 22 22 ho 5 Tryd.underlying22 byteSize g 0 64 64 ⟨b, o', none⟩ n cap hd hs _ _ hg (u8c l) (by rw [u8c_length, hn]; exact (Nat.min_eq_left h64).symm) (fun j v hv => by rw [Addr_add_none]; exact hr j v hv) (by simp [u8c]; omega) (fun v hv => by simp [u8c] at hv; obtain ⟨z, _, rfl⟩ := hv; rfl) ?_
    rw [e, u8c_length, hn]
    exact h _ (hg.row _) (one_row (one_refl w _) (.inl rfl) _) (below_row hb hBg _)
/-- Room for the answer, and the block. -/
structure FB (N : Nat) (l : List UInt8) (w wr : World) : Prop where
  bk : Holds wr (N + 1) 36 (u8c l)
  rm : ∃ z, Holds wr N 36 z ∧ z.length = 64
  bl : Below N w wr
theorem FB.one {N : Nat} {l l' : List UInt8} {w wr w' : World} (h : FB N l w wr) (hg : wr.grownBy w' (some (N + 1))) (hb : Below N w w') (hk : Holds w' (N + 1) 36 (u8c l')) : FB N l' w w' := by
  obtain ⟨z, hz, hzl⟩ := h.rm
  exact ⟨hk, ⟨z, hz.grown hg (fun e => by injection e; omega), hzl⟩, hb⟩
theorem FB.below {N B : Nat} {l : List UInt8} {w wr w' : World} (h : FB N l w wr) (hb : Below B wr w') (hB : N + 2 ≤ B) : FB N l w w' := by
  obtain ⟨z, hz, hzl⟩ := h.rm
  exact ⟨h.bk.below hb (by omega), ⟨z, hz.below hb (by omega), hzl⟩, h.bl.trans (hb.mono (by omega))⟩
def z64 : List UInt8 := List.replicate 64 0
def c64 : Array Value := #[.int .u8 0, .int .u8 0, .int .u8 0, .int .u8 0, .int .u8 0, .int .u8 0, .int .u8 0, .int .u8 0, .int .u8 0, .int .u8 0, .int .u8 0, .int .u8 0, .int .u8 0, .int .u8 0, .int .u8 0, .int .u8 0, .int .u8 0, .int .u8 0, .int .u8 0, .int .u8 0, .int .u8 0, .int .u8 0, .int .u8 0, .int .u8 0, .int .u8 0, .int .u8 0, .int .u8 0, .int .u8 0, .int .u8 0, .int .u8 0, .int .u8 0, .int .u8 0, .int .u8 0, .int .u8 0, .int .u8 0, .int .u8 0, .int .u8 0, .int .u8 0, .int .u8 0, .int .u8 0, .int .u8 0, .int .u8 0, .int .u8 0, .int .u8 0, .int .u8 0, .int .u8 0, .int .u8 0, .int .u8 0, .int .u8 0, .int .u8 0, .int .u8 0, .int .u8 0, .int .u8 0, .int .u8 0, .int .u8 0, .int .u8 0, .int .u8 0, .int .u8 0, .int .u8 0, .int .u8 0, .int .u8 0, .int .u8 0, .int .u8 0, .int .u8 0]
theorem c64_eq : c64 = (u8c z64).toArray := by
  have : c64 = (List.replicate 64 (Value.int .u8 0)).toArray := rfl
  rw [this, zeros_cells]; rfl
theorem FB.start (w : World) (E F : Array Value) (hE : E = c64) (hF : F = c64) : FB w.heap.size z64 w ((w.alloc (.cells E 36)).alloc (.cells F 36)) := by
  rw [hE, hF, c64_eq]
  exact ⟨heap_alloc2_new w _ _, ⟨_, (Holds.fresh w _ _).alloc _, by rw [u8c_length]; rfl⟩, ((Below.refl _ _).alloc (Nat.le_refl _) _).alloc (by simp) _⟩
theorem info64 {l : List UInt8} (h : l.length = 64) : (Tryd.prog.info? 36).map (·.size) = some (u8c l).toArray.size := by rw [List.size_toArray, u8c_length, h]; kernel_rfl
set_option maxHeartbeats 1000000 in
set_option maxRecDepth 100000 in
theorem fill_short (A : Option Addr) (l : List UInt8) (cap : Nat) (w : World) (hA : Lies w A l) (h64 : l.length ≤ 64) :
    Calls Tryd.prog 15 #[.slice A l.length cap] w fun e w' => e = .returned (.agg (u8c (l ++ List.replicate (64 - l.length) 0)).toArray) ∧ Below w.heap.size w w' := by
  have hl64 : (l ++ List.replicate (64 - l.length) (0 : UInt8)).length = 64 := by rw [List.length_append, List.length_replicate]; omega
  obtain ⟨n, hN⟩ : ∃ n, l.length = n := ⟨_, rfl⟩
  rw [hN] at h64 hl64 ⊢
  have HN := Lib.hid hN
  have HL64 := Lib.hid hl64
  have HA : Hid (∀ W, Below w.heap.size w W → l ≠ [] → ∃ b o, A = some ⟨b, o, none⟩ ∧ W.rangeAt b o (u8c l)) := fun W hW hne => by
    obtain ⟨b, o, e, _, hr⟩ := hA.below hW (Nat.le_refl _) hne
    exact ⟨b, o, e, hr⟩
  have HS := Lib.hid (FB.start w)
  have hd : ¬ (64 : Int) < (n : Int) := by omega
  have hd1 := decide_eq_false hd
  have hd2 : ¬ 64 < n := by omega
  have hd3 := decide_eq_false hd2
  clear hN hl64 hA
  go_enter Tryd.func15, Tryd.ntmps15
  go_upto_region 7 with (refine copy_front rfl (.tmp 15) (.tmp 16) rfl (w.heap.size + 1) rfl A n cap l rfl HN.out h64 (HA.out _ (HS.out _ _ rfl rfl).bl) (HS.out _ _ rfl rfl).bk w.heap.size w (HS.out _ _ rfl rfl).bl (by omega) ?_; intro w1 hk1 hg1 hb1)
  have h1 := (HS.out _ _ rfl rfl).one hg1 hb1 hk1
  clear hg1 hk1 HS HA
  obtain ⟨z, hz, hzl⟩ := h1.rm
  have hbk := h1.bk
  have hzs : z.toArray.size = (u8c (l ++ List.replicate (64 - n) 0)).toArray.size := by rw [List.size_toArray, List.size_toArray, hzl, u8c_length, HL64.out]
  have HI := Lib.hid (info64 HL64.out)
  obtain ⟨K, hK⟩ : ∃ K, l ++ List.replicate (64 - n) (0 : UInt8) = K := ⟨_, rfl⟩
  rw [hK] at hbk hzs HI
  have HK := Lib.hid hK
  clear hK
  have HZS := Lib.hid hzs
  have H1 := Lib.hid (u8c_one K)
  have HW := Lib.hid hbk
  have HZ := Lib.hid hz
  clear h1 hz hzl hzs hbk
  go_wp2_with (first | (refine wpList_load_row rfl 36 _ rfl (w.heap.size + 1) rfl 36 _ (0, 0) _ HW.out Tryd.underlying36 rfl HI.out ?_) | (refine wpList_store_row rfl 36 _ _ rfl w.heap.size _ rfl rfl 36 _ HZ.out HI.out HZS.out H1.out ?_))
  exact bodyPost_ret (results_cell_row rfl _ _ w.heap.size 36 _ (0, 0) _ rfl (HZ.out.row _) Tryd.underlying36 rfl HI.out) rfl ⟨by rw [HK.out], below_row hb1 (by omega) _⟩
set_option maxHeartbeats 1000000 in
set_option maxRecDepth 100000 in
theorem fill_long (A : Option Addr) (l : List UInt8) (cap : Nat) (w : World) (hA : Lies w A l) (hc : l.length ≤ cap) (hcm : cap ≤ 9223372036854775807) (hn : l.length ≤ 1000000000000000000) (hT : Tabs w) (h64 : 64 < l.length) :
    Calls Tryd.prog 15 #[.slice A l.length cap] w fun e w' => e = .returned (.agg (u8c (sha l ++ List.replicate 32 0)).toArray) ∧ Below w.heap.size w w' := by
  have HS := Lib.hid (FB.start w)
  have hsum : ∀ (W : World) (g : Nat), g = W.heap.size → FB w.heap.size z64 w W → Calls Tryd.prog 12 #[.slice (some ⟨g, 0, none⟩) 1 1] (W.alloc (.cells #[.slice A l.length cap] 22)) fun e w' => e = .returned (.agg (u8c (sha l)).toArray) ∧ Below W.heap.size W w' := fun W g hg hW => by
    have h := sum_of [⟨A, l, cap⟩] g W hg (fun p hp => by obtain rfl := List.mem_singleton.1 hp; exact ⟨hc, hcm, hA.below hW.bl (Nat.le_refl _)⟩) (show 1 ≤ 1000000000 by decide) (by simp [allOf]; omega) (hT.below hW.bl hT.two)
    have hall : allOf [⟨A, l, cap⟩] = l := by simp [allOf]
    rw [hall] at h
    simp only [List.map_cons, List.map_nil, Part.val, List.length_cons, List.length_nil] at h
    exact h
  have HSUM : Hid (∀ E F : Array Value, E = c64 → F = c64 → Calls Tryd.prog 12 #[.slice (some ⟨w.heap.size + 1 + 1, 0, none⟩) 1 1] (((w.alloc (.cells E 36)).alloc (.cells F 36)).alloc (.cells #[.slice A l.length cap] 22)) fun e w' => e = .returned (.agg (u8c (sha l)).toArray) ∧ FB w.heap.size z64 w w') := fun E F hE hF => by
    have h := FB.start w E F hE hF
    exact (hsum _ (w.heap.size + 1 + 1) (by simp) h).mono fun e w' hh => ⟨hh.1, h.below hh.2 (by simp)⟩
  obtain ⟨n, hN⟩ : ∃ n, l.length = n := ⟨_, rfl⟩
  rw [hN] at HSUM h64 ⊢
  have hd : (64 : Int) < (n : Int) := by omega
  have hl64 : (sha l ++ List.replicate 32 (0 : UInt8)).length = 64 := by rw [List.length_append, List.length_replicate, sha_len]
  have HL64 := Lib.hid hl64
  have HSL := Lib.hid (sha_len l)
  clear hN hsum hA hT hl64 hn hc
  generalize sha l = D at *
  clear l
  go_enter Tryd.func15, Tryd.ntmps15
  go_wp2_with fail
  refine (HSUM.out _ _ rfl rfl).mono ?_
  rintro e w1 ⟨rfl, hF1⟩
  clear HSUM HS
  have HI25 : Hid ((Tryd.prog.info? 25).map (·.size) = some (u8c D).toArray.size) := by unfold Hid; rw [List.size_toArray, u8c_length, HSL.out]; kernel_rfl
  have HZ25 : Hid (∀ E : Array Value, E.size = 32 → E.size = (u8c D).toArray.size) := fun E h => by rw [h, List.size_toArray, u8c_length, HSL.out]
  have HF1 := Lib.hid hF1
  clear hF1
  go_upto_region 4 with (refine store_row_as rfl 25 (.tmp 4) (.tmp 10) rfl w1.heap.size _ rfl rfl 25 _ (heap_alloc_last _ _) HI25.out (HZ25.out _ rfl) (u8c_one _) (fun W => W = w1.alloc (.cells (u8c D).toArray 25)) (World.setRow_alloc_new _ _ _ _) ?_; intro w2 hw2)
  have hF2 : FB w.heap.size z64 w w2 := by
    rw [hw2]
    exact HF1.out.below ((Below.refl w1.heap.size w1).alloc (Nat.le_refl _) _) (by have := HF1.out.bk.lt; omega)
  have hD2 : Holds w2 w1.heap.size 25 (u8c D) := by rw [hw2]; exact Holds.fresh w1 _ _
  clear hw2 HF1 HI25 HZ25
  generalize w1.heap.size = G at *
  clear w1
  have HF2 := Lib.hid hF2
  have HD2 := Lib.hid hD2
  have HRD : Hid (D ≠ [] → ∃ b o, (some ⟨G, 0, none⟩ : Option Addr) = some ⟨b, o, none⟩ ∧ w2.drew.rangeAt b o (u8c D)) := fun _ => ⟨G, 0, rfl, fun j v hv => by rw [Nat.zero_add]; exact (hD2.cell j).trans hv⟩
  clear hF2 hD2
  go_still_tail 2, (by kernel_rfl)
  change wpList _ _ _ _ _ w2.drew
  go_upto_region 5 with (refine copy_front rfl (.tmp 11) (.tmp 12) rfl (w.heap.size + 1) rfl (some ⟨G, 0, none⟩) 32 32 D rfl HSL.out (by omega) HRD.out HF2.out.bk w.heap.size w HF2.out.bl.drew (by omega) ?_; intro w3 hk3 hg3 hb3)
  have h1 : FB w.heap.size (D ++ List.replicate (64 - 32) 0) w w3 := (show FB w.heap.size z64 w w2.drew from ⟨HF2.out.bk, HF2.out.rm, HF2.out.bl.drew⟩).one hg3 hb3 hk3
  clear hg3 hk3 HF2 HRD HD2
  obtain ⟨z, hz, hzl⟩ := h1.rm
  have hbk := h1.bk
  have hzs : z.toArray.size = (u8c (D ++ List.replicate (64 - 32) 0)).toArray.size := by rw [List.size_toArray, List.size_toArray, hzl, u8c_length]; exact HL64.out.symm
  have HI := Lib.hid (info64 HL64.out)
  change Holds w3 (w.heap.size + 1) 36 (u8c (D ++ List.replicate 32 0)) at hbk
  change _ = (u8c (D ++ List.replicate 32 0)).toArray.size at hzs
  clear h1
  obtain ⟨K, hK⟩ : ∃ K, D ++ List.replicate 32 (0 : UInt8) = K := ⟨_, rfl⟩
  rw [hK] at hbk hzs HI
  have HK := Lib.hid hK
  clear hK
  have HZS := Lib.hid hzs
  have H1 := Lib.hid (u8c_one K)
  have HW := Lib.hid hbk
  have HZ := Lib.hid hz
  clear hz hzl hzs hbk
  go_wp2_with (first | (refine wpList_load_row rfl 36 _ rfl (w.heap.size + 1) rfl 36 _ (0, 0) _ HW.out Tryd.underlying36 rfl HI.out ?_) | (refine wpList_store_row rfl 36 _ _ rfl w.heap.size _ rfl rfl 36 _ HZ.out HI.out HZS.out H1.out ?_))
  exact bodyPost_ret (results_cell_row rfl _ _ w.heap.size 36 _ (0, 0) _ rfl (HZ.out.row _) Tryd.underlying36 rfl HI.out) rfl ⟨by rw [HK.out], below_row hb3 (by omega) _⟩
theorem fill_any (A : Option Addr) (l : List UInt8) (cap : Nat) (w : World) (hA : Lies w A l) (hc : l.length ≤ cap) (hcm : cap ≤ 9223372036854775807) (hn : l.length ≤ 1000000000000000000) (hT : Tabs w) :
    Calls Tryd.prog 15 #[.slice A l.length cap] w fun e w' => e = .returned (.agg (u8c (keyB l)).toArray) ∧ Below w.heap.size w w' := by
  unfold keyB
  by_cases h : 64 < l.length
  · rw [keyH_long h, sha_len]
    exact fill_long A l cap w hA hc hcm hn hT h
  · rw [keyH_short h]
    exact fill_short A l cap w hA (by omega)
end Go.Proofs.YtlndjmpopoihnaaDoor
