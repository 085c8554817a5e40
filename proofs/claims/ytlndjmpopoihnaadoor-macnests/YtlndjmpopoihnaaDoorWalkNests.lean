/-
  MacNests walked: the HMAC by a key of at most 64 bytes, worked out by sums alone. Conditions: the tables lie as they were laid.
-/
import Derived.Test.YtlndjmpopoihnaaDoorAppK
import Derived.Test.YtlndjmpopoihnaaDoorAwake
import Derived.Test.YtlndjmpopoihnaaDoorCuts
import Derived.Deep.RegionHeld3
namespace Go.Proofs.YtlndjmpopoihnaaDoor
open Go.RowKit
set_option linter.unusedVariables false
set_option linter.unusedSimpArgs false
theorem v_x54 (c : UInt8) : bits .xor .u8 (v8 c) 54 = v8 (c ^^^ 54) := v_xor c 54
theorem v_x92 (c : UInt8) : bits .xor .u8 (v8 c) 92 = v8 (c ^^^ 92) := v_xor c 92
attribute [local go_sem] v_x54 v_x92
/-- The first so many bytes, xored; noughts behind them. -/
def pm (K : List UInt8) (x : UInt8) (k : Nat) : List UInt8 := mx (K.take k) x ++ List.replicate (64 - k) 0
theorem pm_length {K : List UInt8} (hK : K.length = 64) (x : UInt8) {k : Nat} (hk : k ≤ 64) : (pm K x k).length = 64 := by
  unfold pm; rw [List.length_append, mx_length, List.length_take, List.length_replicate]; omega
theorem pm_next {K : List UInt8} (hK : K.length = 64) (x : UInt8) {k : Nat} (hk : k < 64) : (pm K x k).set k (K.getD k 0 ^^^ x) = pm K x (k + 1) := by
  have hl : (mx (K.take k) x).length = k := by rw [mx_length, List.length_take]; omega
  have h1 : k < K.length := by omega
  unfold pm
  rw [List.set_append_right _ _ (by omega), hl, Nat.sub_self, show 64 - k = (64 - (k + 1)) + 1 by omega, List.replicate_succ, List.set_cons_zero, List.take_succ_eq_append_getElem h1]
  simp only [mx, List.map_append, List.map_cons, List.map_nil, List.append_assoc, List.cons_append, List.nil_append, List.getD_eq_getElem?_getD, List.getElem?_eq_getElem h1, Option.getD_some]
theorem pm_all {K : List UInt8} (hK : K.length = 64) (x : UInt8) {k : Nat} (hk : 64 ≤ k) : pm K x k = mx K x := by
  unfold pm
  rw [List.take_of_length_le (by omega), show 64 - k = 0 by omega]; simp
structure NB (g1 g2 : Nat) (K : List UInt8) (k : Nat) (w wr : World) : Prop where
  h1 : Holds wr g1 5 (u8c (pm K 54 k))
  h2 : Holds wr g2 5 (u8c (pm K 92 k))
  ne : g1 ≠ g2
  l1 : w.heap.size ≤ g1
  l2 : w.heap.size ≤ g2
  bl : Below w.heap.size w wr
theorem NB.next {g1 g2 : Nat} {K : List UInt8} {k : Nat} {w wr : World} (h : NB g1 g2 K k w wr) (hK : K.length = 64) (hk : k < 64) (x y : Value) (hx : x = .int .u8 (v8 (K.getD k 0 ^^^ 54))) (hy : y = .int .u8 (v8 (K.getD k 0 ^^^ 92))) :
    NB g1 g2 K (k + 1) w ((wr.setCell ⟨g1, k, none⟩ x).setCell ⟨g2, k, none⟩ y) := by
  subst hx hy
  have a1 := h.h1.put k (.int .u8 (v8 (K.getD k 0 ^^^ 54)))
  have a2 := (h.h2.far (p := ⟨g1, k, none⟩) (Ne.symm h.ne) (.int .u8 (v8 (K.getD k 0 ^^^ 54)))).put k (.int .u8 (v8 (K.getD k 0 ^^^ 92)))
  rw [u8c_set, pm_next hK 54 hk] at a1
  rw [u8c_set, pm_next hK 92 hk] at a2
  exact ⟨a1.far (p := ⟨g2, k, none⟩) h.ne _, a2, h.ne, h.l1, h.l2, (h.bl.setCell h.l1 _).setCell h.l2 _⟩
theorem NB.drew {g1 g2 : Nat} {K : List UInt8} {k : Nat} {w wr : World} (h : NB g1 g2 K k w wr) : NB g1 g2 K k w wr.drew := ⟨h.h1, h.h2, h.ne, h.l1, h.l2, h.bl.drew⟩
def NL (g1 g2 : Nat) (K : List UInt8) (w : World) (i : Value) (wr : World) : Prop := ∃ k : Nat, k ≤ 64 ∧ i = .int .i64 k ∧ NB g1 g2 K k w wr
theorem nests_made (w W : World) (hb : Below w.heap.size w W) (Z : Array Value) (hZ : Z = (List.replicate 64 (Value.int .u8 0)).toArray) (K : List UInt8) (g1 g2 : Nat) (hg : (g1 = W.heap.size ∧ g2 = W.heap.size + 1) ∨ (g2 = W.heap.size ∧ g1 = W.heap.size + 1)) :
    NB g1 g2 K 0 w ((W.alloc (.cells Z 5)).alloc (.cells Z 5)) := by
  have hz : ∀ x, u8c (pm K x 0) = List.replicate 64 (Value.int .u8 0) := fun x => by
    rw [zeros_cells]; rfl
  have a1 : Holds ((W.alloc (.cells Z 5)).alloc (.cells Z 5)) W.heap.size 5 (List.replicate 64 (Value.int .u8 0)) := by
    rw [hZ]; exact (Holds.fresh W _ _).alloc _
  have a2 : Holds ((W.alloc (.cells Z 5)).alloc (.cells Z 5)) (W.heap.size + 1) 5 (List.replicate 64 (Value.int .u8 0)) := by
    rw [hZ]; exact heap_alloc2_new W _ _
  have hb2 := (hb.alloc hb.size (.cells Z 5)).alloc (by simp; have := hb.size; omega) (.cells Z 5)
  have hs := hb.size
  rcases hg with ⟨rfl, rfl⟩ | ⟨rfl, rfl⟩
  · exact ⟨by rw [hz]; exact a1, by rw [hz]; exact a2, by omega, hs, by omega, hb2⟩
  · exact ⟨by rw [hz]; exact a2, by rw [hz]; exact a1, by omega, by omega, hs, hb2⟩
set_option maxHeartbeats 1000000 in
theorem nests_long (A : Option Addr) (n cap : Nat) (B : Option Addr) (m cap' : Nat) (w : World) (hT : Tabs w) (hn : 64 < n ∨ (n ≤ 64 ∧ 200 < m)) (hc : n ≤ cap) (hcm : cap ≤ 9223372036854775807) (hc' : m ≤ cap') (hcm' : cap' ≤ 9223372036854775807) :
    Calls Tryd.prog 6 #[.slice A n cap, .slice B m cap'] w fun e w' => e = .returned (.bool true) ∧ Below w.heap.size w w' := by
  have HT := Lib.hid hT
  clear hT
  rcases hn with hn | ⟨hn, hm⟩
  all_goals
    first
      | have hz : (64 : Int) < n := by omega
      | (have hz : ¬ (64 : Int) < n := by omega
         have hz1 := decide_eq_false hz
         have hz2 : (200 : Int) < m := by omega)
    go_enter Tryd.func6, Tryd.ntmps6
    go_wp2_with fail
    refine (awake_any w HT.out).mono ?_
    rintro e w1 ⟨rfl, hb1⟩
    go_wp2_with fail
    refine (awake_any w1 (HT.out.below hb1 HT.out.two)).mono ?_
    rintro e w2 ⟨rfl, hb2⟩
    go_wp2
    go_ret
    exact ⟨rfl, hb1.trans (hb2.mono hb1.size)⟩
set_option maxHeartbeats 2000000 in
set_option maxRecDepth 100000 in
theorem nests_walk (A : Option Addr) (key : List UInt8) (cap : Nat) (B : Option Addr) (b : List UInt8) (cap' : Nat) (w : World) (hT : Tabs w) (hn : key.length ≤ 64) (hm : b.length ≤ 200)
    (hc : key.length ≤ cap) (hcm : cap ≤ 9223372036854775807) (hA : Lies w A key) (hc' : b.length ≤ cap') (hcm' : cap' ≤ 9223372036854775807) (hB : Lies w B b) :
    Calls Tryd.prog 6 #[.slice A key.length cap, .slice B b.length cap'] w fun e w' => e = .returned (.bool true) ∧ Below w.heap.size w w' := by
  have HT := Lib.hid hT
  have HA : Hid (∀ W, Below w.heap.size w W → Lies W A key) := fun W hW => hA.below hW (Nat.le_refl _)
  have HB : Hid (∀ W, Below w.heap.size w W → Lies W B b) := fun W hW => hB.below hW (Nat.le_refl _)
  obtain ⟨K, hK⟩ : ∃ K, keyB key = K := ⟨_, rfl⟩
  have HKL : Hid (K.length = 64) := by unfold Hid; rw [← hK]; exact keyB_length key
  have hkk : key ++ List.replicate (64 - key.length) 0 = K := by rw [← hK]; unfold keyB; rw [keyH_short (by omega)]
  have HKK := Lib.hid hkk
  have HHM : Hid (∀ x, hmac key x = sha (mx K 92 ++ sha (mx K 54 ++ x))) := fun x => by rw [← hK]; rfl
  clear hT hA hB hK hkk
  obtain ⟨n, hN⟩ : ∃ n, key.length = n := ⟨_, rfl⟩
  obtain ⟨m, hM⟩ : ∃ m, b.length = m := ⟨_, rfl⟩
  have HN := Lib.hid hN
  have HM := Lib.hid hM
  have HKA : Hid (∀ k, k < n → K.getD k 0 = key.getD k 0) := fun k hk => by
    rw [← HKK.out, List.getD_eq_getElem?_getD, List.getElem?_append_left (by rw [hN]; exact hk), List.getD_eq_getElem?_getD]
  have HKZ : Hid (∀ k, n ≤ k → K.getD k 0 = 0) := fun k hk => by
    rw [← HKK.out, List.getD_eq_getElem?_getD, List.getElem?_append_right (by rw [hN]; exact hk), List.getElem?_replicate]
    split <;> rfl
  rw [hN] at hn hc ⊢
  rw [hM] at hm hc' ⊢
  clear hN hM HKK
  have hz : ¬ (64 : Int) < n := by omega
  have hz1 := decide_eq_false hz
  have hy : ¬ (200 : Int) < m := by omega
  have hy1 := decide_eq_false hy
  obtain ⟨Z, hZ⟩ : ∃ Z, (List.replicate 64 (Value.int .u8 0)).toArray = Z := ⟨_, rfl⟩
  have hmk : ∀ W : World, (Instr.makeSlice 22 (.int .i64 64) (.int .i64 64)).run Tryd.prog W = .ok (.slice (some ⟨W.heap.size, 0, none⟩) 64 64) (W.alloc (.cells Z 5)) := fun W => by rw [← hZ]; exact make_bytes (n := 64) (c := 64) (by omega) (by omega) W
  have HZ := Lib.hid hZ.symm
  clear hZ
  go_enter Tryd.func6, Tryd.ntmps6
  go_wp2_with fail
  refine (awake_any w HT.out).mono ?_
  rintro e w1 ⟨rfl, hb1⟩
  go_upto_region 3 with fail
  go_region
  all_goals
    obtain ⟨W0, hW0⟩ : ∃ W0, ((w1.alloc (.cells Z 5)).alloc (.cells Z 5)).drew = W0 := ⟨_, rfl⟩
    rw [hW0]
  case' _ =>
    have hNB : NB w1.heap.size (w1.heap.size + 1) K 0 w W0 := by rw [← hW0]; exact (nests_made w w1 hb1 Z HZ.out K _ _ (.inl ⟨rfl, rfl⟩)).drew
    clear hW0 hb1
    generalize w1.heap.size + 1 = g2 at *
    generalize w1.heap.size = g1 at *
  rotate_left
  case' _ =>
    have hNB : NB (w1.heap.size + 1) w1.heap.size K 0 w W0 := by rw [← hW0]; exact (nests_made w w1 hb1 Z HZ.out K _ _ (.inr ⟨rfl, rfl⟩)).drew
    clear hW0 hb1
    generalize w1.heap.size + 1 = g1 at *
    generalize w1.heap.size = g2 at *
  all_goals
    clear w1 HZ hmk Z
    have HNL : Hid (NL g1 g2 K w (.int .i64 0) W0) := ⟨0, by omega, rfl, hNB⟩
    clear hNB
    go_wp2
    go_loopw [27] (NL g1 g2 K w) (fun i _ => 64 - (intOf i).toNat)
    case atStart => exact HNL.out
    case round =>
      clear HNL
      obtain ⟨k, hk, rfl, hNB⟩ := hrel
      by_cases hlt : k < 64
      · have hne := hNB.ne
        have hne' : ¬ g2 = g1 := fun e => hNB.ne e.symm
        obtain ⟨v1, c1⟩ : ∃ v, wr.cell? ⟨g1, k, none⟩ = some v := ⟨(u8c (pm K 54 k))[k]'(by rw [u8c_length, pm_length HKL.out 54 hk]; exact hlt), by rw [hNB.h1.cell, List.getElem?_eq_getElem]⟩
        obtain ⟨v2, c2⟩ : ∃ v, wr.cell? ⟨g2, k, none⟩ = some v := ⟨(u8c (pm K 92 k))[k]'(by rw [u8c_length, pm_length HKL.out 92 hk]; exact hlt), by rw [hNB.h2.cell, List.getElem?_eq_getElem]⟩
        have f1 : ∀ i, wr.frozen? ⟨g1, i, none⟩ = false := hNB.h1.soft
        have f2 : ∀ i, wr.frozen? ⟨g2, i, none⟩ = false := hNB.h2.soft
        have HNB := Lib.hid hNB
        have hki : (k : Int) < 64 := by omega
        by_cases hkn : k < n
        · obtain ⟨bA, oA, rfl, _, hr⟩ := HA.out wr hNB.bl (fun h => by have := HN.out; rw [h] at this; simp at this; omega)
          have c0 : wr.cell? ⟨bA, oA + k, none⟩ = some (.int .u8 (v8 (key.getD k 0))) := hr k _ (u8c_at (by rw [HN.out]; exact hkn))
          rw [← HKA.out k hkn] at c0
          have hkni : (k : Int) < (n : Int) := by omega
          clear hNB hr
          obtain ⟨c, hcK⟩ : ∃ c, K.getD k 0 = c := ⟨_, rfl⟩
          rw [hcK] at c0
          have HCK := Lib.hid hcK
          clear hcK
          go_wp2
          go_roundw
          case rel => exact ⟨k + 1, by omega, by go_num, HNB.out.next HKL.out hlt _ _ (by rw [HCK.out]) (by rw [HCK.out])⟩
          case measure => simp [intOf]; omega
        · have hd1 : decide ((k : Int) < (n : Int)) = false := by simp; omega
          have hd2 : decide (k < n) = false := by simp; omega
          have HCK := Lib.hid (HKZ.out k (by omega))
          clear hNB
          go_wp2
          go_roundw
          case rel => exact ⟨k + 1, by omega, by go_num, HNB.out.next HKL.out hlt _ _ (by rw [HCK.out]; rfl) (by rw [HCK.out]; rfl)⟩
          case measure => simp [intOf]; omega
      · have hk64 : k = 64 := by omega
        have hd : decide ((k : Int) < 64) = false := by simp; omega
        have hd' : decide (k < 64) = false := by simp; omega
        obtain ⟨q, hq⟩ : ∃ q, mx K 54 = q := ⟨_, rfl⟩
        obtain ⟨r, hr⟩ : ∃ r, mx K 92 = r := ⟨_, rfl⟩
        have hK8 : Kept [(g1, 5, u8c q), (g2, 5, u8c r)] w wr := ⟨hNB.bl, fun x hx => by
          simp only [List.mem_cons, List.not_mem_nil, or_false] at hx
          rcases hx with rfl | rfl
          · refine ⟨?_, hNB.l1⟩
            have := hNB.h1
            rw [pm_all HKL.out 54 (by omega), hq] at this
            exact this
          · refine ⟨?_, hNB.l2⟩
            have := hNB.h2
            rw [pm_all HKL.out 92 (by omega), hr] at this
            exact this⟩
        have hql : q.length = 64 := by rw [← hq, mx_length]; exact HKL.out
        have hrl : r.length = 64 := by rw [← hr, mx_length]; exact HKL.out
        have hhm := HHM.out b
        rw [hq, hr] at hhm
        obtain ⟨D, hD⟩ : ∃ D, sha (q ++ b) = D := ⟨_, rfl⟩
        rw [hD] at hhm
        have HQL := Lib.hid hql
        have HRL := Lib.hid hrl
        have HH := Lib.hid hhm
        have HDL : Hid (D.length = 32) := by unfold Hid; rw [← hD]; rfl
        have HS1 : Hid (Calls Tryd.prog 12 #[.slice (some ⟨wr.heap.size, 0, none⟩) 2 2] (wr.alloc (.cells #[.slice (some ⟨g1, 0, none⟩) 64 64, .slice B m cap'] 22)) fun e w' => e = .returned (.agg (u8c D).toArray) ∧ Kept [(g1, 5, u8c q), (g2, 5, u8c r)] w w') := by
          have h := sum_of [⟨some ⟨g1, 0, none⟩, q, 64⟩, ⟨B, b, cap'⟩] wr.heap.size wr rfl (fun p hp => by
            simp only [List.mem_cons, List.not_mem_nil, or_false] at hp
            rcases hp with rfl | rfl
            · exact ⟨by show q.length ≤ 64; omega, show 64 ≤ 9223372036854775807 by decide, hK8.lies (.head _)⟩
            · exact ⟨by show b.length ≤ cap'; rw [HM.out]; exact hc', hcm', HB.out wr hK8.bl⟩) (show 2 ≤ 1000000000 by decide) (by simp [allOf, hql, HM.out]; omega) (HT.out.below hK8.bl HT.out.two)
          have hall : allOf [⟨some ⟨g1, 0, none⟩, q, 64⟩, ⟨B, b, cap'⟩] = q ++ b := by simp [allOf]
          rw [hall, hD] at h
          simp only [List.map_cons, List.map_nil, Part.val, List.length_cons, List.length_nil, hql, HM.out] at h
          exact h.mono fun e w' hh => ⟨hh.1, hK8.below hh.2 (Nat.le_refl _)⟩
        clear hK8 hNB hq hr hql hrl hhm hD hk64 HHM HKA HKZ HKL
        go_wp2_with fail
        refine HS1.out.mono ?_
        rintro e w5 ⟨rfl, hK5⟩
        clear HS1
        have HK5 := Lib.hid hK5
        have HI32 := Lib.hid (info32 HDL.out)
        have HZ32 := Lib.hid (size_of HDL.out)
        clear hK5
        go_upto_region 13 with (refine store_row_as rfl 25 (.tmp 9) (.tmp 52) rfl w5.heap.size _ rfl rfl 25 _ (heap_alloc_last _ _) HI32.out (HZ32.out _ rfl) (u8c_one _) (Kept [(w5.heap.size, 25, u8c D), (g1, 5, u8c q), (g2, 5, u8c r)] w) (HK5.out.set _ _ _) ?_; intro w6 hK6)
        generalize w5.heap.size = G at *
        clear w5 HK5 HI32 HZ32
        dsimp only [Act.put]
        have hKall := hK6
        obtain ⟨F, hF⟩ : ∃ F, sha (r ++ D) = F := ⟨_, rfl⟩
        have hFl : F.length = 32 := by rw [← hF]; rfl
        have HOF : Hid (∀ (W : World) (g : Nat), Kept [(G, 25, u8c D), (g1, 5, u8c q), (g2, 5, u8c r)] w W → Holds W g 22 [.slice B m cap'] → Calls Tryd.prog 9 #[.slice A n cap, .slice (some ⟨g, 0, none⟩) 1 1] W fun e w' => e = .returned (.agg (u8c F).toArray) ∧ Below W.heap.size W w') := fun W g hW hg => by
          have h := mac_any A key cap (some ⟨g, 0, none⟩) [⟨B, b, cap'⟩] 1 W (HA.out W hW.bl) (by rw [HN.out]; exact hc) hcm (by rw [HN.out]; omega) (fun h => by cases h) (fun _ => ⟨g, 0, rfl, hg.lt, fun j v hv => by
            rw [Nat.zero_add, hg.cell, ← hv]
            simp only [List.map_cons, List.map_nil, Part.val, HM.out]⟩) (fun p hp => by
            obtain rfl := List.mem_singleton.1 hp
            exact ⟨by show b.length ≤ cap'; rw [HM.out]; exact hc', hcm', HB.out W hW.bl⟩) (by simp) (by simp [allOf, HM.out]; omega) (HT.out.below hW.bl HT.out.two)
          have hall : allOf [⟨B, b, cap'⟩] = b := by simp [allOf]
          rw [hall, HH.out, hF, HN.out] at h
          exact h
        have HSM : Hid (∀ (W : World) (g : Nat), Kept [(G, 25, u8c D), (g1, 5, u8c q), (g2, 5, u8c r)] w W → Holds W g 22 [.slice (some ⟨g2, 0, none⟩) 64 64, .slice (some ⟨G, 0, none⟩) 32 32] → Calls Tryd.prog 12 #[.slice (some ⟨g, 0, none⟩) 2 2] W fun e w' => e = .returned (.agg (u8c F).toArray) ∧ Below W.heap.size W w') := fun W g hW hg => by
          have h := sum_any (some ⟨g, 0, none⟩) [⟨some ⟨g2, 0, none⟩, r, 64⟩, ⟨some ⟨G, 0, none⟩, D, 32⟩] 2 W (fun _ => ⟨g, 0, rfl, hg.lt, fun j v hv => by
            rw [Nat.zero_add, hg.cell, ← hv]
            simp only [List.map_cons, List.map_nil, Part.val, HRL.out, HDL.out]⟩) (fun p hp => by
            simp only [List.mem_cons, List.not_mem_nil, or_false] at hp
            rcases hp with rfl | rfl
            · exact ⟨by show r.length ≤ 64; rw [HRL.out]; omega, show 64 ≤ 9223372036854775807 by decide, hW.lies (.tail _ (.tail _ (.head _)))⟩
            · exact ⟨by show D.length ≤ 32; rw [HDL.out]; omega, show 32 ≤ 9223372036854775807 by decide, hW.lies (.head _)⟩) (show 2 ≤ 1000000000 by decide) (by simp [allOf, HRL.out, HDL.out]) (HT.out.below hW.bl HT.out.two)
          have hall : allOf [⟨some ⟨g2, 0, none⟩, r, 64⟩, ⟨some ⟨G, 0, none⟩, D, 32⟩] = r ++ D := by simp [allOf]
          rw [hall, hF] at h
          exact h
        have hq := same_sum F hFl
        have hgd := eqGuard25
        clear hF hFl HH HA HB HT HQL HRL HDL HN HM hKall
        refine wp_region_noPanic ?_
        refine wp_region_held_drew (S := Kept [(G, 25, u8c D), (g1, 5, u8c q), (g2, 5, u8c r)] w) (by kernel_rfl) hK6.drew (fun hS1 => ?_)
        obtain ⟨wd, hwd⟩ : ∃ wd, w6.drew = wd := ⟨_, rfl⟩
        rw [hwd] at hS1 ⊢
        clear hwd hK6 w6
        refine wpAnyH_take (i := 0) (oi := { dst := some 53, op := Go.Op.move (Go.Operand.tmp 0), type := 22, pos := "law.go:71", after := #[], guard := none }) (v := .slice A n cap) rfl (by kernel_rfl) (by kernel_rfl) (by kernel_rfl) (fun _ _ _ h => h) (Or.inl ⟨by kernel_rfl, ?_⟩) hS1 ?_
        · intro w hSw; go_simp
        try simp only [Act.put, List.setIfInBounds_toArray, List.set_cons_zero, List.set_cons_succ]
        refine wpAnyH_take (i := 1) (oi := { dst := some 54, op := Go.Op.move (Go.Operand.tmp 1), type := 22, pos := "law.go:71", after := #[], guard := none }) (v := .slice B m cap') rfl (by kernel_rfl) (by kernel_rfl) (by kernel_rfl) (fun _ _ _ h => h) (Or.inl ⟨by kernel_rfl, ?_⟩) hS1 ?_
        · intro w hSw; go_simp
        try simp only [Act.put, List.setIfInBounds_toArray, List.set_cons_zero, List.set_cons_succ]
        refine wpAnyH_take (i := 4) (oi := { dst := some 57, op := Go.Op.move (Go.Operand.tmp 6), type := 22, pos := "law.go:71", after := #[], guard := none }) (v := .slice (some ⟨g2, 0, none⟩) 64 64) rfl (by kernel_rfl) (by kernel_rfl) (by kernel_rfl) (fun _ _ _ h => h) (Or.inl ⟨by kernel_rfl, ?_⟩) hS1 ?_
        · intro w hSw; go_simp
        try simp only [Act.put, List.setIfInBounds_toArray, List.set_cons_zero, List.set_cons_succ]
        refine wpAnyH_take (i := 5) (oi := { dst := some 58, op := Go.Op.slice 25 (Go.Operand.tmp 9) none none none, type := 22, pos := "law.go:71", after := #[], guard := none }) (v := .slice (some ⟨G, 0, none⟩) 32 32) rfl (by kernel_rfl) (by kernel_rfl) (by kernel_rfl) (fun _ _ _ h => h) (Or.inl ⟨by kernel_rfl, ?_⟩) hS1 ?_
        · intro w hSw; go_simp
        try simp only [Act.put, List.setIfInBounds_toArray, List.set_cons_zero, List.set_cons_succ]
        refine wpAnyH_ready (rs := [2, 6]) (by kernel_rfl) (by simp) ?_
        refine AllReadyH.cons (o := { dst := some 55, op := Go.Op.buildSlice 35 1 #[(0, Go.Operand.tmp 54)], type := 35, pos := "law.go:71", after := #[{ on := 1, ground := Go.Ground.data }], guard := none }) rfl (fun K hK => ?_) (AllReadyH.cons (o := { dst := some 59, op := Go.Op.buildSlice 35 2 #[(0, Go.Operand.tmp 57), (1, Go.Operand.tmp 58)], type := 35, pos := "law.go:71", after := #[{ on := 4, ground := Go.Ground.data }, { on := 5, ground := Go.Ground.data }], guard := none }) rfl (fun K hK => ?_) (AllReadyH.nil))
        · go_simp
          have hSn := (hS1.new 22 [.slice B m cap'])
          have hSm : Kept [(G, 25, u8c D), (g1, 5, u8c q), (g2, 5, u8c r)] w (wd.alloc (.cells ([.slice B m cap'] : List Value).toArray 22)) := ⟨hSn.bl, fun x hx => hSn.hs x (.tail _ hx)⟩
          have hHn : Holds (wd.alloc (.cells ([.slice B m cap'] : List Value).toArray 22)) wd.heap.size 22 [.slice B m cap'] := Holds.fresh wd _ _
          refine hK.out _ _ hSm (fun _ => ?_)
          clear hK K hSn
          try simp only [Act.put, List.setIfInBounds_toArray, List.set_cons_zero, List.set_cons_succ]
          generalize wd.alloc (.cells ([.slice B m cap'] : List Value).toArray 22) = w1a at *
          generalize wd.heap.size = p1 at *
          have hHn1 := hHn
          replace hS1 := hSm
          refine wpAnyH_ready (rs := [3, 6]) (by kernel_rfl) (by simp) ?_
          refine AllReadyH.cons (o := { dst := some 56, op := Go.Op.call { callee := Go.Callee.value (Go.Operand.func 9), args := #[Go.Operand.tmp 53, Go.Operand.tmp 55], argTypes := #[22, 35] }, type := 25, pos := "law.go:71", after := #[{ on := 0, ground := Go.Ground.data }, { on := 2, ground := Go.Ground.data }], guard := none }) rfl (fun K hK => ?_) (AllReadyH.cons (o := { dst := some 59, op := Go.Op.buildSlice 35 2 #[(0, Go.Operand.tmp 57), (1, Go.Operand.tmp 58)], type := 35, pos := "law.go:71", after := #[{ on := 4, ground := Go.Ground.data }, { on := 5, ground := Go.Ground.data }], guard := none }) rfl (fun K hK => ?_) (AllReadyH.nil))
          · go_simp
            (with_reducible refine (HOF.out _ _ hS1 hHn1).mono ?_)
            rintro e w2a ⟨rfl, hbc⟩
            replace hS1 := hS1.below hbc (Nat.le_refl _)
            replace hHn1 := hHn1.below hbc hHn1.lt
            dsimp only
            refine hK.out _ _ hS1 (fun _ => ?_)
            clear hK K hbc
            try simp only [Act.put, List.setIfInBounds_toArray, List.set_cons_zero, List.set_cons_succ]
            refine wpAnyH_ready (rs := [6]) (by kernel_rfl) (by simp) ?_
            refine AllReadyH.cons (o := { dst := some 59, op := Go.Op.buildSlice 35 2 #[(0, Go.Operand.tmp 57), (1, Go.Operand.tmp 58)], type := 35, pos := "law.go:71", after := #[{ on := 4, ground := Go.Ground.data }, { on := 5, ground := Go.Ground.data }], guard := none }) rfl (fun K hK => ?_) (AllReadyH.nil)
            · go_simp
              have hSn := (hS1.new 22 [.slice (some ⟨g2, 0, none⟩) 64 64, .slice (some ⟨G, 0, none⟩) 32 32])
              have hSm : Kept [(G, 25, u8c D), (g1, 5, u8c q), (g2, 5, u8c r)] w (w2a.alloc (.cells ([.slice (some ⟨g2, 0, none⟩) 64 64, .slice (some ⟨G, 0, none⟩) 32 32] : List Value).toArray 22)) := ⟨hSn.bl, fun x hx => hSn.hs x (.tail _ hx)⟩
              have hHn : Holds (w2a.alloc (.cells ([.slice (some ⟨g2, 0, none⟩) 64 64, .slice (some ⟨G, 0, none⟩) 32 32] : List Value).toArray 22)) w2a.heap.size 22 [.slice (some ⟨g2, 0, none⟩) 64 64, .slice (some ⟨G, 0, none⟩) 32 32] := Holds.fresh w2a _ _
              have hHn1n : Holds (w2a.alloc (.cells ([.slice (some ⟨g2, 0, none⟩) 64 64, .slice (some ⟨G, 0, none⟩) 32 32] : List Value).toArray 22)) p1 22 [.slice B m cap'] := hHn1.alloc _
              refine hK.out _ _ hSm (fun _ => ?_)
              clear hK K hSn
              try simp only [Act.put, List.setIfInBounds_toArray, List.set_cons_zero, List.set_cons_succ]
              generalize w2a.alloc (.cells ([.slice (some ⟨g2, 0, none⟩) 64 64, .slice (some ⟨G, 0, none⟩) 32 32] : List Value).toArray 22) = w3a at *
              generalize w2a.heap.size = p3 at *
              have hHn3 := hHn
              replace hHn1 := hHn1n
              replace hS1 := hSm
              refine wpAnyH_ready (rs := [7]) (by kernel_rfl) (by simp) ?_
              refine AllReadyH.cons (o := { dst := some 60, op := Go.Op.call { callee := Go.Callee.value (Go.Operand.func 12), args := #[Go.Operand.tmp 59], argTypes := #[35] }, type := 25, pos := "law.go:71", after := #[{ on := 6, ground := Go.Ground.data }, { on := 3, ground := Go.Ground.chain }], guard := none }) rfl (fun K hK => ?_) (AllReadyH.nil)
              · go_simp
                (with_reducible refine (HSM.out _ _ hS1 hHn3).mono ?_)
                rintro e w4a ⟨rfl, hbc⟩
                replace hS1 := hS1.below hbc (Nat.le_refl _)
                replace hHn1 := hHn1.below hbc hHn1.lt
                replace hHn3 := hHn3.below hbc hHn3.lt
                dsimp only
                refine hK.out _ _ hS1 (fun _ => ?_)
                clear hK K hbc
                try simp only [Act.put, List.setIfInBounds_toArray, List.set_cons_zero, List.set_cons_succ]
                refine wpAnyH_take (i := 8) (oi := { dst := some 61, op := Go.Op.binOp Go.BinOp.eql 25 (Go.Operand.tmp 56) (Go.Operand.tmp 60) 25, type := 4, pos := "law.go:71", after := #[{ on := 3, ground := Go.Ground.data }, { on := 7, ground := Go.Ground.data }], guard := none }) (v := .bool true) rfl (by kernel_rfl) (by kernel_rfl) (by kernel_rfl) (fun _ _ _ h => h) (Or.inl ⟨by kernel_rfl, ?_⟩) hS1 ?_
                · intro w hSw; go_simp
                try simp only [Act.put, List.setIfInBounds_toArray, List.set_cons_zero, List.set_cons_succ]
                refine wpAnyH_take (i := 9) (oi := { dst := some 4, op := Go.Op.assign (Go.Operand.tmp 61), type := 4, pos := "law.go:71", after := #[{ on := 8, ground := Go.Ground.data }, { on := 7, ground := Go.Ground.chain }, { on := 0, ground := Go.Ground.phase }, { on := 1, ground := Go.Ground.phase }, { on := 2, ground := Go.Ground.phase }, { on := 3, ground := Go.Ground.phase }, { on := 4, ground := Go.Ground.phase }, { on := 5, ground := Go.Ground.phase }, { on := 6, ground := Go.Ground.phase }, { on := 7, ground := Go.Ground.phase }, { on := 8, ground := Go.Ground.phase }], guard := none }) (v := .bool true) rfl (by kernel_rfl) (by kernel_rfl) (by kernel_rfl) (fun _ _ _ h => h) (Or.inl ⟨by kernel_rfl, ?_⟩) hS1 ?_
                · intro w hSw; go_simp
                try simp only [Act.put, List.setIfInBounds_toArray, List.set_cons_zero, List.set_cons_succ]
                refine wpAnyH_done (by kernel_rfl) ?_ _
                refine NoPanic.normal ?_
                go_wp2
                go_ret
                exact ⟨rfl, hS1.bl⟩
          · go_simp
            have hSn := (hS1.new 22 [.slice (some ⟨g2, 0, none⟩) 64 64, .slice (some ⟨G, 0, none⟩) 32 32])
            have hSm : Kept [(G, 25, u8c D), (g1, 5, u8c q), (g2, 5, u8c r)] w (w1a.alloc (.cells ([.slice (some ⟨g2, 0, none⟩) 64 64, .slice (some ⟨G, 0, none⟩) 32 32] : List Value).toArray 22)) := ⟨hSn.bl, fun x hx => hSn.hs x (.tail _ hx)⟩
            have hHn : Holds (w1a.alloc (.cells ([.slice (some ⟨g2, 0, none⟩) 64 64, .slice (some ⟨G, 0, none⟩) 32 32] : List Value).toArray 22)) w1a.heap.size 22 [.slice (some ⟨g2, 0, none⟩) 64 64, .slice (some ⟨G, 0, none⟩) 32 32] := Holds.fresh w1a _ _
            have hHn1n : Holds (w1a.alloc (.cells ([.slice (some ⟨g2, 0, none⟩) 64 64, .slice (some ⟨G, 0, none⟩) 32 32] : List Value).toArray 22)) p1 22 [.slice B m cap'] := hHn1.alloc _
            refine hK.out _ _ hSm (fun _ => ?_)
            clear hK K hSn
            try simp only [Act.put, List.setIfInBounds_toArray, List.set_cons_zero, List.set_cons_succ]
            generalize w1a.alloc (.cells ([.slice (some ⟨g2, 0, none⟩) 64 64, .slice (some ⟨G, 0, none⟩) 32 32] : List Value).toArray 22) = w5a at *
            generalize w1a.heap.size = p5 at *
            have hHn5 := hHn
            replace hHn1 := hHn1n
            replace hS1 := hSm
            refine wpAnyH_ready (rs := [3]) (by kernel_rfl) (by simp) ?_
            refine AllReadyH.cons (o := { dst := some 56, op := Go.Op.call { callee := Go.Callee.value (Go.Operand.func 9), args := #[Go.Operand.tmp 53, Go.Operand.tmp 55], argTypes := #[22, 35] }, type := 25, pos := "law.go:71", after := #[{ on := 0, ground := Go.Ground.data }, { on := 2, ground := Go.Ground.data }], guard := none }) rfl (fun K hK => ?_) (AllReadyH.nil)
            · go_simp
              (with_reducible refine (HOF.out _ _ hS1 hHn1).mono ?_)
              rintro e w6a ⟨rfl, hbc⟩
              replace hS1 := hS1.below hbc (Nat.le_refl _)
              replace hHn1 := hHn1.below hbc hHn1.lt
              replace hHn5 := hHn5.below hbc hHn5.lt
              dsimp only
              refine hK.out _ _ hS1 (fun _ => ?_)
              clear hK K hbc
              try simp only [Act.put, List.setIfInBounds_toArray, List.set_cons_zero, List.set_cons_succ]
              refine wpAnyH_ready (rs := [7]) (by kernel_rfl) (by simp) ?_
              refine AllReadyH.cons (o := { dst := some 60, op := Go.Op.call { callee := Go.Callee.value (Go.Operand.func 12), args := #[Go.Operand.tmp 59], argTypes := #[35] }, type := 25, pos := "law.go:71", after := #[{ on := 6, ground := Go.Ground.data }, { on := 3, ground := Go.Ground.chain }], guard := none }) rfl (fun K hK => ?_) (AllReadyH.nil)
              · go_simp
                (with_reducible refine (HSM.out _ _ hS1 hHn5).mono ?_)
                rintro e w7a ⟨rfl, hbc⟩
                replace hS1 := hS1.below hbc (Nat.le_refl _)
                replace hHn1 := hHn1.below hbc hHn1.lt
                replace hHn5 := hHn5.below hbc hHn5.lt
                dsimp only
                refine hK.out _ _ hS1 (fun _ => ?_)
                clear hK K hbc
                try simp only [Act.put, List.setIfInBounds_toArray, List.set_cons_zero, List.set_cons_succ]
                refine wpAnyH_take (i := 8) (oi := { dst := some 61, op := Go.Op.binOp Go.BinOp.eql 25 (Go.Operand.tmp 56) (Go.Operand.tmp 60) 25, type := 4, pos := "law.go:71", after := #[{ on := 3, ground := Go.Ground.data }, { on := 7, ground := Go.Ground.data }], guard := none }) (v := .bool true) rfl (by kernel_rfl) (by kernel_rfl) (by kernel_rfl) (fun _ _ _ h => h) (Or.inl ⟨by kernel_rfl, ?_⟩) hS1 ?_
                · intro w hSw; go_simp
                try simp only [Act.put, List.setIfInBounds_toArray, List.set_cons_zero, List.set_cons_succ]
                refine wpAnyH_take (i := 9) (oi := { dst := some 4, op := Go.Op.assign (Go.Operand.tmp 61), type := 4, pos := "law.go:71", after := #[{ on := 8, ground := Go.Ground.data }, { on := 7, ground := Go.Ground.chain }, { on := 0, ground := Go.Ground.phase }, { on := 1, ground := Go.Ground.phase }, { on := 2, ground := Go.Ground.phase }, { on := 3, ground := Go.Ground.phase }, { on := 4, ground := Go.Ground.phase }, { on := 5, ground := Go.Ground.phase }, { on := 6, ground := Go.Ground.phase }, { on := 7, ground := Go.Ground.phase }, { on := 8, ground := Go.Ground.phase }], guard := none }) (v := .bool true) rfl (by kernel_rfl) (by kernel_rfl) (by kernel_rfl) (fun _ _ _ h => h) (Or.inl ⟨by kernel_rfl, ?_⟩) hS1 ?_
                · intro w hSw; go_simp
                try simp only [Act.put, List.setIfInBounds_toArray, List.set_cons_zero, List.set_cons_succ]
                refine wpAnyH_done (by kernel_rfl) ?_ _
                refine NoPanic.normal ?_
                go_wp2
                go_ret
                exact ⟨rfl, hS1.bl⟩
        · go_simp
          have hSn := (hS1.new 22 [.slice (some ⟨g2, 0, none⟩) 64 64, .slice (some ⟨G, 0, none⟩) 32 32])
          have hSm : Kept [(G, 25, u8c D), (g1, 5, u8c q), (g2, 5, u8c r)] w (wd.alloc (.cells ([.slice (some ⟨g2, 0, none⟩) 64 64, .slice (some ⟨G, 0, none⟩) 32 32] : List Value).toArray 22)) := ⟨hSn.bl, fun x hx => hSn.hs x (.tail _ hx)⟩
          have hHn : Holds (wd.alloc (.cells ([.slice (some ⟨g2, 0, none⟩) 64 64, .slice (some ⟨G, 0, none⟩) 32 32] : List Value).toArray 22)) wd.heap.size 22 [.slice (some ⟨g2, 0, none⟩) 64 64, .slice (some ⟨G, 0, none⟩) 32 32] := Holds.fresh wd _ _
          refine hK.out _ _ hSm (fun _ => ?_)
          clear hK K hSn
          try simp only [Act.put, List.setIfInBounds_toArray, List.set_cons_zero, List.set_cons_succ]
          generalize wd.alloc (.cells ([.slice (some ⟨g2, 0, none⟩) 64 64, .slice (some ⟨G, 0, none⟩) 32 32] : List Value).toArray 22) = w8a at *
          generalize wd.heap.size = p8 at *
          have hHn8 := hHn
          replace hS1 := hSm
          refine wpAnyH_ready (rs := [2]) (by kernel_rfl) (by simp) ?_
          refine AllReadyH.cons (o := { dst := some 55, op := Go.Op.buildSlice 35 1 #[(0, Go.Operand.tmp 54)], type := 35, pos := "law.go:71", after := #[{ on := 1, ground := Go.Ground.data }], guard := none }) rfl (fun K hK => ?_) (AllReadyH.nil)
          · go_simp
            have hSn := (hS1.new 22 [.slice B m cap'])
            have hSm : Kept [(G, 25, u8c D), (g1, 5, u8c q), (g2, 5, u8c r)] w (w8a.alloc (.cells ([.slice B m cap'] : List Value).toArray 22)) := ⟨hSn.bl, fun x hx => hSn.hs x (.tail _ hx)⟩
            have hHn : Holds (w8a.alloc (.cells ([.slice B m cap'] : List Value).toArray 22)) w8a.heap.size 22 [.slice B m cap'] := Holds.fresh w8a _ _
            have hHn8n : Holds (w8a.alloc (.cells ([.slice B m cap'] : List Value).toArray 22)) p8 22 [.slice (some ⟨g2, 0, none⟩) 64 64, .slice (some ⟨G, 0, none⟩) 32 32] := hHn8.alloc _
            refine hK.out _ _ hSm (fun _ => ?_)
            clear hK K hSn
            try simp only [Act.put, List.setIfInBounds_toArray, List.set_cons_zero, List.set_cons_succ]
            generalize w8a.alloc (.cells ([.slice B m cap'] : List Value).toArray 22) = w9a at *
            generalize w8a.heap.size = p9 at *
            have hHn9 := hHn
            replace hHn8 := hHn8n
            replace hS1 := hSm
            refine wpAnyH_ready (rs := [3]) (by kernel_rfl) (by simp) ?_
            refine AllReadyH.cons (o := { dst := some 56, op := Go.Op.call { callee := Go.Callee.value (Go.Operand.func 9), args := #[Go.Operand.tmp 53, Go.Operand.tmp 55], argTypes := #[22, 35] }, type := 25, pos := "law.go:71", after := #[{ on := 0, ground := Go.Ground.data }, { on := 2, ground := Go.Ground.data }], guard := none }) rfl (fun K hK => ?_) (AllReadyH.nil)
            · go_simp
              (with_reducible refine (HOF.out _ _ hS1 hHn9).mono ?_)
              rintro e w10a ⟨rfl, hbc⟩
              replace hS1 := hS1.below hbc (Nat.le_refl _)
              replace hHn9 := hHn9.below hbc hHn9.lt
              replace hHn8 := hHn8.below hbc hHn8.lt
              dsimp only
              refine hK.out _ _ hS1 (fun _ => ?_)
              clear hK K hbc
              try simp only [Act.put, List.setIfInBounds_toArray, List.set_cons_zero, List.set_cons_succ]
              refine wpAnyH_ready (rs := [7]) (by kernel_rfl) (by simp) ?_
              refine AllReadyH.cons (o := { dst := some 60, op := Go.Op.call { callee := Go.Callee.value (Go.Operand.func 12), args := #[Go.Operand.tmp 59], argTypes := #[35] }, type := 25, pos := "law.go:71", after := #[{ on := 6, ground := Go.Ground.data }, { on := 3, ground := Go.Ground.chain }], guard := none }) rfl (fun K hK => ?_) (AllReadyH.nil)
              · go_simp
                (with_reducible refine (HSM.out _ _ hS1 hHn8).mono ?_)
                rintro e w11a ⟨rfl, hbc⟩
                replace hS1 := hS1.below hbc (Nat.le_refl _)
                replace hHn9 := hHn9.below hbc hHn9.lt
                replace hHn8 := hHn8.below hbc hHn8.lt
                dsimp only
                refine hK.out _ _ hS1 (fun _ => ?_)
                clear hK K hbc
                try simp only [Act.put, List.setIfInBounds_toArray, List.set_cons_zero, List.set_cons_succ]
                refine wpAnyH_take (i := 8) (oi := { dst := some 61, op := Go.Op.binOp Go.BinOp.eql 25 (Go.Operand.tmp 56) (Go.Operand.tmp 60) 25, type := 4, pos := "law.go:71", after := #[{ on := 3, ground := Go.Ground.data }, { on := 7, ground := Go.Ground.data }], guard := none }) (v := .bool true) rfl (by kernel_rfl) (by kernel_rfl) (by kernel_rfl) (fun _ _ _ h => h) (Or.inl ⟨by kernel_rfl, ?_⟩) hS1 ?_
                · intro w hSw; go_simp
                try simp only [Act.put, List.setIfInBounds_toArray, List.set_cons_zero, List.set_cons_succ]
                refine wpAnyH_take (i := 9) (oi := { dst := some 4, op := Go.Op.assign (Go.Operand.tmp 61), type := 4, pos := "law.go:71", after := #[{ on := 8, ground := Go.Ground.data }, { on := 7, ground := Go.Ground.chain }, { on := 0, ground := Go.Ground.phase }, { on := 1, ground := Go.Ground.phase }, { on := 2, ground := Go.Ground.phase }, { on := 3, ground := Go.Ground.phase }, { on := 4, ground := Go.Ground.phase }, { on := 5, ground := Go.Ground.phase }, { on := 6, ground := Go.Ground.phase }, { on := 7, ground := Go.Ground.phase }, { on := 8, ground := Go.Ground.phase }], guard := none }) (v := .bool true) rfl (by kernel_rfl) (by kernel_rfl) (by kernel_rfl) (fun _ _ _ h => h) (Or.inl ⟨by kernel_rfl, ?_⟩) hS1 ?_
                · intro w hSw; go_simp
                try simp only [Act.put, List.setIfInBounds_toArray, List.set_cons_zero, List.set_cons_succ]
                refine wpAnyH_done (by kernel_rfl) ?_ _
                refine NoPanic.normal ?_
                go_wp2
                go_ret
                exact ⟨rfl, hS1.bl⟩
theorem nests_any (A : Option Addr) (key : List UInt8) (cap : Nat) (B : Option Addr) (b : List UInt8) (cap' : Nat) (w : World) (hT : Tabs w)
    (hc : key.length ≤ cap) (hcm : cap ≤ 9223372036854775807) (hA0 : A = none → cap = 0) (hA : Lies w A key) (hc' : b.length ≤ cap') (hcm' : cap' ≤ 9223372036854775807) (hB0 : B = none → cap' = 0) (hB : Lies w B b) :
    Calls Tryd.prog 6 #[.slice A key.length cap, .slice B b.length cap'] w fun e w' => e = .returned (.bool true) ∧ Below w.heap.size w w' := by
  by_cases hn : 64 < key.length ∨ (key.length ≤ 64 ∧ 200 < b.length)
  · exact nests_long A key.length cap B b.length cap' w hT hn hc hcm hc' hcm'
  · exact nests_walk A key cap B b cap' w hT (by omega) (by omega) hc hcm hA hc' hcm' hB
end Go.Proofs.YtlndjmpopoihnaaDoor

