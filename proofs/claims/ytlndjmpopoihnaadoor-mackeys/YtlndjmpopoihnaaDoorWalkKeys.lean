/-
  MacKeys walked: a long key does as its sum does, a shorter one as itself with noughts behind it. Conditions: the tables lie as they were laid.
-/
import Derived.Test.YtlndjmpopoihnaaDoorRKey
import Derived.Test.YtlndjmpopoihnaaDoorAwake
import Derived.Test.YtlndjmpopoihnaaDoorCuts
import Derived.ArgAppend
import Derived.Deep.RegionHeld3
namespace Go.Proofs.YtlndjmpopoihnaaDoor
open Go.RowKit
set_option linter.unusedVariables false
set_option linter.unusedSimpArgs false
theorem hmac_more {k b : List UInt8} {j : Nat} (h : (keyH k).length + j ≤ 64) : hmac (keyH k ++ List.replicate j 0) b = hmac k b := by
  unfold hmac; rw [keyB_more h]
theorem own_base {w : World} {B B' e n : Nat} {v : Value} {xs : List Value} (h : w.ownsRow B e 1 v n xs) (hB : B' ≤ B) : w.ownsRow B' e 1 v n xs := by
  obtain ⟨h1, h2 | ⟨g, cap, cur, hv, hg, r⟩⟩ := h
  · exact ⟨h1, .inl h2⟩
  · exact ⟨h1, .inr ⟨g, cap, cur, hv, Nat.le_trans hB hg, r⟩⟩
/-- The slice v has these bytes: a row of the call's own, or a block that they fill; nothing below has turned. -/
structure RV (w : World) (l : List UInt8) (v : Value) (wr : World) : Prop where
  own : wr.ownsRow w.heap.size 5 1 v l.length (u8c l) ∨ ∃ g, v = .slice (some ⟨g, 0, none⟩) l.length l.length ∧ g < wr.heap.size ∧ wr.rangeAt g 0 (u8c l)
  bl : Below w.heap.size w wr
theorem RV.alloc {w wr : World} {l : List UInt8} {v : Value} (h : RV w l v wr) (O : Obj) : RV w l v (wr.alloc O) := by
  refine ⟨?_, h.bl.alloc h.bl.size O⟩
  rcases h.own with h1 | ⟨g, hv, hlt, hr⟩
  · exact .inl (h1.alloc O)
  · exact .inr ⟨g, hv, by simp; omega, range_keep hr (Below.heap_alloc _ _ _ hlt)⟩
theorem RV.form {w wr : World} {l : List UInt8} {v : Value} (h : RV w l v wr) {p : Nat} (hp : l.length = p) (hs : p ≤ 1000) : ∃ A c, v = .slice A p c ∧ p ≤ c ∧ c ≤ 9223372036854775807 ∧ Lies wr A l := by
  rcases h.own with h1 | ⟨g, hv, hlt, hr⟩
  · obtain ⟨A, c, e, h2, h3, _, h4⟩ := own_full h1 hp
    exact ⟨A, c, e, h2, h3, h4⟩
  · exact ⟨some ⟨g, 0, none⟩, p, by rw [hv, hp], Nat.le_refl _, by omega, fun _ => ⟨g, 0, rfl, hlt, hr⟩⟩
theorem app_rv {w0 w : World} {ops : Array Oper} {rest : List Oper} {o : Oper} {a : Act} {Q : Exit → Act → World → Prop} (hgd : o.guard = none) (s x : Operand)
    (ho : o.op = .call { callee := .builtin .append, args := #[s, x], argTypes := #[22, 22] }) (l : List UInt8) (v : Value) (hs : a.eval s = v) (hv : RV w0 l v w)
    (y : UInt8) (x0 : Int) (hx0 : x0 = v8 y) (hx : a.eval x = .slice (some ⟨w.heap.size, 0, none⟩) 1 1) (hn : l.length + 1 ≤ 1000000)
    (h : ∀ v' w', RV w0 (l ++ [y]) v' w' → wpList Tryd.prog ops Q rest (a.put o.dst v') w') : wpList Tryd.prog ops Q (o :: rest) a (w.alloc (.cells #[.int .u8 x0] 5)) := by
  subst hx0
  have hz : (w.alloc (.cells #[.int .u8 (v8 y)] 5)).rangeAt w.heap.size 0 (u8c [y]) := fun i v hv => by
    rw [Nat.zero_add, cell_of_row _ _ i _ _ _ (heap_alloc_last _ _)]; exact List.getElem?_toArray.trans hv
  have hva := hv.alloc (.cells #[.int .u8 (v8 y)] 5)
  rcases hva.own with h1 | ⟨g, hg, hlt, hr⟩
  · exact app_list hgd s x ho w0.heap.size l v hs h1 hva.bl.size (some ⟨w.heap.size, 0, none⟩) 1 1 [y] hx rfl (fun h => by cases h) (fun _ => ⟨_, _, rfl, by simp, hz⟩) (by omega)
      fun v' w' hO hg => h v' w' ⟨.inl hO, hva.bl.trans (below_own h1 hg hva.bl.size)⟩
  · obtain ⟨i0, hi, hz0, hz1, hz2⟩ := info_parts byteInfo
    refine wpList_append_grows _ hgd s x 22 ho 5 i0 (.int .u8 0) 1 1 Tryd.underlying22 hi hz0 hz1 hz2 rfl (by omega) (some ⟨g, 0, none⟩) l.length l.length (u8c l) (hs.trans hg) (fun h => by cases h) (by rw [u8c_length, Nat.mul_one])
      (fun b hb j u hu => by
        injection hb with hb
        subst hb
        rw [Addr_add_none]; exact hr j u hu) ⟨w.heap.size, 0, none⟩ 1 1 (u8c [y]) hx rfl (fun j u hu => by rw [Addr_add_none]; exact hz j u hu) (fun u hu => by simp [u8c] at hu; subst hu; rfl) (by omega) (by unfold maxLen; omega) (by omega)
      fun v' w' hO hg' => h v' w' ⟨.inl ?_, hva.bl.trans ⟨hg'.os, hg'.tape, hg'.output, hg'.size, fun i hi => hg'.block i (Nat.lt_of_lt_of_le hi hva.bl.size) (by simp)⟩⟩
    rw [List.length_append, u8c_append]
    exact own_base hO hva.bl.size
/-- So many noughts behind it. -/
def KO (H : List UInt8) (r : Nat) (w : World) (v i : Value) (wr : World) : Prop := ∃ j : Nat, j ≤ r ∧ i = .int .i64 j ∧ RV w (H ++ List.replicate j 0) v wr
/-- These bytes still lie there. -/
structure KL (A2 : Option Addr) (l2 : List UInt8) (w W : World) : Prop where
  bl : Below w.heap.size w W
  li : Lies W A2 l2
theorem KL.alloc {A2 : Option Addr} {l2 : List UInt8} {w W : World} (h : KL A2 l2 w W) (O : Obj) : KL A2 l2 w (W.alloc O) :=
  ⟨h.bl.alloc h.bl.size O, h.li.below ((Below.refl W.heap.size W).alloc (Nat.le_refl _) O) (Nat.le_refl _)⟩
theorem KL.below {A2 : Option Addr} {l2 : List UInt8} {w W W' : World} (h : KL A2 l2 w W) (hb : Below W.heap.size W W') : KL A2 l2 w W' :=
  ⟨h.bl.trans (hb.mono h.bl.size), h.li.below hb (Nat.le_refl _)⟩
set_option maxHeartbeats 1000000 in
theorem keys_long (A : Option Addr) (n cap : Nat) (B : Option Addr) (m cap' : Nat) (x : Int) (w : World) (hT : Tabs w) (hn : 200 < n ∨ (n ≤ 200 ∧ 200 < m)) (hc : n ≤ cap) (hcm : cap ≤ 9223372036854775807) (hc' : m ≤ cap') (hcm' : cap' ≤ 9223372036854775807) :
    Calls Tryd.prog 4 #[.slice A n cap, .slice B m cap', .int .u8 x] w fun e w' => e = .returned (.bool true) ∧ Below w.heap.size w w' := by
  have HT := Lib.hid hT
  clear hT
  rcases hn with hn | ⟨hn, hm⟩
  all_goals
    first
      | have hz : (200 : Int) < n := by omega
      | (have hz : ¬ (200 : Int) < n := by omega
         have hz1 := decide_eq_false hz
         have hz2 : (200 : Int) < m := by omega)
    go_enter Tryd.func4, Tryd.ntmps4
    go_wp2_with fail
    refine (awake_any w HT.out).mono ?_
    rintro e w1 ⟨rfl, hb1⟩
    go_wp2_with fail
    refine (awake_any w1 (HT.out.below hb1 HT.out.two)).mono ?_
    rintro e w2 ⟨rfl, hb2⟩
    go_wp2
    go_ret
    exact ⟨rfl, hb1.trans (hb2.mono hb1.size)⟩
set_option maxHeartbeats 2000000 in
set_option maxRecDepth 100000 in
theorem keys_walk (A : Option Addr) (key : List UInt8) (cap : Nat) (B : Option Addr) (b : List UInt8) (cap' : Nat) (x : Int) (w : World) (hT : Tabs w) (hn : key.length ≤ 200) (hm : b.length ≤ 200)
    (hc : key.length ≤ cap) (hcm : cap ≤ 9223372036854775807) (hA0 : A = none → cap = 0) (hA : Lies w A key) (hc' : b.length ≤ cap') (hcm' : cap' ≤ 9223372036854775807) (hB : Lies w B b) (hx0 : 0 ≤ x) (hx1 : x < 256) :
    Calls Tryd.prog 4 #[.slice A key.length cap, .slice B b.length cap', .int .u8 x] w fun e w' => e = .returned (.bool true) ∧ Below w.heap.size w w' := by
  have HT := Lib.hid hT
  have HA0 := Lib.hid hA0
  have HA : Hid (∀ W, Below w.heap.size w W → Lies W A key) := fun W hW => hA.below hW (Nat.le_refl _)
  have HB : Hid (∀ W, Below w.heap.size w W → Lies W B b) := fun W hW => hB.below hW (Nat.le_refl _)
  have HRS : Hid (∀ W, Below w.heap.size w W → Calls Tryd.prog 10 #[.slice A key.length cap] W fun e w' => e = .returned (.agg (u8c (sha key)).toArray) ∧ Below W.heap.size W w') := fun W hW =>
    rsum_any A key cap W hc hcm hA0 (by omega) (hA.below hW (Nat.le_refl _))
  obtain ⟨H, hH⟩ : ∃ H, keyH key = H := ⟨_, rfl⟩
  have hHl : H.length ≤ 64 := by rw [← hH]; exact keyH_le key
  obtain ⟨D, hD⟩ : ∃ D, hmac key b = D := ⟨_, rfl⟩
  have HDL : Hid (D.length = 32) := by unfold Hid; rw [← hD]; rfl
  have HD := Lib.hid hD
  have HD2 : Hid (∀ j, H.length + j ≤ 64 → hmac (H ++ List.replicate j 0) b = D) := fun j hj => by rw [← hH] at hj ⊢; rw [hmac_more hj, hD]
  obtain ⟨p, hp⟩ : ∃ p, H.length = p := ⟨_, rfl⟩
  have HP := Lib.hid hp
  rw [hp] at hHl HD2
  obtain ⟨n, hN⟩ : ∃ n, key.length = n := ⟨_, rfl⟩
  obtain ⟨m, hM⟩ : ∃ m, b.length = m := ⟨_, rfl⟩
  have HN := Lib.hid hN
  have HM := Lib.hid hM
  have HKS : Hid (n ≤ 64 → key = H) := fun h => by rw [← hH, keyH_short (by omega)]
  have HKG : Hid (64 < n → sha key = H) := fun h => by rw [← hH, keyH_long (by omega)]
  rw [hN] at hn hc HRS ⊢
  rw [hM] at hm hc' ⊢
  clear hN hM hD hH hp hT hA hB hA0
  have hz : ¬ (200 : Int) < n := by omega
  have hz1 := decide_eq_false hz
  have hy : ¬ (200 : Int) < m := by omega
  have hy1 := decide_eq_false hy
  obtain ⟨r, hr1⟩ : ∃ r : Nat, x % (65 - (p : Int)) = (r : Int) := ⟨(x % (65 - (p : Int))).toNat, by have := Int.emod_nonneg x (show 65 - (p : Int) ≠ 0 by omega); omega⟩
  have hrp : p + r ≤ 64 := by have := Int.emod_lt_of_pos x (show (0 : Int) < 65 - (p : Int) by omega); omega
  have hrt : x.tmod (65 - (p : Int)) = (r : Int) := by rw [Int.tmod_eq_emod_of_nonneg hx0]; exact hr1
  have HLN : Hid (([] : List UInt8).length + n ≤ 1000000000000) := by unfold Hid; simp; omega
  by_cases hbig : 64 < n
  all_goals
    first
      | (have hd : (64 : Int) < (n : Int) := by omega
         have hsk := HKG.out hbig
         rw [hsk] at HRS
         have HHL : Hid (H.length = 32) := by unfold Hid; rw [← hsk]; rfl
         clear hsk HKS HKG
         go_enter Tryd.func4, Tryd.ntmps4
         go_wp2_with fail
         refine (awake_any w HT.out).mono ?_
         rintro e w1 ⟨rfl, hb1⟩
         have HOWN := Lib.hid (own_new w1 [] (by simp))
         have HL1 : Hid (∀ O, Lies (w1.alloc O) A key) := fun O => HA.out _ (hb1.alloc hb1.size O)
         go_upto_region 4 with (refine app_list rfl (.tmp 22) (.tmp 23) rfl w1.heap.size [] _ rfl HOWN.out (by simp) A n cap key rfl HN.out HA0.out (HL1.out _) HLN.out ?_; intro v2 w2 hO2 hg2)
         have hb2 : Below w.heap.size w w2 := (hb1.alloc hb1.size _).trans ((below_own HOWN.out hg2 (by simp)).mono hb1.size)
         clear hO2 hg2 HOWN HL1
         go_wp2_with fail
         refine (HRS.out w2 hb2).mono ?_
         rintro e w3 ⟨rfl, hb3⟩
         have HK3 : Hid (Kept [] w w3) := ⟨hb2.trans (hb3.mono hb2.size), fun x hx => by cases hx⟩
         have HI32 := Lib.hid (info32 HHL.out)
         have HZ32 := Lib.hid (size_of HHL.out)
         clear HRS hb3 hb2 hb1
         go_upto_region 6 with (refine store_row_as rfl 25 (.tmp 8) (.tmp 29) rfl w3.heap.size _ rfl rfl 25 _ (heap_alloc_last _ _) HI32.out (HZ32.out _ rfl) (u8c_one _) (Kept [(w3.heap.size, 25, u8c H)] w) (HK3.out.set _ _ _) ?_; intro w4 hK4)
         generalize w3.heap.size = G at *
         clear w3 HK3 HI32 HZ32
         go_upto_region 7 with fail
         have hRV : RV w H (.slice (some ⟨G, 0, none⟩) 32 32) w4 := ⟨.inr ⟨G, by rw [HHL.out], (hK4.got (.head _)).lt, fun j v hv => by rw [Nat.zero_add]; exact ((hK4.got (.head _)).cell j).trans hv⟩, hK4.bl⟩
         obtain ⟨v, hv⟩ : ∃ v, Value.slice (some ⟨G, 0, none⟩) 32 32 = v := ⟨_, rfl⟩
         rw [hv] at hRV ⊢
         clear hv hK4 HHL)
      | (have hd : ¬ (64 : Int) < (n : Int) := by omega
         have hd1 := decide_eq_false hd
         have hd2 := decide_eq_false hbig
         have hsk := HKS.out (by omega)
         clear HRS HKS HKG
         go_enter Tryd.func4, Tryd.ntmps4
         go_wp2_with fail
         refine (awake_any w HT.out).mono ?_
         rintro e w1 ⟨rfl, hb1⟩
         have HOWN := Lib.hid (own_new w1 [] (by simp))
         have HL1 : Hid (∀ O, Lies (w1.alloc O) A key) := fun O => HA.out _ (hb1.alloc hb1.size O)
         have HSK := Lib.hid hsk
         clear hsk
         go_upto_region 7 with (refine app_list rfl (.tmp 22) (.tmp 23) rfl w1.heap.size [] _ rfl HOWN.out (by simp) A n cap key rfl HN.out HA0.out (HL1.out _) HLN.out ?_; intro v w4 hO2 hg2)
         have hb2 : Below w.heap.size w w4 := (hb1.alloc hb1.size _).trans ((below_own HOWN.out hg2 (by simp)).mono hb1.size)
         rw [List.nil_append] at hO2
         have hRV : RV w H v w4 := ⟨.inl (by rw [← HSK.out]; exact own_base hO2 hb1.size), hb2⟩
         clear hO2 hg2 HOWN HL1 hb2 HSK hb1)
    obtain ⟨A1, c1, rfl, _, _, _⟩ := hRV.form HP.out (by omega)
    have HKO : Hid (KO H r w (.slice A1 p c1) (.int .i64 0) w4) := ⟨0, by omega, rfl, by simpa using hRV⟩
    have hpi : (p : Int) ≤ 64 := by omega
    have hq0 : ¬ (65 - (p : Int) = 0) := by omega
    clear hRV
    go_wp2
    go_loopw [7, 37] (KO H r w) (fun _ i _ => r - (intOf i).toNat)
    case atStart => exact HKO.out
    case round =>
      clear HKO
      obtain ⟨j, hj, rfl, hRV⟩ := hrel
      by_cases hlt : j < r
      · have hcat : H ++ List.replicate (j + 1) (0 : UInt8) = (H ++ List.replicate j 0) ++ [0] := by rw [List.replicate_succ', List.append_assoc]
        have HCAT := Lib.hid hcat
        have HL3 : Hid ((H ++ List.replicate j (0 : UInt8)).length + 1 ≤ 1000000) := by unfold Hid; rw [List.length_append, List.length_replicate, HP.out]; omega
        have hlti : (j : Int) < (r : Int) := by omega
        have HRV := Lib.hid hRV
        clear hcat hRV
        go_wp2_with (refine app_rv rfl (.tmp 39) (.tmp 40) rfl (H ++ List.replicate j 0) _ rfl HRV.out 0 0 rfl rfl HL3.out ?_; intro v4 w5 h5)
        go_roundw
        case rel => exact ⟨j + 1, by omega, by go_num, by rw [HCAT.out]; exact h5⟩
        case measure => simp [intOf]; omega
      · obtain rfl : j = r := by omega
        have hd7 : decide ((j : Int) < (j : Int)) = false := by simp
        obtain ⟨l2, hl2⟩ : ∃ l2, H ++ List.replicate j (0 : UInt8) = l2 := ⟨_, rfl⟩
        have hl2l : l2.length = p + j := by rw [← hl2, List.length_append, List.length_replicate, HP.out]
        obtain ⟨p2, hp2⟩ : ∃ p2, p + j = p2 := ⟨_, rfl⟩
        rw [hl2] at hRV
        rw [hp2] at hl2l
        obtain ⟨A2, c2, rfl, hc2, hcm2, hli2⟩ := hRV.form hl2l (by omega)
        have hKL : KL A2 l2 w wr := ⟨hRV.bl, hli2⟩
        have hD2 := HD2.out j (by omega)
        rw [hl2] at hD2
        have hp264 : p2 ≤ 64 := by omega
        have HOF1 : Hid (∀ (W : World) (g : Nat), KL A2 l2 w W → Holds W g 22 [.slice B m cap'] → Calls Tryd.prog 9 #[.slice A n cap, .slice (some ⟨g, 0, none⟩) 1 1] W fun e w' => e = .returned (.agg (u8c D).toArray) ∧ Below W.heap.size W w') := fun W g hW hg => by
          have h := mac_any A key cap (some ⟨g, 0, none⟩) [⟨B, b, cap'⟩] 1 W (HA.out W hW.bl) (by rw [HN.out]; exact hc) hcm (by rw [HN.out]; omega) (fun h => by cases h) (fun _ => ⟨g, 0, rfl, hg.lt, fun j v hv => by
            rw [Nat.zero_add, hg.cell, ← hv]
            simp only [List.map_cons, List.map_nil, Part.val, HM.out]⟩) (fun p hp => by
            obtain rfl := List.mem_singleton.1 hp
            exact ⟨by show b.length ≤ cap'; rw [HM.out]; exact hc', hcm', HB.out W hW.bl⟩) (by simp) (by simp [allOf, HM.out]; omega) (HT.out.below hW.bl HT.out.two)
          have hall : allOf [⟨B, b, cap'⟩] = b := by simp [allOf]
          rw [hall, HD.out, HN.out] at h
          exact h
        have HOF2 : Hid (∀ (W : World) (g : Nat), KL A2 l2 w W → Holds W g 22 [.slice B m cap'] → Calls Tryd.prog 9 #[.slice A2 p2 c2, .slice (some ⟨g, 0, none⟩) 1 1] W fun e w' => e = .returned (.agg (u8c D).toArray) ∧ Below W.heap.size W w') := fun W g hW hg => by
          have h := mac_any A2 l2 c2 (some ⟨g, 0, none⟩) [⟨B, b, cap'⟩] 1 W hW.li (by rw [hl2l]; exact hc2) hcm2 (by rw [hl2l]; omega) (fun h => by cases h) (fun _ => ⟨g, 0, rfl, hg.lt, fun j v hv => by
            rw [Nat.zero_add, hg.cell, ← hv]
            simp only [List.map_cons, List.map_nil, Part.val, HM.out]⟩) (fun p hp => by
            obtain rfl := List.mem_singleton.1 hp
            exact ⟨by show b.length ≤ cap'; rw [HM.out]; exact hc', hcm', HB.out W hW.bl⟩) (by simp) (by simp [allOf, HM.out]; omega) (HT.out.below hW.bl HT.out.two)
          have hall : allOf [⟨B, b, cap'⟩] = b := by simp [allOf]
          rw [hall, hD2, hl2l] at h
          exact h
        have hq := same_sum D HDL.out
        have hgd := eqGuard25
        clear hD2 hRV hli2 hl2 hl2l hp2 HD2 HD HDL HA HB HT HN HM HP hrt hr1
        have HC1 : Hid (Calls Tryd.prog 9 #[.slice A n cap, .slice (some ⟨wr.heap.size, 0, none⟩) 1 1] (wr.alloc (.cells #[.slice B m cap'] 22)) fun e w' => e = .returned (.agg (u8c D).toArray) ∧ KL A2 l2 w w') :=
          (HOF1.out _ _ (hKL.alloc _) (Holds.fresh wr 22 [.slice B m cap'])).mono fun e w' hh => ⟨hh.1, (hKL.alloc _).below hh.2⟩
        clear hKL HOF1
        go_wp2_with fail
        refine HC1.out.mono ?_
        rintro e w6 ⟨rfl, hK6⟩
        clear HC1
        have HC2 : Hid (Calls Tryd.prog 9 #[.slice A2 p2 c2, .slice (some ⟨w6.heap.size, 0, none⟩) 1 1] (w6.alloc (.cells #[.slice B m cap'] 22)) fun e w' => e = .returned (.agg (u8c D).toArray) ∧ KL A2 l2 w w') :=
          (HOF2.out _ _ (hK6.alloc _) (Holds.fresh w6 22 [.slice B m cap'])).mono fun e w' hh => ⟨hh.1, (hK6.alloc _).below hh.2⟩
        clear hK6 HOF2
        go_wp2_with fail
        refine HC2.out.mono ?_
        rintro e w7 ⟨rfl, hK7⟩
        clear HC2
        go_wp2
        go_ret
        exact ⟨rfl, hK7.bl⟩
theorem keys_any (A : Option Addr) (key : List UInt8) (cap : Nat) (B : Option Addr) (b : List UInt8) (cap' : Nat) (x : Int) (w : World) (hT : Tabs w)
    (hc : key.length ≤ cap) (hcm : cap ≤ 9223372036854775807) (hA0 : A = none → cap = 0) (hA : Lies w A key) (hc' : b.length ≤ cap') (hcm' : cap' ≤ 9223372036854775807) (hB0 : B = none → cap' = 0) (hB : Lies w B b) (hx : (Lit.int .u8 x).wf = true) :
    Calls Tryd.prog 4 #[.slice A key.length cap, .slice B b.length cap', .int .u8 x] w fun e w' => e = .returned (.bool true) ∧ Below w.heap.size w w' := by
  simp [Lit.wf, IntKind.min, IntKind.max, IntKind.signed, IntKind.bits] at hx
  by_cases hn : 200 < key.length ∨ (key.length ≤ 200 ∧ 200 < b.length)
  · exact keys_long A key.length cap B b.length cap' x w hT hn hc hcm hc' hcm'
  · exact keys_walk A key cap B b cap' x w hT (by omega) (by omega) hc hcm hA0 hA hc' hcm' hB (by omega) (by omega)
end Go.Proofs.YtlndjmpopoihnaaDoor

