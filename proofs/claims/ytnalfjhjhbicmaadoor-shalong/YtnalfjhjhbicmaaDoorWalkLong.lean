/-
  ShaLong walked: the sum of alike bytes. Conditions: the tables lie as they were laid.
-/
import Derived.Test.YtnalfjhjhbicmaaDoorRSum
import Derived.Test.YtnalfjhjhbicmaaDoorREq
import Derived.Test.YtnalfjhjhbicmaaDoorAwake
namespace Go.Proofs.YtnalfjhjhbicmaaDoor
open Go.RowKit
set_option linter.unusedVariables false
theorem app_own1 {w : World} {ops : Array Oper} {rest : List Oper} {o : Oper} {a : Act} {Q : Exit → Act → World → Prop} (hgd : o.guard = none) (s x : Operand)
    (ho : o.op = .call { callee := .builtin .append, args := #[s, x], argTypes := #[22, 22] }) (B : Nat) (hB : B ≤ w.heap.size) (l : List UInt8) (v : Value) (hs : a.eval s = v) (hown : w.ownsRow B 5 1 v l.length (u8c l))
    (y : UInt8) (x0 : Int) (hx0 : x0 = v8 y) (hx : a.eval x = .slice (some ⟨w.heap.size, 0, none⟩) 1 1) (hn : l.length + 1 ≤ 1000000000000)
    (h : ∀ v' w', w'.ownsRow B 5 1 v' (l ++ [y]).length (u8c (l ++ [y])) → Below B w w' → wpList Tryd.prog ops Q rest (a.put o.dst v') w') : wpList Tryd.prog ops Q (o :: rest) a (w.alloc (.cells #[.int .u8 x0] 5)) := by
  subst hx0
  obtain ⟨i0, hi, hz0, hz1, hz2⟩ := info_parts byteInfo
  refine wpList_append_own _ hgd s x 22 ho B 5 i0 (.int .u8 0) 1 1 Tryd.underlying22 hi hz0 hz1 hz2 rfl (by omega) v l.length (u8c l) hs (hown.alloc _) ⟨w.heap.size, 0, none⟩ 1 1 (u8c [y]) hx rfl (fun j u hu => by rw [Addr_add_none, Nat.zero_add, cell_of_row _ _ j _ _ _ (heap_alloc_last _ _)]; exact List.getElem?_toArray.trans hu) (fun u hu => by simp [u8c] at hu; subst hu; rfl) (by unfold maxLen; omega) (by omega) (by simp; omega) fun v' w' h2 h3 _ => h v' w' ?_ ?_
  · rw [List.length_append, u8c_append]; exact h2
  · exact ((Below.refl B w).alloc hB _).grown h3 (by simp; omega) (fun k e => own_ge hown k e)
def LL (c : UInt8) (m B : Nat) (w : World) (v i : Value) (wr : World) : Prop := ∃ k : Nat, k ≤ m ∧ i = .int .i64 k ∧ wr.ownsRow B 5 1 v (List.replicate k c).length (u8c (List.replicate k c)) ∧ Below w.heap.size w wr ∧ B ≤ wr.heap.size
set_option maxHeartbeats 1000000 in
theorem long_walk (x y : Int) (hx : (Lit.int .u8 x).wf = true) (hy : (Lit.int .u16 y).wf = true) (w : World) (hT : Tabs w) :
    Calls Tryd.prog 4 #[.int .u8 x, .int .u16 y] w fun e w' => e = .returned (.bool true) ∧ Below w.heap.size w w' := by
  simp [Lit.wf, IntKind.min, IntKind.max, IntKind.signed, IntKind.bits] at hx hy
  obtain ⟨c, rfl⟩ : ∃ c : UInt8, x = v8 c := ⟨x.toNat.toUInt8, by
    unfold v8
    have : x.toNat.toUInt8.toNat = x.toNat := by rw [Nat.toUInt8, UInt8.toNat_ofNat']; omega
    rw [this]; omega⟩
  obtain ⟨m, hm⟩ : ∃ m : Nat, y % 2000 = (m : Int) := ⟨(y % 2000).toNat, by omega⟩
  have hm2 : m < 2000 := by omega
  have HT := Lib.hid hT
  clear hT hx
  go_enter Tryd.func4, Tryd.ntmps4
  go_wp2_with fail
  refine (awake_any w HT.out).mono ?_
  rintro e w1 ⟨rfl, hb1⟩
  have HLL : Hid (LL c m w1.heap.size w (.slice none 0 0) (.int .i64 0) w1) := ⟨0, by omega, rfl, World.ownsRow_nil _ _ _ _, hb1, Nat.le_refl _⟩
  have hs1 := hb1.size
  clear hb1
  have HM := Lib.hid hm
  clear hm
  generalize w1.heap.size = B at *
  go_wp2
  go_loopw [5, 11] (LL c m B w) (fun _ i _ => m - (intOf i).toNat)
  case atStart => exact HLL.out
  case round =>
    clear HLL
    obtain ⟨k, hk, rfl, hown, hb, hBw⟩ := hrel
    have hmm := HM.out
    by_cases hlt : k < m
    · have t1 : (k : Int) < y % 2000 := by omega
      have HOWN := Lib.hid hown
      have HN : Hid ((List.replicate k c).length + 1 ≤ 1000000000000) := by unfold Hid; rw [List.length_replicate]; omega
      clear hown hmm
      go_wp2_with (refine app_own1 rfl (.tmp 13) (.tmp 15) rfl B hBw (List.replicate k c) u5 rfl HOWN.out c _ rfl rfl HN.out ?_; intro v2 w2 ho2 hb2)
      go_roundw
      case rel => exact ⟨k + 1, by omega, by go_num, by rw [List.replicate_succ']; exact ho2, hb.trans (hb2.mono (by omega)), Nat.le_trans hBw hb2.size⟩
      case measure => simp [intOf]; omega
    · have hkm : k = m := by omega
      have t1 : decide ((k : Int) < y % 2000) = false := by simp; omega
      obtain ⟨A, cap, rfl, hle, hcm, hA0, hA⟩ := own_form hown
      have hlen : (List.replicate k c).length = k := List.length_replicate
      have hT1 := HT.out.below hb HT.out.two
      have hlies : (⟨A, List.replicate k c, cap⟩ : Part).lies wr := ⟨by rw [hlen] at hle ⊢; exact hle, hcm, fun hne => by
        obtain ⟨b, o, e, _, hlt, hr⟩ := hA hne
        exact ⟨b, o, e, hlt, hr⟩⟩
      have hsum := sum_of [⟨A, List.replicate k c, cap⟩] wr.heap.size wr rfl (fun p hp => by obtain rfl := List.mem_singleton.1 hp; exact hlies) (show 1 ≤ 1000000000 by decide) (by simp [allOf]; omega) hT1
      have hall : allOf [⟨A, List.replicate k c, cap⟩] = List.replicate k c := by simp [allOf]
      rw [hall] at hsum
      simp only [List.map_cons, List.map_nil, Part.val, List.length_cons, List.length_nil] at hsum
      have HRS : Hid (∀ w3, Below wr.heap.size wr w3 → Calls Tryd.prog 8 #[.slice A (List.replicate k c).length cap] w3 fun e w' => e = .returned (.agg (u8c (sha (List.replicate k c))).toArray) ∧ Below w3.heap.size w3 w') := fun w3 h3 =>
        rsum_any A (List.replicate k c) cap w3 (by rw [hlen] at hle ⊢; exact hle) hcm hA0 (by rw [hlen]; omega) (fun hne => by
          obtain ⟨b, o, e, _, hlt, hr⟩ := hA hne
          exact ⟨b, o, e, Nat.lt_of_lt_of_le hlt h3.size, range_keep hr (h3.block b hlt)⟩)
      have hq := same_sum (sha (List.replicate k c)) (sha_length _)
      have hgd := eqGuard25
      rw [hlen] at hsum HRS ⊢
      generalize u8c (sha (List.replicate k c)) = X at *
      have HSUM := Lib.hid hsum
      clear hsum hlies hA hA0 hown hall hlen hT1 hkm hmm
      go_wp2_with fail
      refine HSUM.out.mono ?_
      rintro e w3 ⟨rfl, hb3⟩
      have hb4 := hb.trans (hb3.mono hb.size)
      go_wp2_with fail
      refine (HRS.out w3 hb3).mono ?_
      rintro e w5 ⟨rfl, hb5⟩
      have hb6 := hb4.trans (hb5.mono hb4.size)
      clear hb3 hb4 hb5 HSUM HRS
      go_wp2
      go_ret
      exact ⟨rfl, hb6⟩
end Go.Proofs.YtnalfjhjhbicmaaDoor
