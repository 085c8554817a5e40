/-
  mac.at and mac.Equal: whether both have the same bytes. Conditions: none.
-/
import Derived.Test.YtlndjmpopoihnaaDoorPureMac
import Derived.Test.YtlndjmpopoihnaaDoorSum
import Derived.Laws.Small
namespace Go.Proofs.YtlndjmpopoihnaaDoor
open Go.RowKit
attribute [local go_sem] v_xor
/-- These bytes lie there (where there are any). -/
def Lies (w : World) (A : Option Addr) (l : List UInt8) : Prop := l ≠ [] → ∃ b o, A = some ⟨b, o, none⟩ ∧ b < w.heap.size ∧ w.rangeAt b o (u8c l)
theorem Lies.below {w w' : World} {A : Option Addr} {l : List UInt8} {B : Nat} (h : Lies w A l) (hb : Below B w w') (hB : w.heap.size ≤ B) : Lies w' A l := fun hl => by
  obtain ⟨b, o, e, hlt, hr⟩ := h hl
  exact ⟨b, o, e, Nat.lt_of_lt_of_le hlt hb.size, range_keep hr (hb.block b (by omega))⟩
theorem at_any (A : Option Addr) (l : List UInt8) (cap i : Nat) (w : World) (hA : Lies w A l) :
    Calls Tryd.prog 19 #[.slice A l.length cap, .int .i64 i] w fun e w' => e = .returned (.int .u8 (v8 (l.getD i 0))) ∧ w = w' := by
  by_cases hi : i < l.length
  · obtain ⟨b, o, rfl, hlt, hr⟩ := hA (fun h => by rw [h] at hi; simp at hi)
    have c0 : w.cell? ⟨b, o + i, none⟩ = some (.int .u8 (v8 (l.getD i 0))) := hr i _ (u8c_at hi)
    generalize v8 (l.getD i 0) = x at *
    have hz : (i : Int) < (l.length : Int) := by omega
    clear hA hr
    go_enter Tryd.func19, Tryd.ntmps19
    go_wp2
    go_ret
    exact ⟨rfl, rfl⟩
  · have hv : v8 (l.getD i 0) = 0 := by
      rw [List.getD_eq_getElem?_getD, List.getElem?_eq_none (by omega)]; rfl
    rw [hv]
    have hd : decide ((i : Int) < (l.length : Int)) = false := by simp; omega
    clear hA hv
    go_enter Tryd.func19, Tryd.ntmps19
    go_wp2
    go_ret
    exact ⟨rfl, rfl⟩
def EQ (a b : List UInt8) (M : Nat) (w : World) (d i : Value) (wr : World) : Prop := ∃ k : Nat, k ≤ M ∧ i = .int .i64 k ∧ d = .int .i64 (dif a b k : Int) ∧ wr = w
set_option maxHeartbeats 1000000 in
theorem equal_any (A : Option Addr) (a : List UInt8) (cap : Nat) (B : Option Addr) (b : List UInt8) (cap' : Nat) (w : World) (hA : Lies w A a) (hB : Lies w B b) (ha : a.length ≤ 9223372036854775807) (hb : b.length ≤ 9223372036854775807) :
    Calls Tryd.prog 11 #[.slice A a.length cap, .slice B b.length cap'] w fun e w' => e = .returned (.bool (decide (a = b))) ∧ w = w' := by
  obtain ⟨M, hM⟩ : ∃ M : Nat, (a.length < b.length ∧ b.length = M) ∨ (¬ a.length < b.length ∧ a.length = M) := by
    by_cases h : a.length < b.length
    · exact ⟨_, .inl ⟨h, rfl⟩⟩
    · exact ⟨_, .inr ⟨h, rfl⟩⟩
  have hMa : a.length ≤ M := by omega
  have hM63 : M ≤ 9223372036854775807 := by omega
  have hx0 := i64_xor_n a.length b.length (by omega) (by omega)
  have HAT := Lib.hid (fun i => at_any A a cap i w hA)
  have HBT := Lib.hid (fun i => at_any B b cap' i w hB)
  have HALL := Lib.hid (dif_all (a := a) (b := b) (m := M) hMa)
  have HLT := Lib.hid (dif_lt (a := a) (b := b) (by omega) (by omega))
  have HEQ : Hid (EQ a b M w (.int .i64 ((a.length ^^^ b.length : Nat) : Int)) (.int .i64 0) w) := ⟨0, by omega, rfl, rfl, rfl⟩
  clear hA hB
  rcases hM with ⟨hc, hM⟩ | ⟨hc, hM⟩
  all_goals
    have HM := Lib.hid hM
    clear hM
    go_enter Tryd.func11, Tryd.ntmps11
    go_wp2
    go_loopw [5, 17] (EQ a b M w) (fun _ i _ => M - (intOf i).toNat)
    case atStart => exact HEQ.out
    case round =>
      clear HEQ hx0
      obtain ⟨k, hk, rfl, rfl, rfl⟩ := hrel
      by_cases hlt : k < M
      · obtain ⟨x, hx⟩ : ∃ x, a.getD k 0 = x := ⟨_, rfl⟩
        obtain ⟨y, hy⟩ : ∃ y, b.getD k 0 = y := ⟨_, rfl⟩
        have ha1 := HAT.out k
        have hb1 := HBT.out k
        rw [hx] at ha1
        rw [hy] at hb1
        have HA1 := Lib.hid ha1
        have HB1 := Lib.hid hb1
        have hd1 : dif a b (k + 1) = dif a b k ||| (x ^^^ y).toNat := by rw [← hx, ← hy]; rfl
        have hor := i64_or_n (dif a b k) (x ^^^ y).toNat (HLT.out k) (by have := (x ^^^ y).toNat_lt; omega)
        have hv : v8 (x ^^^ y) = (((x ^^^ y).toNat : Nat) : Int) := rfl
        rw [← hv, ← hd1] at hor
        obtain ⟨D1, hD1⟩ : ∃ D1, dif a b (k + 1) = D1 := ⟨_, rfl⟩
        rw [hD1] at hor
        have HD1 := Lib.hid hD1
        have h8 := v8_lo (x ^^^ y)
        have h9 := v8_hi (x ^^^ y)
        clear ha1 hb1 hd1 hv hx hy hD1
        first
          | have hki : (k : Int) < (b.length : Int) := by have := HM.out; omega
          | have hki : (k : Int) < (a.length : Int) := by have := HM.out; omega
        go_wp2_with fail
        refine HA1.out.mono ?_
        rintro e w1 ⟨rfl, rfl⟩
        go_wp2_with fail
        refine HB1.out.mono ?_
        rintro e w1 ⟨rfl, rfl⟩
        go_wp2
        go_roundw
        case rel => exact ⟨k + 1, by omega, by go_num, by rw [HD1.out], rfl⟩
        case measure => simp [intOf]; omega
      · have hkM : k = M := by omega
        first
          | have hd : ¬ k < b.length ∧ ¬ (k : Int) < (b.length : Int) := by have := HM.out; have := hc; omega
          | have hd : ¬ k < a.length ∧ ¬ (k : Int) < (a.length : Int) := by have := HM.out; omega
        obtain ⟨hd1, hd2⟩ := hd
        have hd3 := decide_eq_false hd1
        have hd4 := decide_eq_false hd2
        have hal := HALL.out
        rw [← hkM] at hal
        clear hkM
        go_wp2
        go_ret
        exact ⟨rfl, rfl⟩
end Go.Proofs.YtlndjmpopoihnaaDoor
