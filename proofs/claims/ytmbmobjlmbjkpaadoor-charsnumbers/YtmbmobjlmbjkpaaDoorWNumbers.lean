/-
  CharsNumbers walked. Conditions: the tables lie as they are laid, internal/bytealg.MaxLen holds some number.
-/
import Derived.Test.YtmbmobjlmbjkpaaDoorCAwake
import Derived.Test.YtmbmobjlmbjkpaaDoorCPureN
namespace Go.Proofs.YtmbmobjlmbjkpaaDoor
open Go.RowKit
set_option linter.unusedVariables false
/-- What holds at each round's head: what is left of the number, and its digits. -/
def PtRel (base : Nat) (w : World) (r : Nat) (t n : Value) (wr : World) : Prop :=
  ∃ (m : Nat) (T : ByteArray), t = .string T ∧ n = .int .i32 (m : Int) ∧ m ≤ r ∧ Parted base r m T.data.toList ∧ Below w.heap.size w wr
theorem conv_digit {d : Nat} (h : d < 10) (W : World) : (convert 28 9 (.slice (some ⟨W.heap.size, 0, none⟩) 1 1)).run Tryd.prog (W.alloc (.cells #[.int .u8 (48 + (d : Int))] 5)) = .ok (.string ⟨#[hexC d]⟩) (W.alloc (.cells #[.int .u8 (48 + (d : Int))] 5)) := by
  have e : ((hexC d).toNat : Int) = 48 + (d : Int) := by have := (ten_all ⟨d, h⟩).2; simp only at this; omega
  have := conv_lies (w := W.alloc (.cells #[.int .u8 (48 + (d : Int))] 5)) (B := W.heap.size + 1) (A := some ⟨W.heap.size, 0, none⟩) (bs := [hexC d]) 1 (lies_of (by omega) (fun j hj => by
    rw [Nat.zero_add, World.cell?_alloc_mark]
    obtain rfl : j = 0 := by simp at hj; omega
    simp [e]))
  exact this
theorem slice_hex : ∀ {d : Nat}, d < 16 → ∀ W : World, (Instr.slice 9 (.string ⟨#[48, 49, 50, 51, 52, 53, 54, 55, 56, 57, 97, 98, 99, 100, 101, 102]⟩) (some (.int .i32 (d : Int))) (some (.int .i32 ((d : Int) + 1))) none).run Tryd.prog W = .ok (.string ⟨#[hexC d]⟩) W
  | 0, _, _ => by kernel_rfl
  | 1, _, _ => by kernel_rfl
  | 2, _, _ => by kernel_rfl
  | 3, _, _ => by kernel_rfl
  | 4, _, _ => by kernel_rfl
  | 5, _, _ => by kernel_rfl
  | 6, _, _ => by kernel_rfl
  | 7, _, _ => by kernel_rfl
  | 8, _, _ => by kernel_rfl
  | 9, _, _ => by kernel_rfl
  | 10, _, _ => by kernel_rfl
  | 11, _, _ => by kernel_rfl
  | 12, _, _ => by kernel_rfl
  | 13, _, _ => by kernel_rfl
  | 14, _, _ => by kernel_rfl
  | 15, _, _ => by kernel_rfl
  | _ + 16, h, _ => by omega
theorem one_add (c : UInt8) (T : ByteArray) : ((⟨#[c]⟩ : ByteArray) ++ T).data.toList = c :: T.data.toList := by rw [ba_add]; rfl
/-- Noughts, up to their number. -/
def PdRel (p : Nat) (w : World) (t i : Value) (wr : World) : Prop :=
  ∃ (k : Nat) (P : ByteArray), k ≤ p ∧ t = .string P ∧ i = .int .u8 (k : Int) ∧ P.data.toList = List.replicate k 48 ∧ w = wr
theorem pad_add {k : Nat} {P : ByteArray} (h : P.data.toList = List.replicate k 48) : (P ++ (⟨#[48]⟩ : ByteArray)).data.toList = List.replicate (k + 1) 48 := by
  rw [ba_add, h, List.replicate_succ']
/-- The text of a reference by a number. -/
theorem ref_text {A P D : ByteArray} {a : List UInt8} {k : Nat} (ha : A.data.toList = a) (hp : P.data.toList = List.replicate k 48) : (A ++ P ++ D ++ (⟨#[59]⟩ : ByteArray)).data.toList = a ++ ((List.replicate k 48 ++ D.data.toList) ++ [59]) := by
  rw [ba_add, ba_add, ba_add, ha, hp]; simp
set_option maxRecDepth 100000 in
set_option maxHeartbeats 8000000 in
theorem numbers_pos (r : Nat) (hr : r < 2147483648) (b : Nat) (hb : b < 256) (w : World) (hW : Wd w) : Calls Tryd.prog 6 #[.int .i32 (r : Int), .int .u8 (b : Int)] w fun e w' => e = .returned (.bool true) ∧ Below w.heap.size w w' := by
  have HW := Lib.hid hW
  have HA := Lib.hid (awake_any w hW)
  have hr0 : ¬ (r : Int) < 0 := by omega
  have hr1 := decide_eq_false hr0
  clear hW
  go_enter Tryd.func6, Tryd.ntmps6
  go_wp2_with fail
  refine HA.out.mono ?_
  rintro e w1 ⟨rfl, hb1⟩
  have HB1 := Lib.hid hb1
  clear hb1
  go_wp2
  go_loopw [5, 8] (PtRel 10 w1 r) (fun _ n _ => (intOf n).toNat)
  case atStart => exact ⟨r, ⟨#[]⟩, rfl, rfl, Nat.le_refl _, Parted.start hr, Below.refl _ _⟩
  case round =>
    obtain ⟨m, T, rfl, rfl, hmr, hpt, hbl⟩ := hrel
    have HPT := Lib.hid hpt
    have HBL := Lib.hid hbl
    have hTs : T.size ≤ 32 := by rw [ba_size]; exact hpt.len
    clear hpt hbl
    by_cases hm : 0 < m
    · have hmz : (0 : Int) < (m : Int) := by omega
      have hd10 : m % 10 < 10 := Nat.mod_lt _ (by omega)
      have hcv := conv_digit hd10 wr
      rw [show ((m % 10 : Nat) : Int) = (m : Int) % 10 by omega] at hcv
      have HNX : Hid (PtRel 10 w1 r (.string (⟨#[hexC (m % 10)]⟩ ++ T)) (.int .i32 ((m / 10 : Nat) : Int)) (wr.alloc (.cells #[.int .u8 (48 + (m : Int) % 10)] 5))) :=
        ⟨m / 10, _, rfl, rfl, by omega, by rw [one_add]; exact HPT.out.step (.inl rfl) hm (ten_all ⟨m % 10, hd10⟩).1 (dC_ten hd10), HBL.out.alloc HBL.out.size _⟩
      generalize hexC (m % 10) = c at *
      have hXs : (⟨#[c]⟩ : ByteArray).size ≤ 1 := Nat.le_refl _
      obtain ⟨X, hX⟩ : ∃ X : ByteArray, ⟨#[c]⟩ = X := ⟨_, rfl⟩
      rw [hX] at hcv HNX hXs
      clear hX
      go_wp2
      go_roundw
      case rel => exact (show Value.int .i32 ((m / 10 : Nat) : Int) = _ by go_num) ▸ HNX.out
      case measure => simp [intOf]; omega
    · have hmz : ¬ (0 : Int) < (m : Int) := by omega
      have hmz1 := decide_eq_false hmz
      obtain rfl : m = 0 := by omega
      have HTEN : Hid (Parted 10 r 0 T.data.toList) := HPT.out
      have HB2 : Hid (Below w.heap.size w wr) := HB1.out.trans (HBL.out.mono HB1.out.size)
      obtain ⟨w2, hw2⟩ : ∃ w2, wr = w2 := ⟨_, rfl⟩
      rw [hw2] at HB2
      obtain ⟨TEN, hTEN⟩ : ∃ TEN, T = TEN := ⟨_, rfl⟩
      rw [hTEN] at HTEN hTs
      clear HPT HBL
      go_wp2
      go_loopw [6, 9] (PtRel 16 w2 r) (fun _ n _ => (intOf n).toNat)
      case atStart => exact ⟨r, ⟨#[]⟩, rfl, rfl, Nat.le_refl _, Parted.start hr, hw2 ▸ Below.refl _ _⟩
      case round =>
        obtain ⟨m, T, rfl, rfl, hmr, hpt, hbl⟩ := hrel
        have HPT := Lib.hid hpt
        have HBL := Lib.hid hbl
        have hTs2 : T.size ≤ 32 := by rw [ba_size]; exact hpt.len
        clear hpt hbl
        by_cases hm : 0 < m
        · have hmz : (0 : Int) < (m : Int) := by omega
          have hd16 : m % 16 < 16 := Nat.mod_lt _ (by omega)
          have hcv := slice_hex hd16
          rw [show ((m % 16 : Nat) : Int) = (m : Int) % 16 by omega] at hcv
          have HNX : Hid (PtRel 16 w2 r (.string (⟨#[hexC (m % 16)]⟩ ++ T)) (.int .i32 ((m / 16 : Nat) : Int)) wr) :=
            ⟨m / 16, _, rfl, rfl, by omega, by rw [one_add]; exact HPT.out.step (.inr rfl) hm (hex_all ⟨m % 16, hd16⟩).1 (dC_hex hd16), HBL.out⟩
          generalize hexC (m % 16) = c at *
          have hXs : (⟨#[c]⟩ : ByteArray).size ≤ 1 := Nat.le_refl _
          obtain ⟨X, hX⟩ : ∃ X : ByteArray, ⟨#[c]⟩ = X := ⟨_, rfl⟩
          rw [hX] at hcv HNX hXs
          clear hX
          go_wp2
          go_roundw
          case rel => exact (show Value.int .i32 ((m / 16 : Nat) : Int) = _ by go_num) ▸ HNX.out
          case measure => simp [intOf]; omega
        · have hmz : ¬ (0 : Int) < (m : Int) := by omega
          have hmz1 := decide_eq_false hmz
          obtain rfl : m = 0 := by omega
          have HHEX : Hid (Parted 16 r 0 T.data.toList) := HPT.out
          have HB3 : Hid (Below w.heap.size w wr) := HB2.out.trans (HBL.out.mono HB2.out.size)
          obtain ⟨w3, hw3⟩ : ∃ w3, wr = w3 := ⟨_, rfl⟩
          rw [hw3] at HB3
          obtain ⟨HEX, hHEX⟩ : ∃ HEX, T = HEX := ⟨_, rfl⟩
          rw [hHEX] at HHEX hTs2
          obtain ⟨p, hp⟩ : ∃ p, b % 5 + 1 = p := ⟨_, rfl⟩
          have hpz : (b : Int) % 5 + 1 = (p : Int) := by omega
          have hp1 : 1 ≤ p := by omega
          have hp5 : p ≤ 5 := by omega
          clear HPT HBL hp
          go_wp2
          go_loopw [7, 50] (PdRel p w3) (fun _ i _ => p - (intOf i).toNat)
          case atStart => exact ⟨0, ⟨#[]⟩, Nat.zero_le _, rfl, rfl, rfl, rfl⟩
          case round =>
            obtain ⟨k, P, hk, rfl, rfl, hP, rfl⟩ := hrel
            have HP := Lib.hid hP
            have hPs : P.size ≤ 5 := by rw [ba_size, hP, List.length_replicate]; omega
            clear hP
            by_cases hkp : k < p
            · have hkz : (k : Int) < (p : Int) := by omega
              have HNX : Hid (PdRel p w3 (.string (P ++ ⟨#[48]⟩)) (.int .u8 ((k + 1 : Nat) : Int)) w3) := ⟨k + 1, _, hkp, rfl, rfl, pad_add HP.out, rfl⟩
              have hXs : (⟨#[48]⟩ : ByteArray).size ≤ 1 := Nat.le_refl _
              go_wp2
              go_roundw
              case rel => exact (show Value.int .u8 ((k + 1 : Nat) : Int) = _ by go_num) ▸ HNX.out
              case measure => simp [intOf]; omega
            · have hkz : ¬ (k : Int) < (p : Int) := by omega
              have hkz1 := decide_eq_false hkz
              obtain rfl : k = p := by omega
              have l1 : (⟨#[38, 35]⟩ ++ P ++ TEN ++ ⟨#[59]⟩ : ByteArray).size ≤ 100 := by rw [ba_add_size, ba_add_size, ba_add_size, show (⟨#[38, 35]⟩ : ByteArray).size = 2 from rfl, show (⟨#[59]⟩ : ByteArray).size = 1 from rfl]; omega
              have l2 : (⟨#[38, 35, 120]⟩ ++ P ++ HEX ++ ⟨#[59]⟩ : ByteArray).size ≤ 100 := by rw [ba_add_size, ba_add_size, ba_add_size, show (⟨#[38, 35, 120]⟩ : ByteArray).size = 3 from rfl, show (⟨#[59]⟩ : ByteArray).size = 1 from rfl]; omega
              have e1 : contL (⟨#[38, 35]⟩ ++ P ++ TEN ++ ⟨#[59]⟩ : ByteArray).data.toList = if xmlB (r : Int) = true then some (encB (r : Int)) else none := by
                rw [ref_text (a := [38, 35]) rfl HP.out]; exact cont_ten (Digits.of (by omega) hp1 HTEN.out)
              have e2 : valL (⟨#[38, 35, 120]⟩ ++ P ++ HEX ++ ⟨#[59]⟩ : ByteArray).data.toList = if xmlB (r : Int) = true then some (encB (r : Int)) else none := by
                rw [ref_text (a := [38, 35, 120]) rfl HP.out]; exact val_hex (Digits.of (by omega) hp1 HHEX.out)
              have HX := Lib.hid (refXml_any (r : Int))
              cases hx : xmlB (r : Int) with
              | false =>
                rw [hx] at HX e1 e2
                rw [if_neg (by simp)] at e1 e2
                have H1 : Hid (∀ W, Wd W → Calls Tryd.prog 10 #[.string (⟨#[38, 35]⟩ ++ P ++ TEN ++ ⟨#[59]⟩)] W fun e w' => e = .returned (.tuple #[.string ⟨#[]⟩, .bool false]) ∧ Below W.heap.size W w') := fun W h => (content_any _ (by omega) W h).mono fun e w' ⟨h1, h2⟩ => ⟨(e1 ▸ h1).none_form, h2⟩
                have H2 : Hid (∀ W, Wd W → Calls Tryd.prog 11 #[.string (⟨#[38, 35, 120]⟩ ++ P ++ HEX ++ ⟨#[59]⟩)] W fun e w' => e = .returned (.tuple #[.string ⟨#[]⟩, .bool false]) ∧ Below W.heap.size W w') := fun W h => (value_any _ (by omega) W h).mono fun e w' ⟨h1, h2⟩ => ⟨(e2 ▸ h1).none_form, h2⟩
                clear l1 l2 e1 e2 hx
                go_wp2_with fail
                refine (H1.out _ (HW.out.later HB3.out)).mono ?_
                rintro e w4 ⟨rfl, hb4⟩
                have HB4 := Lib.hid (HB3.out.trans (hb4.mono HB3.out.size))
                clear hb4
                go_wp2_with fail
                refine (H2.out _ (HW.out.later HB4.out)).mono ?_
                rintro e w5 ⟨rfl, hb5⟩
                have HB5 := Lib.hid (HB4.out.trans (hb5.mono HB4.out.size))
                clear hb5
                go_wp2_with fail
                refine (HX.out _).mono ?_
                rintro e w6 ⟨rfl, hw6⟩
                rw [← hw6]
                clear hw6
                go_wp2
                go_ret
                exact ⟨rfl, HB5.out⟩
              | true =>
                rw [hx] at HX e1 e2
                rw [if_pos rfl] at e1 e2
                have HC := Lib.hid (xml_ch hx)
                obtain ⟨Y, hY⟩ : ∃ Y : ByteArray, ⟨(encB (r : Int)).toArray⟩ = Y := ⟨_, rfl⟩
                have hYl : Y.data.toList = encB (r : Int) := by rw [← hY]
                have HY := Lib.hid hY
                have H1 : Hid (∀ W, Wd W → Calls Tryd.prog 10 #[.string (⟨#[38, 35]⟩ ++ P ++ TEN ++ ⟨#[59]⟩)] W fun e w' => e = .returned (.tuple #[.string Y, .bool true]) ∧ Below W.heap.size W w') := fun W h => (content_any _ (by omega) W h).mono fun e w' ⟨h1, h2⟩ => ⟨(e1 ▸ h1).some_form hYl, h2⟩
                have H2 : Hid (∀ W, Wd W → Calls Tryd.prog 11 #[.string (⟨#[38, 35, 120]⟩ ++ P ++ HEX ++ ⟨#[59]⟩)] W fun e w' => e = .returned (.tuple #[.string Y, .bool true]) ∧ Below W.heap.size W w') := fun W h => (value_any _ (by omega) W h).mono fun e w' ⟨h1, h2⟩ => ⟨(e2 ▸ h1).some_form hYl, h2⟩
                clear l1 l2 e1 e2 hx hY hYl
                go_wp2_with fail
                refine (H1.out _ (HW.out.later HB3.out)).mono ?_
                rintro e w4 ⟨rfl, hb4⟩
                have HB4 := Lib.hid (HB3.out.trans (hb4.mono HB3.out.size))
                clear hb4
                go_wp2_with fail
                refine (H2.out _ (HW.out.later HB4.out)).mono ?_
                rintro e w5 ⟨rfl, hb5⟩
                have HB5 := Lib.hid (HB4.out.trans (hb5.mono HB4.out.size))
                clear hb5
                go_wp2_with fail
                refine (HX.out _).mono ?_
                rintro e w6 ⟨rfl, hw6⟩
                rw [← hw6]
                clear hw6
                have HON := Lib.hid (refOne_any (r : Int) HC.out w5)
                have hcv := conv_one (r : Int) w5
                have HBW : Hid (Below w.heap.size w (w5.alloc (.cells (u8c (encB (r : Int))).toArray 5))) := HB5.out.alloc HB5.out.size _
                rw [HY.out] at hcv
                generalize (encB (r : Int)).length = M at *
                obtain ⟨W, hW⟩ : ∃ W, w5.alloc (.cells (u8c (encB (r : Int))).toArray 5) = W := ⟨_, rfl⟩
                rw [hW] at hcv HBW HON
                clear hW
                go_wp2_with fail
                refine HON.out.mono ?_
                rintro e w7 ⟨rfl, hw7⟩
                rw [← hw7]
                clear hw7
                go_wp2
                go_ret
                exact ⟨rfl, HBW.out⟩
theorem numbers_num (x0 : Int) (wx0 : (Lit.int .i32 x0).wf = true) (x1 : Int) (wx1 : (Lit.int .u8 x1).wf = true) (w : World) (hW : Wd w) : Calls Tryd.prog 6 #[.int .i32 x0, .int .u8 x1] w fun e w' => e = .returned (.bool true) ∧ Below w.heap.size w w' := by
  have h0 : -2147483648 ≤ x0 ∧ x0 < 2147483648 := by
    have h : IntKind.i32.min ≤ x0 ∧ x0 ≤ IntKind.i32.max := by simpa [Lit.wf] using wx0
    have e1 : IntKind.i32.min = -2147483648 := rfl
    have e2 : IntKind.i32.max = 2147483647 := rfl
    omega
  have h1 : 0 ≤ x1 ∧ x1 < 256 := by
    have h : IntKind.u8.min ≤ x1 ∧ x1 ≤ IntKind.u8.max := by simpa [Lit.wf] using wx1
    have e1 : IntKind.u8.min = 0 := rfl
    have e2 : IntKind.u8.max = 255 := rfl
    omega
  clear wx0 wx1
  by_cases hn : x0 < 0
  · have HW := Lib.hid hW
    have HA := Lib.hid (awake_any w hW)
    clear hW
    go_enter Tryd.func6, Tryd.ntmps6
    go_wp2_with fail
    refine HA.out.mono ?_
    rintro e w1 ⟨rfl, hb1⟩
    go_wp2_with fail
    refine (awake_any w1 (HW.out.later hb1)).mono ?_
    rintro e w2 ⟨rfl, hb2⟩
    go_wp2
    go_ret
    exact ⟨rfl, hb1.trans (hb2.mono hb1.size)⟩
  · obtain ⟨r, rfl⟩ := Int.eq_ofNat_of_zero_le (show 0 ≤ x0 by omega)
    obtain ⟨b, rfl⟩ := Int.eq_ofNat_of_zero_le h1.1
    exact numbers_pos r (by omega) b (by omega) w hW
end Go.Proofs.YtmbmobjlmbjkpaaDoor
