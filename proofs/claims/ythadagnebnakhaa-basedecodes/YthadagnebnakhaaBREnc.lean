/-
  The document's own letters of bytes. Conditions: there are not too many bytes.
-/
import Derived.Test.YthadagnebnakhaaBSq
import Derived.Laws.Concat
namespace Go.Proofs.Ythadagnebnakhaa
open Go.RowKit
set_option linter.unusedVariables false
def REN (b : List UInt8) (w : World) (v i : Value) (wr : World) : Prop := ∃ k : Nat, 3 * k ≤ b.length + 2 ∧ i = .int .i64 ((3 * k : Nat) : Int) ∧ v = .string ⟨(enc (b.take (3 * k))).toArray⟩ ∧ Below w.heap.size w wr
theorem lies_at {w : World} {A : Option Addr} {l : List UInt8} (h : Lies w A l) {j : Nat} (hj : j < l.length) : ∃ b o, A = some ⟨b, o, none⟩ ∧ b < w.heap.size ∧ ∀ i, i < l.length → w.cell? ⟨b, o + i, none⟩ = some (.int .u8 ((l.getD i 0).toNat : Int)) := by
  obtain ⟨b, o, e, hb, hr⟩ := h (by rintro rfl; simp at hj)
  exact ⟨b, o, e, hb, fun i hi => hr i _ (u8c_at hi)⟩
theorem letter_int (z : Int) (n : Nat) (hz : z = (n : Int)) (h : n < 64) (w : World) : Calls Try.prog 17 #[.int .i64 z] w fun e w' => e = .returned (.int .u8 (v8 (ltr n))) ∧ w = w' := by
  subst hz; exact letter_any n h w
theorem take_three (b : List UInt8) (p : Nat) : b.take (p + 3) = b.take p ++ (b.drop p).take 3 := List.take_add
theorem enc_on {b : List UInt8} {p : Nat} (hp : p % 3 = 0) (hpl : p ≤ b.length) {l : List UInt8} (hl : (b.drop p).take 3 = l) : enc (b.take (p + 3)) = enc (b.take p) ++ enc l := by
  rw [take_three, hl, enc_append _ _ (by rw [List.length_take, Nat.min_eq_left hpl]; exact hp)]
theorem drop_at {b : List UInt8} {p : Nat} (h : p < b.length) : b.drop p = b.getD p 0 :: b.drop (p + 1) := by
  rw [List.drop_eq_getElem_cons h, List.getD_eq_getElem?_getD, List.getElem?_eq_getElem h]; rfl
theorem conv_four {W : World} {g : Nat} {a b c d : UInt8} (h : Holds W g 5 (u8c [a, b, c, d])) : (convert 22 9 (.slice (some ⟨g, 0, none⟩) 4 4)).run Try.prog W = .ok (.string ⟨[a, b, c, d].toArray⟩) W :=
  conv_at (bs := [a, b, c, d]) 4 (fun j v hv => by rw [Nat.zero_add]; exact (Holds.cell h j).trans hv)
set_option maxHeartbeats 2000000 in
theorem refenc_any (A : Option Addr) (b : List UInt8) (cap : Nat) (w : World) (hA : Lies w A b) (hn : b.length ≤ 100000) :
    Calls Try.prog 11 #[.slice A b.length cap] w fun e w' => e = .returned (.string ⟨(enc b).toArray⟩) ∧ Below w.heap.size w w' := by
  obtain ⟨N, hN⟩ : ∃ N, b.length = N := ⟨_, rfl⟩
  have HN := Lib.hid hN
  have HA := Lib.hid hA
  rw [hN] at hn ⊢
  clear hN hA
  go_enter Try.func11, Try.ntmps11
  go_wp2
  go_loopw [3, 4] (REN b w) (fun _ i _ => N + 3 - (intOf i).toNat)
  case atStart => exact ⟨0, by omega, rfl, by simp [enc], Below.refl _ _⟩
  case round =>
    obtain ⟨k, hk, rfl, rfl, hb⟩ := hrel
    rw [HN.out] at hk
    obtain ⟨O, hO⟩ : ∃ O : ByteArray, ⟨(enc (b.take (3 * k))).toArray⟩ = O := ⟨_, rfl⟩
    have hOs : O.size ≤ 200000 := by
      rw [← hO]
      have := enc_length (b.take (3 * k))
      have h2 : (b.take (3 * k)).length ≤ b.length := List.length_take_le' _ _
      rw [HN.out] at h2
      show (enc (b.take (3 * k))).length ≤ _
      omega
    rw [hO]
    have HO := Lib.hid hO
    clear hO
    obtain ⟨p, hp⟩ : ∃ p, 3 * k = p := ⟨_, rfl⟩
    rw [hp] at hk HO ⊢
    by_cases hlt : p < N
    · obtain ⟨bb, oo, rfl, hbb, hcl⟩ := lies_at HA.out (j := p) (by rw [HN.out]; exact hlt)
      have hcell : ∀ i, i < N → wr.cell? ⟨bb, oo + i, none⟩ = some (.int .u8 ((b.getD i 0).toNat : Int)) := fun i hi => by
        rw [hb.cell (p := ⟨bb, oo + i, none⟩) hbb]; exact hcl i (by rw [HN.out]; exact hi)
      have HB := Lib.hid hb
      clear hcl hb
      have hpz : (p : Int) < (N : Int) := by omega
      have c0 := hcell p hlt
      have hx0 : (b.getD p 0).toNat < 256 := (b.getD p 0).toNat_lt
      generalize hX0 : b.getD p 0 = y0 at *
      generalize hY0 : y0.toNat = x0 at *
      by_cases h3 : p + 2 < N
      · have c1 := hcell (p + 1) (by omega)
        have c2 := hcell (p + 2) (by omega)
        have hx1 : (b.getD (p + 1) 0).toNat < 256 := (b.getD (p + 1) 0).toNat_lt
        have hx2 : (b.getD (p + 2) 0).toNat < 256 := (b.getD (p + 2) 0).toNat_lt
        generalize hX1 : b.getD (p + 1) 0 = y1 at *
        generalize hY1 : y1.toNat = x1 at *
        generalize hX2 : b.getD (p + 2) 0 = y2 at *
        generalize hY2 : y2.toNat = x2 at *
        have l1 : (1 : Int) < (N : Int) - (p : Int) := by omega
        have l2 : (2 : Int) < (N : Int) - (p : Int) := by omega
        have l3 : ¬ (N : Int) - (p : Int) < 3 := by omega
        have l4 : ¬ (N : Int) - (p : Int) < 2 := by omega
        have l3d := decide_eq_false l3
        have l4d := decide_eq_false l4
        clear hcell
        have HNX : Hid (enc (b.take (p + 3)) = enc (b.take p) ++ [ltr ((x0 * 65536 + x1 * 256 + x2) / 262144), ltr ((x0 * 65536 + x1 * 256 + x2) / 4096 % 64), ltr ((x0 * 65536 + x1 * 256 + x2) / 64 % 64), ltr ((x0 * 65536 + x1 * 256 + x2) % 64)]) := by
          unfold Hid
          rw [enc_on (by omega) (by rw [HN.out]; omega) (l := [y0, y1, y2]) (by rw [drop_at (by rw [HN.out]; omega), drop_at (by rw [HN.out]; omega), drop_at (by rw [HN.out]; omega), hX0, hX1, hX2]; rfl), enc, enc, hY0, hY1, hY2]; rfl
        clear hX0 hX1 hX2 hY0 hY1 hY2
        go_wp2_with fail
        refine (letter_int _ ((x0 * 65536 + x1 * 256 + x2) / 262144) (by omega) (by omega) wr).mono ?_
        rintro e w1 ⟨rfl, rfl⟩
        generalize hm1 : ltr ((x0 * 65536 + x1 * 256 + x2) / 262144) = a1
        go_wp2_with fail
        refine (letter_int _ ((x0 * 65536 + x1 * 256 + x2) / 4096 % 64) (by omega) (by omega) wr).mono ?_
        rintro e w2 ⟨rfl, rfl⟩
        generalize hm2 : ltr ((x0 * 65536 + x1 * 256 + x2) / 4096 % 64) = a2
        go_wp2_with fail
        refine (letter_int _ ((x0 * 65536 + x1 * 256 + x2) / 64 % 64) (by omega) (by omega) wr).mono ?_
        rintro e w3 ⟨rfl, rfl⟩
        generalize hm3 : ltr ((x0 * 65536 + x1 * 256 + x2) / 64 % 64) = a3
        go_wp2_with fail
        refine (letter_int _ ((x0 * 65536 + x1 * 256 + x2) % 64) (by omega) (by omega) wr).mono ?_
        rintro e w4 ⟨rfl, rfl⟩
        generalize hm4 : ltr ((x0 * 65536 + x1 * 256 + x2) % 64) = a4
        have HH := Lib.hid (Holds.fresh wr 5 (u8c [a1, a2, a3, a4]))
        have hcv : ∀ W : World, W = wr.alloc (.cells #[.int .u8 (v8 a1), .int .u8 (v8 a2), .int .u8 (v8 a3), .int .u8 (v8 a4)] 5) → (convert 22 9 (.slice (some ⟨wr.heap.size, 0, none⟩) 4 4)).run Try.prog W = .ok (.string ⟨[a1, a2, a3, a4].toArray⟩) W := fun W hW => by subst hW; exact conv_four HH.out
        have hcv2 := hcv _ rfl
        obtain ⟨F, hF⟩ : ∃ F : ByteArray, ⟨[a1, a2, a3, a4].toArray⟩ = F := ⟨_, rfl⟩
        rw [hF] at hcv2
        have hFs : F.size = 4 := by rw [← hF]; rfl
        have hadd : ¬ (O.size + F.size > 9223372036854775807) := by omega
        have HF := Lib.hid hF
        have HM : Hid (enc (b.take (p + 3)) = enc (b.take p) ++ [a1, a2, a3, a4]) := by unfold Hid; rw [HNX.out, hm1, hm2, hm3, hm4]
        clear hcv hF hm1 hm2 hm3 hm4 HNX c0 c1 c2
        go_wp2
        go_roundw
        case rel =>
          refine ⟨k + 1, by rw [HN.out]; omega, by go_num, ?_, (HB.out.alloc HB.out.size _)⟩
          rw [show 3 * (k + 1) = p + 3 by omega, HM.out, ← ByteArray.mk_append_mk, HO.out, HF.out]
        case measure => simp [intOf]; omega
      · by_cases h2 : p + 1 < N
        · have c1 := hcell (p + 1) (by omega)
          have hx1 : (b.getD (p + 1) 0).toNat < 256 := (b.getD (p + 1) 0).toNat_lt
          generalize hX1 : b.getD (p + 1) 0 = y1 at *
          generalize hY1 : y1.toNat = x1 at *
          have l1 : (1 : Int) < (N : Int) - (p : Int) := by omega
          have l2 : ¬ (2 : Int) < (N : Int) - (p : Int) := by omega
          have l2d := decide_eq_false l2
          have l3 : (N : Int) - (p : Int) < 3 := by omega
          have l4 : ¬ (N : Int) - (p : Int) < 2 := by omega
          have l4d := decide_eq_false l4
          clear hcell
          have HNX : Hid (enc (b.take (p + 3)) = enc (b.take p) ++ [ltr ((x0 * 65536 + x1 * 256) / 262144), ltr ((x0 * 65536 + x1 * 256) / 4096 % 64), ltr ((x0 * 65536 + x1 * 256) / 64 % 64), 61]) := by
            unfold Hid
            rw [enc_on (by omega) (by rw [HN.out]; omega) (l := [y0, y1]) (by rw [drop_at (by rw [HN.out]; omega), drop_at (by rw [HN.out]; omega), hX0, hX1, List.drop_eq_nil_of_le (by rw [HN.out]; omega)]; rfl), enc, hY0, hY1]
          clear hX0 hX1 hY0 hY1
          go_wp2_with fail
          refine (letter_int _ ((x0 * 65536 + x1 * 256) / 262144) (by omega) (by omega) wr).mono ?_
          rintro e w1 ⟨rfl, rfl⟩
          generalize hm1 : ltr ((x0 * 65536 + x1 * 256) / 262144) = a1
          go_wp2_with fail
          refine (letter_int _ ((x0 * 65536 + x1 * 256) / 4096 % 64) (by omega) (by omega) wr).mono ?_
          rintro e w2 ⟨rfl, rfl⟩
          generalize hm2 : ltr ((x0 * 65536 + x1 * 256) / 4096 % 64) = a2
          go_wp2_with fail
          refine (letter_int _ ((x0 * 65536 + x1 * 256) / 64 % 64) (by omega) (by omega) wr).mono ?_
          rintro e w3 ⟨rfl, rfl⟩
          generalize hm3 : ltr ((x0 * 65536 + x1 * 256) / 64 % 64) = a3
          go_wp2_with fail
          refine (letter_int _ ((x0 * 65536 + x1 * 256) % 64) (by omega) (by omega) wr).mono ?_
          rintro e w4 ⟨rfl, rfl⟩
          generalize hm4 : ltr ((x0 * 65536 + x1 * 256) % 64) = a4
          have HH := Lib.hid (Holds.fresh wr 5 (u8c [a1, a2, a3, 61]))
          have hcv : ∀ W : World, W = wr.alloc (.cells #[.int .u8 (v8 a1), .int .u8 (v8 a2), .int .u8 (v8 a3), .int .u8 61] 5) → (convert 22 9 (.slice (some ⟨wr.heap.size, 0, none⟩) 4 4)).run Try.prog W = .ok (.string ⟨[a1, a2, a3, 61].toArray⟩) W := fun W hW => by subst hW; exact conv_four HH.out
          have hcv2 := hcv _ rfl
          obtain ⟨F, hF⟩ : ∃ F : ByteArray, ⟨[a1, a2, a3, 61].toArray⟩ = F := ⟨_, rfl⟩
          rw [hF] at hcv2
          have hFs : F.size = 4 := by rw [← hF]; rfl
          have hadd : ¬ (O.size + F.size > 9223372036854775807) := by omega
          have HF := Lib.hid hF
          have HM : Hid (enc (b.take (p + 3)) = enc (b.take p) ++ [a1, a2, a3, 61]) := by unfold Hid; rw [HNX.out, hm1, hm2, hm3]
          clear hcv hF hm1 hm2 hm3 hm4 HNX c0 c1
          go_wp2
          go_roundw
          case rel =>
            refine ⟨k + 1, by rw [HN.out]; omega, by go_num, ?_, HB.out.alloc HB.out.size _⟩
            rw [show 3 * (k + 1) = p + 3 by omega, HM.out, ← ByteArray.mk_append_mk, HO.out, HF.out]
          case measure => simp [intOf]; omega
        · have l1 : ¬ (1 : Int) < (N : Int) - (p : Int) := by omega
          have l1d := decide_eq_false l1
          have l2 : ¬ (2 : Int) < (N : Int) - (p : Int) := by omega
          have l2d := decide_eq_false l2
          have l3 : (N : Int) - (p : Int) < 3 := by omega
          have l4 : (N : Int) - (p : Int) < 2 := by omega
          clear hcell
          have HNX : Hid (enc (b.take (p + 3)) = enc (b.take p) ++ [ltr ((x0 * 65536) / 262144), ltr ((x0 * 65536) / 4096 % 64), 61, 61]) := by
            unfold Hid
            rw [enc_on (by omega) (by rw [HN.out]; omega) (l := [y0]) (by rw [drop_at (by rw [HN.out]; omega), hX0, List.drop_eq_nil_of_le (by rw [HN.out]; omega)]; rfl), enc, hY0]
          clear hX0 hY0
          go_wp2_with fail
          refine (letter_int _ ((x0 * 65536) / 262144) (by omega) (by omega) wr).mono ?_
          rintro e w1 ⟨rfl, rfl⟩
          generalize hm1 : ltr ((x0 * 65536) / 262144) = a1
          go_wp2_with fail
          refine (letter_int _ ((x0 * 65536) / 4096 % 64) (by omega) (by omega) wr).mono ?_
          rintro e w2 ⟨rfl, rfl⟩
          generalize hm2 : ltr ((x0 * 65536) / 4096 % 64) = a2
          go_wp2_with fail
          refine (letter_int _ ((x0 * 65536) / 64 % 64) (by omega) (by omega) wr).mono ?_
          rintro e w3 ⟨rfl, rfl⟩
          generalize hm3 : ltr ((x0 * 65536) / 64 % 64) = a3
          go_wp2_with fail
          refine (letter_int _ ((x0 * 65536) % 64) (by omega) (by omega) wr).mono ?_
          rintro e w4 ⟨rfl, rfl⟩
          generalize hm4 : ltr ((x0 * 65536) % 64) = a4
          have HH := Lib.hid (Holds.fresh wr 5 (u8c [a1, a2, 61, 61]))
          have hcv : ∀ W : World, W = wr.alloc (.cells #[.int .u8 (v8 a1), .int .u8 (v8 a2), .int .u8 61, .int .u8 61] 5) → (convert 22 9 (.slice (some ⟨wr.heap.size, 0, none⟩) 4 4)).run Try.prog W = .ok (.string ⟨[a1, a2, 61, 61].toArray⟩) W := fun W hW => by subst hW; exact conv_four HH.out
          have hcv2 := hcv _ rfl
          obtain ⟨F, hF⟩ : ∃ F : ByteArray, ⟨[a1, a2, 61, 61].toArray⟩ = F := ⟨_, rfl⟩
          rw [hF] at hcv2
          have hFs : F.size = 4 := by rw [← hF]; rfl
          have hadd : ¬ (O.size + F.size > 9223372036854775807) := by omega
          have HF := Lib.hid hF
          have HM : Hid (enc (b.take (p + 3)) = enc (b.take p) ++ [a1, a2, 61, 61]) := by unfold Hid; rw [HNX.out, hm1, hm2]
          clear hcv hF hm1 hm2 hm3 hm4 HNX c0
          go_wp2
          go_roundw
          case rel =>
            refine ⟨k + 1, by rw [HN.out]; omega, by go_num, ?_, HB.out.alloc HB.out.size _⟩
            rw [show 3 * (k + 1) = p + 3 by omega, HM.out, ← ByteArray.mk_append_mk, HO.out, HF.out]
          case measure => simp [intOf]; omega
    · have hpz : ¬ (p : Int) < (N : Int) := by omega
      have hpz1 := decide_eq_false hpz
      have HE : Hid (O = ⟨(enc b).toArray⟩) := by unfold Hid; rw [← HO.out, List.take_of_length_le (by rw [HN.out]; omega)]
      go_wp2
      go_ret
      exact ⟨by rw [← HE.out]; rfl, hb⟩
end Go.Proofs.Ythadagnebnakhaa
