/-
  The document's own answer for the character that bytes begin with, whatever the bytes. Conditions: the bytes lie where the slice says.
-/
import Derived.Test.YtchnmkagemmjoaaDoorFirst1
import Derived.Test.YtchnmkagemmjoaaDoorFirst2
import Derived.Test.YtchnmkagemmjoaaDoorFirst3
import Derived.Test.YtchnmkagemmjoaaDoorFirst4
namespace Go.Proofs.YtchnmkagemmjoaaDoor
open Go.RowKit
set_option linter.unusedVariables false
set_option maxHeartbeats 1000000 in
theorem first_short (b o n c L : Nat) (x0 : UInt8) (w : World) (h0 : 1 ≤ n) (hn : n < L) (hnc : n ≤ c) (hcm : c ≤ 9223372036854775807) (hl : longN x0.toNat = L)
    (c0 : w.cell? ⟨b, o, none⟩ = some (.int .u8 (x0.toNat : Int))) :
    Calls Tryd.prog 51 #[.slice (some ⟨b, o, none⟩) n c] w fun e w' => e = .returned (.tuple #[.int .i32 0, .int .i64 0]) ∧ Below w.heap.size w w' := by
  have l0 := x0.toNat_lt
  have hn0 : ((n : Int) == 0) = false := by rw [beq_eq_false_iff_ne]; omega
  have hn2 : (n : Int) < (L : Int) := by omega
  go_enter Tryd.func51, Tryd.ntmps51
  go_wp2_with (go_at_call 71; refine (long_any _ _).mono ?_; rintro e w' ⟨rfl, rfl⟩; rw [hl])
  go_ret2
  exact ⟨rfl, Below.refl _ _⟩
/-- Bytes begin with a character's. -/
def Begins (bs : List UInt8) : Prop := ∃ r rest, chB r = true ∧ bs = encB r ++ rest
/-- What is answered. -/
def FirstAns (bs : List UInt8) (e : Ending) : Prop :=
  (∃ r rest, chB r = true ∧ bs = encB r ++ rest ∧ e = .returned (.tuple #[.int .i32 r, .int .i64 (encB r).length])) ∨ (¬ Begins bs ∧ e = .returned (.tuple #[.int .i32 0, .int .i64 0]))
theorem longN_cases (b : Nat) : longN b = 1 ∨ longN b = 2 ∨ longN b = 3 ∨ longN b = 4 := by
  unfold longN
  repeat' split
  all_goals simp
theorem toNat_byte {n : Int} {x : UInt8} (h : n.toNat.toUInt8 = x) (h0 : 0 ≤ n) (h1 : n < 256) : (x.toNat : Int) = n := by
  rw [← h, byte_of h0 h1]; omega
theorem encB_form {r : Int} (hc : chB r = true) :
    (∃ x0, encB r = [x0] ∧ longN x0.toNat = 1 ∧ (x0.toNat : Int) = r) ∨
    (∃ x0 x1, encB r = [x0, x1] ∧ longN x0.toNat = 2 ∧ (((x0.toNat : Int) - 192) * 64 + (x1.toNat : Int) - 128) = r) ∨
    (∃ x0 x1 x2, encB r = [x0, x1, x2] ∧ longN x0.toNat = 3 ∧ ((((x0.toNat : Int) - 224) * 64 + (x1.toNat : Int) - 128) * 64 + (x2.toNat : Int) - 128) = r) ∨
    (∃ x0 x1 x2 x3, encB r = [x0, x1, x2, x3] ∧ longN x0.toNat = 4 ∧ (((((x0.toNat : Int) - 240) * 64 + (x1.toNat : Int) - 128) * 64 + (x2.toNat : Int) - 128) * 64 + (x3.toNat : Int) - 128) = r) := by
  rw [chB_iff] at hc
  rcases (show r ≤ 127 ∨ (128 ≤ r ∧ r ≤ 2047) ∨ (2048 ≤ r ∧ r ≤ 65535) ∨ 65536 ≤ r from by omega) with e | e | e | e
  · have he : encB r = [(r).toNat.toUInt8] := by simp only [encB, encZ]; rw [if_pos e]; rfl
    rw [he]
    refine .inl ⟨_, rfl, ?_, ?_⟩
    · rw [byte_of (show 0 ≤ r by omega) (show r < 256 by omega)]
      unfold longN
      repeat' split
      all_goals omega
    · rw [byte_of (show 0 ≤ r by omega) (show r < 256 by omega)]; omega
  · have he : encB r = [(192 + r / 64).toNat.toUInt8, (128 + r % 64).toNat.toUInt8] := by simp only [encB, encZ]; rw [if_neg (by omega), if_pos (by omega)]; rfl
    rw [he]
    refine .inr (.inl ⟨_, _, rfl, ?_, ?_⟩)
    · rw [byte_of (show 0 ≤ 192 + r / 64 by omega) (show 192 + r / 64 < 256 by omega)]
      unfold longN
      repeat' split
      all_goals omega
    · rw [byte_of (show 0 ≤ 192 + r / 64 by omega) (show 192 + r / 64 < 256 by omega), byte_of (show 0 ≤ 128 + r % 64 by omega) (show 128 + r % 64 < 256 by omega)]; omega
  · have he : encB r = [(224 + r / 4096).toNat.toUInt8, (128 + r / 64 % 64).toNat.toUInt8, (128 + r % 64).toNat.toUInt8] := by simp only [encB, encZ]; rw [if_neg (by omega), if_neg (by omega), if_pos (by omega)]; rfl
    rw [he]
    refine .inr (.inr (.inl ⟨_, _, _, rfl, ?_, ?_⟩))
    · rw [byte_of (show 0 ≤ 224 + r / 4096 by omega) (show 224 + r / 4096 < 256 by omega)]
      unfold longN
      repeat' split
      all_goals omega
    · rw [byte_of (show 0 ≤ 224 + r / 4096 by omega) (show 224 + r / 4096 < 256 by omega), byte_of (show 0 ≤ 128 + r / 64 % 64 by omega) (show 128 + r / 64 % 64 < 256 by omega), byte_of (show 0 ≤ 128 + r % 64 by omega) (show 128 + r % 64 < 256 by omega)]; omega
  · have he : encB r = [(240 + r / 262144).toNat.toUInt8, (128 + r / 4096 % 64).toNat.toUInt8, (128 + r / 64 % 64).toNat.toUInt8, (128 + r % 64).toNat.toUInt8] := by simp only [encB, encZ]; rw [if_neg (by omega), if_neg (by omega), if_neg (by omega)]; rfl
    rw [he]
    refine .inr (.inr (.inr ⟨_, _, _, _, rfl, ?_, ?_⟩))
    · rw [byte_of (show 0 ≤ 240 + r / 262144 by omega) (show 240 + r / 262144 < 256 by omega)]
      unfold longN
      repeat' split
      all_goals omega
    · rw [byte_of (show 0 ≤ 240 + r / 262144 by omega) (show 240 + r / 262144 < 256 by omega), byte_of (show 0 ≤ 128 + r / 4096 % 64 by omega) (show 128 + r / 4096 % 64 < 256 by omega), byte_of (show 0 ≤ 128 + r / 64 % 64 by omega) (show 128 + r / 64 % 64 < 256 by omega), byte_of (show 0 ≤ 128 + r % 64 by omega) (show 128 + r % 64 < 256 by omega)]; omega
set_option maxHeartbeats 1000000 in
theorem first_any (b o n c : Nat) (bs : List UInt8) (w : World) (hbn : bs.length = n) (h0 : 0 < n) (hnc : n ≤ c) (hcm : c ≤ 9223372036854775807) (hb : b < w.heap.size)
    (hc : ∀ j (hj : j < bs.length), w.cell? ⟨b, o + j, none⟩ = some (.int .u8 (bs[j].toNat : Int))) :
    Calls Tryd.prog 51 #[.slice (some ⟨b, o, none⟩) n c] w fun e w' => FirstAns bs e ∧ Below w.heap.size w w' := by
  match bs, hbn, hc with
  | [], hbn, _ => simp at hbn; omega
  | x0 :: tl, hbn, hc =>
    have c0 := hc 0 (by simp)
    rw [Nat.add_zero] at c0
    simp only [List.getElem_cons_zero] at c0
    by_cases hs : n < longN x0.toNat
    · refine (first_short b o n c _ x0 w h0 hs hnc hcm rfl c0).mono fun e w' ⟨he, hw⟩ => ⟨.inr ⟨?_, he⟩, hw⟩
      rintro ⟨r, rest, hr, e⟩
      have hlen := congrArg List.length e
      rw [hbn, List.length_append] at hlen
      rcases encB_form hr with ⟨y0, e1, e2, _⟩ | ⟨y0, y1, e1, e2, _⟩ | ⟨y0, y1, y2, e1, e2, _⟩ | ⟨y0, y1, y2, y3, e1, e2, _⟩ <;>
      · rw [e1] at e hlen
        simp only [List.cons_append, List.cons.injEq] at e
        rw [← e.1] at e2
        simp at hlen
        omega
    · rcases longN_cases x0.toNat with hl | hl | hl | hl
      · rw [hl] at hs
        cases hch : chB (x0.toNat : Int) with
        | false =>
          refine (first_bad1 b o n c x0 w (by omega) hnc hcm hb hl c0 hch).mono fun e w' ⟨he, hw⟩ => ⟨.inr ⟨?_, he⟩, hw⟩
          rintro ⟨r, rest, hr, e⟩
          rcases encB_form hr with ⟨y0, e1, e2, e3⟩ | ⟨y0, y1, e1, e2, e3⟩ | ⟨y0, y1, y2, e1, e2, e3⟩ | ⟨y0, y1, y2, y3, e1, e2, e3⟩
          · rw [e1] at e
            simp only [List.cons_append, List.nil_append, List.cons.injEq] at e
            rw [← e.1] at e3
            rw [← e3, hch] at hr; cases hr
          · rw [e1] at e
            simp only [List.cons_append, List.nil_append, List.cons.injEq] at e
            rw [← e.1, hl] at e2; omega
          · rw [e1] at e
            simp only [List.cons_append, List.nil_append, List.cons.injEq] at e
            rw [← e.1, hl] at e2; omega
          · rw [e1] at e
            simp only [List.cons_append, List.nil_append, List.cons.injEq] at e
            rw [← e.1, hl] at e2; omega
        | true =>
          cases hE : (encB (x0.toNat : Int) == [x0]) with
          | true =>
            rw [beq_iff_eq] at hE
            refine (first_ok1 b o n c x0 w (by omega) hnc hcm hb hl c0 hch true (by rw [hE]; simp)).mono fun e w' ⟨he, hw⟩ => ⟨.inl ⟨_, tl, hch, by rw [hE]; rfl, by rw [he, hE]; rfl⟩, hw⟩
          | false =>
            refine (first_ok1 b o n c x0 w (by omega) hnc hcm hb hl c0 hch false hE).mono fun e w' ⟨he, hw⟩ => ⟨.inr ⟨?_, he⟩, hw⟩
            rintro ⟨r, rest, hr, e⟩
            rcases encB_form hr with ⟨y0, e1, e2, e3⟩ | ⟨y0, y1, e1, e2, e3⟩ | ⟨y0, y1, y2, e1, e2, e3⟩ | ⟨y0, y1, y2, y3, e1, e2, e3⟩
            · rw [e1] at e
              simp only [List.cons_append, List.nil_append, List.cons.injEq] at e
              rw [← e.1] at e3 e1
              rw [e3, e1] at hE; simp at hE
            · rw [e1] at e
              simp only [List.cons_append, List.nil_append, List.cons.injEq] at e
              rw [← e.1, hl] at e2; omega
            · rw [e1] at e
              simp only [List.cons_append, List.nil_append, List.cons.injEq] at e
              rw [← e.1, hl] at e2; omega
            · rw [e1] at e
              simp only [List.cons_append, List.nil_append, List.cons.injEq] at e
              rw [← e.1, hl] at e2; omega
      · rw [hl] at hs
        match tl, hbn, hc with
        | [], hbn, _ => simp at hbn; omega
        | x1 :: tl, hbn, hc =>
          have c1 := hc 1 (by simp)
          simp only [List.getElem_cons_succ, List.getElem_cons_zero] at c1
          cases hch : chB (((x0.toNat : Int) - 192) * 64 + (x1.toNat : Int) - 128) with
          | false =>
            refine (first_bad2 b o n c x0 x1 w (by omega) hnc hcm hb hl c0 c1 _ rfl hch).mono fun e w' ⟨he, hw⟩ => ⟨.inr ⟨?_, he⟩, hw⟩
            rintro ⟨r, rest, hr, e⟩
            rcases encB_form hr with ⟨y0, e1, e2, e3⟩ | ⟨y0, y1, e1, e2, e3⟩ | ⟨y0, y1, y2, e1, e2, e3⟩ | ⟨y0, y1, y2, y3, e1, e2, e3⟩
            · rw [e1] at e
              simp only [List.cons_append, List.nil_append, List.cons.injEq] at e
              rw [← e.1, hl] at e2; omega
            · rw [e1] at e
              simp only [List.cons_append, List.nil_append, List.cons.injEq] at e
              rw [← e.1, ← e.2.1] at e3
              rw [← e3, hch] at hr; cases hr
            · rw [e1] at e
              simp only [List.cons_append, List.nil_append, List.cons.injEq] at e
              rw [← e.1, hl] at e2; omega
            · rw [e1] at e
              simp only [List.cons_append, List.nil_append, List.cons.injEq] at e
              rw [← e.1, hl] at e2; omega
          | true =>
            cases hE : (encB (((x0.toNat : Int) - 192) * 64 + (x1.toNat : Int) - 128) == [x0, x1]) with
            | true =>
              rw [beq_iff_eq] at hE
              refine (first_ok2 b o n c x0 x1 w (by omega) hnc hcm hb hl c0 c1 _ rfl hch true (by rw [hE]; simp)).mono fun e w' ⟨he, hw⟩ => ⟨.inl ⟨_, tl, hch, by rw [hE]; rfl, by rw [he, hE]; rfl⟩, hw⟩
            | false =>
              refine (first_ok2 b o n c x0 x1 w (by omega) hnc hcm hb hl c0 c1 _ rfl hch false hE).mono fun e w' ⟨he, hw⟩ => ⟨.inr ⟨?_, he⟩, hw⟩
              rintro ⟨r, rest, hr, e⟩
              rcases encB_form hr with ⟨y0, e1, e2, e3⟩ | ⟨y0, y1, e1, e2, e3⟩ | ⟨y0, y1, y2, e1, e2, e3⟩ | ⟨y0, y1, y2, y3, e1, e2, e3⟩
              · rw [e1] at e
                simp only [List.cons_append, List.nil_append, List.cons.injEq] at e
                rw [← e.1, hl] at e2; omega
              · rw [e1] at e
                simp only [List.cons_append, List.nil_append, List.cons.injEq] at e
                rw [← e.1, ← e.2.1] at e3 e1
                rw [e3, e1] at hE; simp at hE
              · rw [e1] at e
                simp only [List.cons_append, List.nil_append, List.cons.injEq] at e
                rw [← e.1, hl] at e2; omega
              · rw [e1] at e
                simp only [List.cons_append, List.nil_append, List.cons.injEq] at e
                rw [← e.1, hl] at e2; omega
      · rw [hl] at hs
        match tl, hbn, hc with
        | [], hbn, _ => simp at hbn; omega
        | [x1], hbn, _ => simp at hbn; omega
        | x1 :: x2 :: tl, hbn, hc =>
          have c1 := hc 1 (by simp)
          simp only [List.getElem_cons_succ, List.getElem_cons_zero] at c1
          have c2 := hc 2 (by simp)
          simp only [List.getElem_cons_succ, List.getElem_cons_zero] at c2
          cases hch : chB ((((x0.toNat : Int) - 224) * 64 + (x1.toNat : Int) - 128) * 64 + (x2.toNat : Int) - 128) with
          | false =>
            refine (first_bad3 b o n c x0 x1 x2 w (by omega) hnc hcm hb hl c0 c1 c2 _ rfl hch).mono fun e w' ⟨he, hw⟩ => ⟨.inr ⟨?_, he⟩, hw⟩
            rintro ⟨r, rest, hr, e⟩
            rcases encB_form hr with ⟨y0, e1, e2, e3⟩ | ⟨y0, y1, e1, e2, e3⟩ | ⟨y0, y1, y2, e1, e2, e3⟩ | ⟨y0, y1, y2, y3, e1, e2, e3⟩
            · rw [e1] at e
              simp only [List.cons_append, List.nil_append, List.cons.injEq] at e
              rw [← e.1, hl] at e2; omega
            · rw [e1] at e
              simp only [List.cons_append, List.nil_append, List.cons.injEq] at e
              rw [← e.1, hl] at e2; omega
            · rw [e1] at e
              simp only [List.cons_append, List.nil_append, List.cons.injEq] at e
              rw [← e.1, ← e.2.1, ← e.2.2.1] at e3
              rw [← e3, hch] at hr; cases hr
            · rw [e1] at e
              simp only [List.cons_append, List.nil_append, List.cons.injEq] at e
              rw [← e.1, hl] at e2; omega
          | true =>
            cases hE : (encB ((((x0.toNat : Int) - 224) * 64 + (x1.toNat : Int) - 128) * 64 + (x2.toNat : Int) - 128) == [x0, x1, x2]) with
            | true =>
              rw [beq_iff_eq] at hE
              refine (first_ok3 b o n c x0 x1 x2 w (by omega) hnc hcm hb hl c0 c1 c2 _ rfl hch true (by rw [hE]; simp)).mono fun e w' ⟨he, hw⟩ => ⟨.inl ⟨_, tl, hch, by rw [hE]; rfl, by rw [he, hE]; rfl⟩, hw⟩
            | false =>
              refine (first_ok3 b o n c x0 x1 x2 w (by omega) hnc hcm hb hl c0 c1 c2 _ rfl hch false hE).mono fun e w' ⟨he, hw⟩ => ⟨.inr ⟨?_, he⟩, hw⟩
              rintro ⟨r, rest, hr, e⟩
              rcases encB_form hr with ⟨y0, e1, e2, e3⟩ | ⟨y0, y1, e1, e2, e3⟩ | ⟨y0, y1, y2, e1, e2, e3⟩ | ⟨y0, y1, y2, y3, e1, e2, e3⟩
              · rw [e1] at e
                simp only [List.cons_append, List.nil_append, List.cons.injEq] at e
                rw [← e.1, hl] at e2; omega
              · rw [e1] at e
                simp only [List.cons_append, List.nil_append, List.cons.injEq] at e
                rw [← e.1, hl] at e2; omega
              · rw [e1] at e
                simp only [List.cons_append, List.nil_append, List.cons.injEq] at e
                rw [← e.1, ← e.2.1, ← e.2.2.1] at e3 e1
                rw [e3, e1] at hE; simp at hE
              · rw [e1] at e
                simp only [List.cons_append, List.nil_append, List.cons.injEq] at e
                rw [← e.1, hl] at e2; omega
      · rw [hl] at hs
        match tl, hbn, hc with
        | [], hbn, _ => simp at hbn; omega
        | [x1], hbn, _ => simp at hbn; omega
        | [x1, x2], hbn, _ => simp at hbn; omega
        | x1 :: x2 :: x3 :: tl, hbn, hc =>
          have c1 := hc 1 (by simp)
          simp only [List.getElem_cons_succ, List.getElem_cons_zero] at c1
          have c2 := hc 2 (by simp)
          simp only [List.getElem_cons_succ, List.getElem_cons_zero] at c2
          have c3 := hc 3 (by simp)
          simp only [List.getElem_cons_succ, List.getElem_cons_zero] at c3
          cases hch : chB (((((x0.toNat : Int) - 240) * 64 + (x1.toNat : Int) - 128) * 64 + (x2.toNat : Int) - 128) * 64 + (x3.toNat : Int) - 128) with
          | false =>
            refine (first_bad4 b o n c x0 x1 x2 x3 w (by omega) hnc hcm hb hl c0 c1 c2 c3 _ rfl hch).mono fun e w' ⟨he, hw⟩ => ⟨.inr ⟨?_, he⟩, hw⟩
            rintro ⟨r, rest, hr, e⟩
            rcases encB_form hr with ⟨y0, e1, e2, e3⟩ | ⟨y0, y1, e1, e2, e3⟩ | ⟨y0, y1, y2, e1, e2, e3⟩ | ⟨y0, y1, y2, y3, e1, e2, e3⟩
            · rw [e1] at e
              simp only [List.cons_append, List.nil_append, List.cons.injEq] at e
              rw [← e.1, hl] at e2; omega
            · rw [e1] at e
              simp only [List.cons_append, List.nil_append, List.cons.injEq] at e
              rw [← e.1, hl] at e2; omega
            · rw [e1] at e
              simp only [List.cons_append, List.nil_append, List.cons.injEq] at e
              rw [← e.1, hl] at e2; omega
            · rw [e1] at e
              simp only [List.cons_append, List.nil_append, List.cons.injEq] at e
              rw [← e.1, ← e.2.1, ← e.2.2.1, ← e.2.2.2.1] at e3
              rw [← e3, hch] at hr; cases hr
          | true =>
            cases hE : (encB (((((x0.toNat : Int) - 240) * 64 + (x1.toNat : Int) - 128) * 64 + (x2.toNat : Int) - 128) * 64 + (x3.toNat : Int) - 128) == [x0, x1, x2, x3]) with
            | true =>
              rw [beq_iff_eq] at hE
              refine (first_ok4 b o n c x0 x1 x2 x3 w (by omega) hnc hcm hb hl c0 c1 c2 c3 _ rfl hch true (by rw [hE]; simp)).mono fun e w' ⟨he, hw⟩ => ⟨.inl ⟨_, tl, hch, by rw [hE]; rfl, by rw [he, hE]; rfl⟩, hw⟩
            | false =>
              refine (first_ok4 b o n c x0 x1 x2 x3 w (by omega) hnc hcm hb hl c0 c1 c2 c3 _ rfl hch false hE).mono fun e w' ⟨he, hw⟩ => ⟨.inr ⟨?_, he⟩, hw⟩
              rintro ⟨r, rest, hr, e⟩
              rcases encB_form hr with ⟨y0, e1, e2, e3⟩ | ⟨y0, y1, e1, e2, e3⟩ | ⟨y0, y1, y2, e1, e2, e3⟩ | ⟨y0, y1, y2, y3, e1, e2, e3⟩
              · rw [e1] at e
                simp only [List.cons_append, List.nil_append, List.cons.injEq] at e
                rw [← e.1, hl] at e2; omega
              · rw [e1] at e
                simp only [List.cons_append, List.nil_append, List.cons.injEq] at e
                rw [← e.1, hl] at e2; omega
              · rw [e1] at e
                simp only [List.cons_append, List.nil_append, List.cons.injEq] at e
                rw [← e.1, hl] at e2; omega
              · rw [e1] at e
                simp only [List.cons_append, List.nil_append, List.cons.injEq] at e
                rw [← e.1, ← e.2.1, ← e.2.2.1, ← e.2.2.2.1] at e3 e1
                rw [e3, e1] at hE; simp at hE
end Go.Proofs.YtchnmkagemmjoaaDoor
