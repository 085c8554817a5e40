/-
  Characters' bytes, there and back, in plain numbers: bytes are valid just if they are the bytes of some list of characters. Conditions: none.
-/
import Derived.Test.YtalcmhngebobnaaDoorPure
import Derived.Lib.ValidAsc
import Derived.Lib.MapLaws
namespace Go.Proofs.YtalcmhngebobnaaDoor
open Go.RowKit
def encB (r : Int) : List UInt8 := (encZ r).map fun x => x.toNat.toUInt8
def encBs (l : List Int) : List UInt8 := l.flatMap encB
theorem encB_length (r : Int) : (encB r).length = (encZ r).length := by simp [encB]
theorem encB_pos (r : Int) : 1 ≤ (encB r).length := by rw [encB_length]; exact (encZ_le r).1
theorem chB_iff {r : Int} : chB r = true ↔ 0 ≤ r ∧ r ≤ 1114111 ∧ (r < 55296 ∨ 57343 < r) := by simp [chB]
theorem encB_rune {r : Int} (h : chB r = true) : encB r = Lib.encodeRune r := by
  rw [chB_iff] at h
  unfold encB Lib.encodeRune
  congr 1
  rcases (show r ≤ 127 ∨ (128 ≤ r ∧ r ≤ 2047) ∨ (2048 ≤ r ∧ r ≤ 65535) ∨ 65536 ≤ r from by omega) with e | e | e | e
  · rw [Lib.encodeRuneZ_one (by omega) e]; simp only [encZ]; rw [if_pos e]
  · rw [Lib.encodeRuneZ_two (by omega) (by omega)]; simp only [encZ]; rw [if_neg (by omega), if_pos (by omega)]
  · rw [Lib.encodeRuneZ_three (by omega)]; simp only [encZ]; rw [if_neg (by omega), if_neg (by omega), if_pos (by omega)]
  · rw [Lib.encodeRuneZ_four (by omega) (by omega)]; simp only [encZ]; rw [if_neg (by omega), if_neg (by omega), if_neg (by omega)]
theorem encZ_byte {r : Int} (h : chB r = true) : ∀ x ∈ encZ r, 0 ≤ x ∧ x < 256 := by
  rw [chB_iff] at h
  intro x hx
  unfold encZ at hx
  split at hx
  · simp at hx; omega
  · split at hx
    · simp at hx; omega
    · split at hx <;> (simp at hx; omega)
theorem byte_of {n : Int} (h0 : 0 ≤ n) (h1 : n < 256) : (n.toNat.toUInt8).toNat = n.toNat := by
  have : n.toNat < 256 := by omega
  simp; omega
theorem getD0 (a : UInt8) (l : List UInt8) : (a :: l).getD 0 0 = a := rfl
theorem dec_enc {r : Int} (hc : chB r = true) (rest : List UInt8) : Lib.decodeL (encB r ++ rest) = (r.toNat, (encB r).length) := by
  rw [chB_iff] at hc
  rw [Lib.decodeL_N]
  rcases (show r ≤ 127 ∨ (128 ≤ r ∧ r ≤ 2047) ∨ (2048 ≤ r ∧ r ≤ 65535) ∨ 65536 ≤ r from by omega) with e | e | e | e
  · have he : encB r = [r.toNat.toUInt8] := by simp only [encB, encZ]; rw [if_pos e]; rfl
    rw [he]
    simp only [List.cons_append, List.nil_append, List.getD_cons_zero, List.length_cons, byte_of hc.1 (show r < 256 by omega)]
    unfold Lib.decodeN
    rw [if_pos (by omega)]
    simp
  · have he : encB r = [(192 + r / 64).toNat.toUInt8, (128 + r % 64).toNat.toUInt8] := by simp only [encB, encZ]; rw [if_neg (by omega), if_pos (by omega)]; rfl
    rw [he]
    simp only [List.cons_append, List.nil_append, List.getD_cons_zero, List.getD_cons_succ, List.length_cons, byte_of (show 0 ≤ 192 + r / 64 by omega) (show 192 + r / 64 < 256 by omega), byte_of (show 0 ≤ 128 + r % 64 by omega) (show 128 + r % 64 < 256 by omega)]
    rcases Lib.decodeN_shape (rest.length + 1 + 1) (192 + r / 64).toNat (128 + r % 64).toNat (rest.getD 0 0).toNat (rest.getD 1 0).toNat with h | h | h | h | h
    · omega
    · rw [h.2.2.2.2]; simp; omega
    · omega
    · omega
    · exfalso
      unfold Lib.decodeN at h
      rw [if_neg (by omega), if_pos (by omega), if_pos (by omega)] at h
      simp at h
  · have he : encB r = [(224 + r / 4096).toNat.toUInt8, (128 + r / 64 % 64).toNat.toUInt8, (128 + r % 64).toNat.toUInt8] := by simp only [encB, encZ]; rw [if_neg (by omega), if_neg (by omega), if_pos (by omega)]; rfl
    rw [he]
    simp only [List.cons_append, List.nil_append, List.getD_cons_zero, List.getD_cons_succ, List.length_cons, byte_of (show 0 ≤ 224 + r / 4096 by omega) (show 224 + r / 4096 < 256 by omega), byte_of (show 0 ≤ 128 + r / 64 % 64 by omega) (show 128 + r / 64 % 64 < 256 by omega), byte_of (show 0 ≤ 128 + r % 64 by omega) (show 128 + r % 64 < 256 by omega)]
    unfold Lib.decodeN
    rw [if_neg (by omega), if_neg (by omega), if_pos (by omega), if_pos (by omega)]
    simp
    omega
  · have he : encB r = [(240 + r / 262144).toNat.toUInt8, (128 + r / 4096 % 64).toNat.toUInt8, (128 + r / 64 % 64).toNat.toUInt8, (128 + r % 64).toNat.toUInt8] := by simp only [encB, encZ]; rw [if_neg (by omega), if_neg (by omega), if_neg (by omega)]; rfl
    rw [he]
    simp only [List.cons_append, List.nil_append, List.getD_cons_zero, List.getD_cons_succ, List.length_cons, byte_of (show 0 ≤ 240 + r / 262144 by omega) (show 240 + r / 262144 < 256 by omega), byte_of (show 0 ≤ 128 + r / 4096 % 64 by omega) (show 128 + r / 4096 % 64 < 256 by omega), byte_of (show 0 ≤ 128 + r / 64 % 64 by omega) (show 128 + r / 64 % 64 < 256 by omega), byte_of (show 0 ≤ 128 + r % 64 by omega) (show 128 + r % 64 < 256 by omega)]
    unfold Lib.decodeN
    rw [if_neg (by omega), if_neg (by omega), if_neg (by omega), if_pos (by omega), if_pos (by omega)]
    simp
    omega
theorem enc_good {r : Int} (hc : chB r = true) : ¬ (r.toNat = 65533 ∧ (encB r).length = 1) := by
  rw [chB_iff] at hc
  rintro ⟨h1, h2⟩
  have : r = 65533 := by omega
  subst this
  simp [encB, encZ] at h2
theorem valid_enc {r : Int} (hc : chB r = true) (rest : List UInt8) : Lib.validD (encB r ++ rest) = Lib.validD rest := by
  have hp := encB_pos r
  rw [Lib.validD_step _ (by intro h; have := congrArg List.length h; simp at this; rw [this.1] at hp; simp at hp), dec_enc hc rest]
  dsimp only
  rw [if_neg (enc_good hc), List.drop_left]
theorem valid_encs : ∀ (l : List Int), l.all chB = true → ∀ rest, Lib.validD (encBs l ++ rest) = Lib.validD rest
  | [], _, rest => by simp [encBs]
  | r :: l, h, rest => by
    rw [List.all_cons, Bool.and_eq_true] at h
    have : encBs (r :: l) ++ rest = encB r ++ (encBs l ++ rest) := by simp [encBs]
    rw [this, valid_enc h.1, valid_encs l h.2]
theorem valid_ex : ∀ (n : Nat) (bs : List UInt8), bs.length ≤ n → Lib.validD bs = true → ∃ l : List Int, l.all chB = true ∧ bs = encBs l
  | 0, bs, hn, _ => ⟨[], rfl, by have : bs = [] := List.eq_nil_of_length_eq_zero (by omega); subst this; rfl⟩
  | n + 1, bs, hn, hv => by
    by_cases hne : bs = []
    · exact ⟨[], rfl, by subst hne; rfl⟩
    · rw [Lib.validD_step bs hne] at hv
      by_cases hb : (Lib.decodeL bs).1 = 65533 ∧ (Lib.decodeL bs).2 = 1
      · rw [if_pos hb] at hv; cases hv
      · rw [if_neg hb] at hv
        have he := Lib.encode_decode bs hne hb
        have hch : chB ((Lib.decodeL bs).1 : Int) = true ∧ 1 ≤ (Lib.decodeL bs).2 := by
          rw [chB_iff]
          rw [Lib.decodeL_N] at hb ⊢
          have k0 := (bs.getD 0 0).toNat_lt
          rcases Lib.decodeN_shape bs.length (bs.getD 0 0).toNat (bs.getD 1 0).toNat (bs.getD 2 0).toNat (bs.getD 3 0).toNat with h | h | h | h | h
          · rw [h.2]; dsimp only; omega
          · rw [h.2.2.2.2]; dsimp only; omega
          · rw [h.2.2.2.2.2.2]; dsimp only; omega
          · rw [h.2.2.2.2.2.2.2]; dsimp only; omega
          · exact absurd (by rw [h]; exact ⟨rfl, rfl⟩) hb
        obtain ⟨l, hl, e⟩ := valid_ex n (bs.drop (Lib.decodeL bs).2) (by rw [List.length_drop]; omega) hv
        refine ⟨((Lib.decodeL bs).1 : Int) :: l, by simp [hch.1]; simpa using hl, ?_⟩
        show bs = encB _ ++ encBs l
        rw [encB_rune hch.1, he, ← e, List.take_append_drop]
theorem valid_iff (bs : List UInt8) : Lib.validD bs = true ↔ ∃ l : List Int, l.all chB = true ∧ bs = encBs l :=
  ⟨valid_ex bs.length bs (Nat.le_refl _), fun ⟨l, hl, e⟩ => by rw [e, ← List.append_nil (encBs l), valid_encs l hl]; rfl⟩
/-- Characters are told by their bytes. -/
theorem encB_inj {r s : Int} (hr : chB r = true) (hs : chB s = true) {x y : List UInt8} (h : encB r ++ x = encB s ++ y) : r = s ∧ x = y := by
  have h1 := dec_enc hr x
  rw [h, dec_enc hs y] at h1
  have e := congrArg Prod.fst h1
  dsimp only at e
  rw [chB_iff] at hr hs
  have : r = s := by omega
  subst this
  exact ⟨rfl, List.append_cancel_left h⟩
theorem encBs_inj : ∀ {l k : List Int}, l.all chB = true → k.all chB = true → encBs l = encBs k → l = k
  | [], [], _, _, _ => rfl
  | [], s :: k, _, _, h => by
    have := congrArg List.length h
    have hp := encB_pos s
    simp [encBs] at this
    omega
  | r :: l, [], _, _, h => by
    have := congrArg List.length h
    have hp := encB_pos r
    simp [encBs] at this
    rw [this.1] at hp; simp at hp
  | r :: l, s :: k, hl, hk, h => by
    rw [List.all_cons, Bool.and_eq_true] at hl hk
    obtain ⟨e1, e2⟩ := encB_inj hl.1 hk.1 (show encB r ++ encBs l = encB s ++ encBs k from h)
    rw [e1, encBs_inj hl.2 hk.2 e2]
theorem encBs_append (l k : List Int) : encBs (l ++ k) = encBs l ++ encBs k := by simp [encBs]
theorem encBs_cons (r : Int) (k : List Int) : encBs (r :: k) = encB r ++ encBs k := rfl
end Go.Proofs.YtalcmhngebobnaaDoor
