/-
  Bytes as letters, on lists of bytes: what is written, what is read, and that each undoes the other. Conditions: none.
-/
import Derived.ProofKit
namespace Go.Proofs.Ythadagnebnakhaa
/-- The letter of a number below 64. -/
def ltr (n : Nat) : UInt8 := if n < 26 then UInt8.ofNat (65 + n) else if n < 52 then UInt8.ofNat (97 + (n - 26)) else if n < 62 then UInt8.ofNat (48 + (n - 52)) else if n = 62 then 43 else 47
/-- The number of a letter. -/
def num (c : UInt8) : Option Nat := (List.range 64).find? fun n => ltr n == c
def four (z : Nat) : List UInt8 := [ltr (z / 262144), ltr (z / 4096 % 64), ltr (z / 64 % 64), ltr (z % 64)]
/-- The letters of bytes. -/
def enc : List UInt8 → List UInt8
  | [] => []
  | [a] => [ltr (a.toNat * 65536 / 262144), ltr (a.toNat * 65536 / 4096 % 64), 61, 61]
  | [a, b] => [ltr ((a.toNat * 65536 + b.toNat * 256) / 262144), ltr ((a.toNat * 65536 + b.toNat * 256) / 4096 % 64), ltr ((a.toNat * 65536 + b.toNat * 256) / 64 % 64), 61]
  | a :: b :: c :: r => four (a.toNat * 65536 + b.toNat * 256 + c.toNat) ++ enc r
def blank (c : UInt8) : Bool := c == 32 || c == 9 || c == 10 || c == 13
/-- A text without blanks. -/
def sq (s : List UInt8) : List UInt8 := s.filter fun c => !blank c
/-- What the document's reading gathers of letters, up to the first =. -/
def dl : List UInt8 → Nat → Nat → List UInt8 → Option (List UInt8)
  | [], _, _, out => some out
  | c :: cs, z, n, out =>
    if c = 61 then some out else
    match num c with
    | none => none
    | some x => if n + 6 ≥ 8 then dl cs (z * 64 % 1048576 + x) (n + 6 - 8) (out ++ [UInt8.ofNat ((z * 64 % 1048576 + x) / 2 ^ (n + 6 - 8))]) else dl cs (z * 64 % 1048576 + x) (n + 6) out
/-- The bytes whose letters a text is. -/
def dec (s : List UInt8) : Option (List UInt8) :=
  match dl (sq s) 0 0 [] with
  | none => none
  | some b => if enc b = sq s then some b else none
theorem num_ltr_all : ∀ n < 64, num (ltr n) = some n ∧ ltr n ≠ 61 ∧ blank (ltr n) = false := by decide +kernel
theorem num_ltr {n : Nat} (h : n < 64) : num (ltr n) = some n := (num_ltr_all n h).1
theorem ltr_ne {n : Nat} (h : n < 64) : ltr n ≠ 61 := (num_ltr_all n h).2.1
theorem ltr_blank {n : Nat} (h : n < 64) : blank (ltr n) = false := (num_ltr_all n h).2.2
theorem num_some {c : UInt8} {n : Nat} (h : num c = some n) : n < 64 ∧ ltr n = c := by
  unfold num at h
  refine ⟨?_, by simpa using List.find?_some h⟩
  simpa using List.mem_of_find?_eq_some h
theorem num_none {c : UInt8} (h : num c = none) {n : Nat} (hn : n < 64) : ltr n ≠ c := by
  unfold num at h
  rw [List.find?_eq_none] at h
  simpa using h n (by simpa using hn)
theorem dl_ltr {x : Nat} (hx : x < 64) (cs : List UInt8) (z n : Nat) (out : List UInt8) :
    dl (ltr x :: cs) z n out = if n + 6 ≥ 8 then dl cs (z * 64 % 1048576 + x) (n + 6 - 8) (out ++ [UInt8.ofNat ((z * 64 % 1048576 + x) / 2 ^ (n + 6 - 8))]) else dl cs (z * 64 % 1048576 + x) (n + 6) out := by
  rw [dl, if_neg (ltr_ne hx), num_ltr hx]
theorem dl_end (cs : List UInt8) (z n : Nat) (out : List UInt8) : dl (61 :: cs) z n out = some out := by rw [dl, if_pos rfl]
theorem ofNat_byte {z : Nat} {a : UInt8} (h : z % 256 = a.toNat) : UInt8.ofNat z = a := by
  apply UInt8.toNat_inj.1
  rw [UInt8.toNat_ofNat']; exact h
theorem dl_enc : ∀ (b : List UInt8) (z : Nat) (out : List UInt8), dl (enc b) z 0 out = some (out ++ b)
  | [], z, out => by simp [enc, dl]
  | [a], z, out => by
    have ha := a.toNat_lt
    rw [enc, dl_ltr (by omega), if_neg (by omega), dl_ltr (by omega), if_pos (by omega), dl_end]
    congr 3
    apply ofNat_byte
    simp only [Nat.reduceAdd, Nat.reduceSub, Nat.reducePow]
    omega
  | [a, b], z, out => by
    have ha := a.toNat_lt
    have hb := b.toNat_lt
    rw [enc, dl_ltr (by omega), if_neg (by omega), dl_ltr (by omega), if_pos (by omega), dl_ltr (by omega), if_pos (by omega), dl_end]
    rw [List.append_assoc]
    congr 2
    simp only [Nat.reduceAdd, Nat.reduceSub, Nat.reducePow, List.cons_append, List.nil_append]
    congr 1
    · apply ofNat_byte; omega
    congr 1
    · apply ofNat_byte; omega
  | a :: b :: c :: r, z, out => by
    have ha := a.toNat_lt
    have hb := b.toNat_lt
    have hc := c.toNat_lt
    rw [enc, four]
    simp only [List.cons_append, List.nil_append]
    rw [dl_ltr (by omega), if_neg (by omega), dl_ltr (by omega), if_pos (by omega), dl_ltr (by omega), if_pos (by omega), dl_ltr (by omega), if_pos (by omega)]
    simp only [Nat.reduceAdd, Nat.reduceSub, Nat.reducePow]
    rw [dl_enc r]
    simp only [List.append_assoc, List.cons_append, List.nil_append]
    congr 2
    congr 1
    · apply ofNat_byte; omega
    congr 1
    · apply ofNat_byte; omega
    congr 1
    · apply ofNat_byte; omega
theorem enc_inj {a b : List UInt8} (h : enc a = enc b) : a = b := by
  have h1 := dl_enc a 0 []
  rw [h, dl_enc] at h1
  simpa using h1.symm
theorem enc_plain : ∀ (b : List UInt8), ∀ c ∈ enc b, blank c = false
  | [], c, h => by simp [enc] at h
  | [a], c, h => by
    have ha := a.toNat_lt
    simp only [enc, List.mem_cons, List.not_mem_nil, or_false] at h
    rcases h with rfl | rfl | rfl | rfl
    · exact ltr_blank (by omega)
    · exact ltr_blank (by omega)
    · rfl
    · rfl
  | [a, b], c, h => by
    have ha := a.toNat_lt
    have hb := b.toNat_lt
    simp only [enc, List.mem_cons, List.not_mem_nil, or_false] at h
    rcases h with rfl | rfl | rfl | rfl
    · exact ltr_blank (by omega)
    · exact ltr_blank (by omega)
    · exact ltr_blank (by omega)
    · rfl
  | x :: y :: z :: r, c, h => by
    have hx := x.toNat_lt
    have hy := y.toNat_lt
    have hz := z.toNat_lt
    simp only [enc, four, List.mem_append, List.mem_cons, List.not_mem_nil, or_false] at h
    rcases h with (rfl | rfl | rfl | rfl) | h
    · exact ltr_blank (by omega)
    · exact ltr_blank (by omega)
    · exact ltr_blank (by omega)
    · exact ltr_blank (by omega)
    · exact enc_plain r c h
theorem sq_plain {s : List UInt8} (h : ∀ c ∈ s, blank c = false) : sq s = s := by
  unfold sq
  rw [List.filter_eq_self]
  intro c hc
  rw [h c hc]; rfl
theorem sq_enc (b : List UInt8) : sq (enc b) = enc b := sq_plain (enc_plain b)
theorem sq_append (a b : List UInt8) : sq (a ++ b) = sq a ++ sq b := by simp [sq]
theorem sq_blank {c : UInt8} (h : blank c = true) : sq [c] = [] := by simp [sq, h]
theorem sq_sq (s : List UInt8) : sq (sq s) = sq s := by simp [sq]
/-- A blank makes no difference, wherever it stands. -/
theorem sq_in (s : List UInt8) (n : Nat) {c : UInt8} (h : blank c = true) : sq (s.take n ++ [c] ++ s.drop n) = sq s := by
  rw [sq_append, sq_append, sq_blank h, List.append_nil, ← sq_append, List.take_append_drop]
/-- What is read: the bytes whose letters these are, and nothing else. -/
theorem dec_iff (s b : List UInt8) : dec s = some b ↔ enc b = sq s := by
  unfold dec
  constructor
  · intro h
    split at h
    · cases h
    · split at h
      · rename_i hb
        injection h with h
        rw [← h]; exact hb
      · cases h
  · intro h
    rw [← h, dl_enc]
    simp
theorem dec_none (s : List UInt8) : dec s = none ↔ ∀ b, enc b ≠ sq s := by
  constructor
  · intro h b e
    rw [(dec_iff s b).2 e] at h; cases h
  · intro h
    cases hd : dec s with
    | none => rfl
    | some b => exact absurd ((dec_iff s b).1 hd) (h b)
theorem dec_enc (b : List UInt8) : dec (enc b) = some b := (dec_iff _ _).2 (sq_enc b).symm
theorem dec_in (b : List UInt8) (n : Nat) {c : UInt8} (h : blank c = true) : dec ((enc b).take n ++ [c] ++ (enc b).drop n) = some b := (dec_iff _ _).2 (by rw [sq_in _ _ h, sq_enc])
theorem enc_length : ∀ b : List UInt8, (enc b).length = (b.length + 2) / 3 * 4
  | [] => rfl
  | [_] => by rw [enc]; simp only [List.length_cons, List.length_nil]
  | [_, _] => by rw [enc]; simp only [List.length_cons, List.length_nil]
  | a :: b :: c :: r => by
    rw [enc, List.length_append, enc_length r]
    simp only [four, List.length_cons, List.length_nil]
    omega
/-- Whole threes, and what is behind them. -/
theorem enc_append : ∀ (a b : List UInt8), a.length % 3 = 0 → enc (a ++ b) = enc a ++ enc b
  | [], b, _ => rfl
  | [_], b, h => by simp at h
  | [_, _], b, h => by simp at h
  | x :: y :: z :: r, b, h => by
    simp only [List.cons_append, enc]
    rw [enc_append r b (by simp only [List.length_cons] at h; omega), List.append_assoc]
/-- Four letters are those of three bytes. -/
theorem enc_four {x1 x2 x3 x4 : Nat} (h1 : x1 < 64) (h2 : x2 < 64) (h3 : x3 < 64) (h4 : x4 < 64) (r : List UInt8) :
    enc (UInt8.ofNat (x1 * 4 + x2 / 16) :: UInt8.ofNat (x2 % 16 * 16 + x3 / 4) :: UInt8.ofNat (x3 % 4 * 64 + x4) :: r) = ltr x1 :: ltr x2 :: ltr x3 :: ltr x4 :: enc r := by
  have e1 : (UInt8.ofNat (x1 * 4 + x2 / 16)).toNat = x1 * 4 + x2 / 16 := by rw [UInt8.toNat_ofNat']; omega
  have e2 : (UInt8.ofNat (x2 % 16 * 16 + x3 / 4)).toNat = x2 % 16 * 16 + x3 / 4 := by rw [UInt8.toNat_ofNat']; omega
  have e3 : (UInt8.ofNat (x3 % 4 * 64 + x4)).toNat = x3 % 4 * 64 + x4 := by rw [UInt8.toNat_ofNat']; omega
  rw [enc, e1, e2, e3, four]
  simp only [List.cons_append, List.nil_append]
  congr 2
  · omega
  congr 2
  · omega
  congr 2
  · omega
  congr 2
  omega
/-- Three letters are those of two bytes, if the bits behind them are noughts. -/
theorem enc_three {x1 x2 x3 : Nat} (h1 : x1 < 64) (h2 : x2 < 64) (h3 : x3 < 64) (h : x3 % 4 = 0) :
    enc [UInt8.ofNat (x1 * 4 + x2 / 16), UInt8.ofNat (x2 % 16 * 16 + x3 / 4)] = [ltr x1, ltr x2, ltr x3, 61] := by
  have e1 : (UInt8.ofNat (x1 * 4 + x2 / 16)).toNat = x1 * 4 + x2 / 16 := by rw [UInt8.toNat_ofNat']; omega
  have e2 : (UInt8.ofNat (x2 % 16 * 16 + x3 / 4)).toNat = x2 % 16 * 16 + x3 / 4 := by rw [UInt8.toNat_ofNat']; omega
  rw [enc, e1, e2]
  congr 2
  · omega
  congr 2
  · omega
  congr 2
  omega
/-- Two letters are those of one byte, if the bits behind it are noughts. -/
theorem enc_two {x1 x2 : Nat} (h1 : x1 < 64) (h2 : x2 < 64) (h : x2 % 16 = 0) : enc [UInt8.ofNat (x1 * 4 + x2 / 16)] = [ltr x1, ltr x2, 61, 61] := by
  have e1 : (UInt8.ofNat (x1 * 4 + x2 / 16)).toNat = x1 * 4 + x2 / 16 := by rw [UInt8.toNat_ofNat']; omega
  rw [enc, e1]
  congr 2
  · omega
  congr 2
  omega
theorem ltr_inj {x y : Nat} (hx : x < 64) (hy : y < 64) (h : ltr x = ltr y) : x = y := by
  have := num_ltr hx
  rw [h, num_ltr hy] at this
  exact (Option.some.inj this).symm
/-- What letters tell of the bytes: of the first four. -/
theorem enc_inv {b : List UInt8} {c1 c2 c3 c4 : UInt8} {r : List UInt8} (h : enc b = c1 :: c2 :: c3 :: c4 :: r) :
    ∃ x1 x2, num c1 = some x1 ∧ num c2 = some x2 ∧
      ((c3 = 61 ∧ c4 = 61 ∧ r = [] ∧ x2 % 16 = 0 ∧ b = [UInt8.ofNat (x1 * 4 + x2 / 16)]) ∨
       (∃ x3, num c3 = some x3 ∧ c4 = 61 ∧ r = [] ∧ x3 % 4 = 0 ∧ b = [UInt8.ofNat (x1 * 4 + x2 / 16), UInt8.ofNat (x2 % 16 * 16 + x3 / 4)]) ∨
       (∃ x3 x4 b', num c3 = some x3 ∧ num c4 = some x4 ∧ enc b' = r ∧ b = UInt8.ofNat (x1 * 4 + x2 / 16) :: UInt8.ofNat (x2 % 16 * 16 + x3 / 4) :: UInt8.ofNat (x3 % 4 * 64 + x4) :: b')) := by
  match b, h with
  | [], h => simp [enc] at h
  | [a], h =>
    have ha := a.toNat_lt
    simp only [enc, List.cons.injEq] at h
    obtain ⟨rfl, rfl, rfl, rfl, rfl⟩ := h
    refine ⟨_, _, num_ltr (by omega), num_ltr (by omega), .inl ⟨rfl, rfl, rfl, by omega, ?_⟩⟩
    congr 1
    exact (ofNat_byte (by omega)).symm
  | [a, d], h =>
    have ha := a.toNat_lt
    have hd := d.toNat_lt
    simp only [enc, List.cons.injEq] at h
    obtain ⟨rfl, rfl, rfl, rfl, rfl⟩ := h
    refine ⟨_, _, num_ltr (by omega), num_ltr (by omega), .inr (.inl ⟨_, num_ltr (by omega), rfl, rfl, by omega, ?_⟩)⟩
    congr 1
    · exact (ofNat_byte (by omega)).symm
    congr 1
    exact (ofNat_byte (by omega)).symm
  | a :: d :: e :: b', h =>
    have ha := a.toNat_lt
    have hd := d.toNat_lt
    have he := e.toNat_lt
    simp only [enc, four, List.cons_append, List.nil_append, List.cons.injEq] at h
    obtain ⟨rfl, rfl, rfl, rfl, rfl⟩ := h
    refine ⟨_, _, num_ltr (by omega), num_ltr (by omega), .inr (.inr ⟨_, _, b', num_ltr (by omega), num_ltr (by omega), rfl, ?_⟩)⟩
    congr 1
    · exact (ofNat_byte (by omega)).symm
    congr 1
    · exact (ofNat_byte (by omega)).symm
    congr 1
    exact (ofNat_byte (by omega)).symm
theorem dec_a : dec [89, 81, 61, 61] = some [97] := by decide +kernel
theorem enc_a : enc [97] = [89, 81, 61, 61] := by decide +kernel
end Go.Proofs.Ythadagnebnakhaa
