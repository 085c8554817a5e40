/-
  Bytes as letters by a queue of bits: on lists. Conditions: none.
-/
import Derived.Test.YthadagnebnakhaaBPure
namespace Go.Proofs.Ythadagnebnakhaa
/-- The letters that are full, the bits that are left, and how many. -/
def epart : List UInt8 → List UInt8 × Nat × Nat
  | [] => ([], 0, 0)
  | [a] => ([ltr (a.toNat / 4)], a.toNat % 4, 2)
  | [a, b] => ([ltr (a.toNat / 4), ltr (a.toNat % 4 * 16 + b.toNat / 16)], b.toNat % 16, 4)
  | a :: b :: c :: r => (ltr (a.toNat / 4) :: ltr (a.toNat % 4 * 16 + b.toNat / 16) :: ltr (b.toNat % 16 * 4 + c.toNat / 64) :: ltr (c.toNat % 64) :: (epart r).1, (epart r).2)
/-- Letters taken out of the queue while there are six bits. -/
def drain (T : List UInt8) (Z C : Nat) : List UInt8 × Nat × Nat := if h : 6 ≤ C then drain (T ++ [ltr (Z / 2 ^ (C - 6))]) (Z % 2 ^ (C - 6)) (C - 6) else (T, Z, C)
  termination_by C
  decreasing_by omega
theorem drain_more {T : List UInt8} {Z C : Nat} (h : 6 ≤ C) : drain T Z C = drain (T ++ [ltr (Z / 2 ^ (C - 6))]) (Z % 2 ^ (C - 6)) (C - 6) := by rw [drain, dif_pos h]
theorem drain_done {T : List UInt8} {Z C : Nat} (h : ¬ 6 ≤ C) : drain T Z C = (T, Z, C) := by rw [drain, dif_neg h]
/-- What is known of the letters and bits so far. -/
def EOk (p : List UInt8 × Nat × Nat) : Prop := (p.2.2 = 0 ∧ p.2.1 = 0 ∧ p.1.length % 4 = 0) ∨ (p.2.2 = 2 ∧ p.2.1 < 4 ∧ p.1.length % 4 = 1) ∨ (p.2.2 = 4 ∧ p.2.1 < 16 ∧ p.1.length % 4 = 2)
theorem epart_ok : ∀ bs : List UInt8, EOk (epart bs)
  | [] => .inl ⟨rfl, rfl, rfl⟩
  | [a] => .inr (.inl ⟨rfl, by show a.toNat % 4 < 4; omega, rfl⟩)
  | [a, b] => .inr (.inr ⟨rfl, by show b.toNat % 16 < 16; omega, rfl⟩)
  | a :: b :: c :: r => by
    have h := epart_ok r
    unfold EOk at h ⊢
    rw [epart]
    simp only [List.length_cons]
    omega
theorem epart_next : ∀ (bs : List UInt8) (b : UInt8), epart (bs ++ [b]) = drain (epart bs).1 ((epart bs).2.1 * 256 + b.toNat) ((epart bs).2.2 + 8)
  | [], b => by
    have hb := b.toNat_lt
    simp only [List.nil_append, epart]
    rw [drain_more (by omega), drain_done (by omega)]
    simp only [List.nil_append, Nat.zero_mul, Nat.zero_add, Nat.reduceSub, Nat.reducePow]
  | [a], b => by
    have ha := a.toNat_lt
    have hb := b.toNat_lt
    simp only [List.cons_append, List.nil_append, epart]
    rw [drain_more (by omega), drain_done (by omega)]
    simp only [List.cons_append, List.nil_append, Nat.reduceAdd, Nat.reduceSub, Nat.reducePow]
    have e1 : (a.toNat % 4 * 256 + b.toNat) / 16 = a.toNat % 4 * 16 + b.toNat / 16 := by omega
    have e2 : (a.toNat % 4 * 256 + b.toNat) % 16 = b.toNat % 16 := by omega
    rw [e1, e2]
  | [a, c], b => by
    have ha := a.toNat_lt
    have hb := b.toNat_lt
    have hc := c.toNat_lt
    simp only [List.cons_append, List.nil_append, epart]
    rw [drain_more (by omega), drain_more (by omega), drain_done (by omega)]
    simp only [List.cons_append, List.nil_append, Nat.reduceAdd, Nat.reduceSub, Nat.reducePow]
    have e1 : (c.toNat % 16 * 256 + b.toNat) / 64 = c.toNat % 16 * 4 + b.toNat / 64 := by omega
    have e2 : (c.toNat % 16 * 256 + b.toNat) % 64 = b.toNat % 64 := by omega
    rw [e1, e2, Nat.div_one, Nat.mod_one]
  | x :: y :: z :: r, b => by
    have ih := epart_next r b
    simp only [List.cons_append, epart]
    rw [ih]
    generalize (epart r).2.1 * 256 + b.toNat = Z
    generalize (epart r).2.2 + 8 = C
    generalize (epart r).1 = T
    have key : ∀ (n C : Nat) (T : List UInt8) (Z : Nat) (a b c d : UInt8), C ≤ n → drain (a :: b :: c :: d :: T) Z C = (a :: b :: c :: d :: (drain T Z C).1, (drain T Z C).2) := by
      intro n
      induction n with
      | zero =>
        intro C T Z a b c d h
        rw [drain_done (by omega), drain_done (by omega)]
      | succ n ihn =>
        intro C T Z a b c d h
        by_cases h6 : 6 ≤ C
        · rw [drain_more h6, drain_more (T := T) h6]
          exact ihn _ _ _ a b c d (by omega)
        · rw [drain_done h6, drain_done h6]
    exact (key C C T Z _ _ _ _ (Nat.le_refl _)).symm
/-- The letters of all, when the last bits are out. -/
theorem epart_end : ∀ bs : List UInt8, ((epart bs).2.2 = 0 → enc bs = (epart bs).1) ∧ ((epart bs).2.2 = 2 → enc bs = (epart bs).1 ++ [ltr ((epart bs).2.1 * 16), 61, 61]) ∧ ((epart bs).2.2 = 4 → enc bs = (epart bs).1 ++ [ltr ((epart bs).2.1 * 4), 61])
  | [] => by simp [epart, enc]
  | [a] => by
    have ha := a.toNat_lt
    refine ⟨fun h => by simp [epart] at h, fun _ => ?_, fun h => by simp [epart] at h⟩
    simp only [epart, enc, List.cons_append, List.nil_append]
    have e1 : a.toNat * 65536 / 262144 = a.toNat / 4 := by omega
    have e2 : a.toNat * 65536 / 4096 % 64 = a.toNat % 4 * 16 := by omega
    rw [e1, e2]
  | [a, b] => by
    have ha := a.toNat_lt
    have hb := b.toNat_lt
    refine ⟨fun h => by simp [epart] at h, fun h => by simp [epart] at h, fun _ => ?_⟩
    simp only [epart, enc, List.cons_append, List.nil_append]
    have e1 : (a.toNat * 65536 + b.toNat * 256) / 262144 = a.toNat / 4 := by omega
    have e2 : (a.toNat * 65536 + b.toNat * 256) / 4096 % 64 = a.toNat % 4 * 16 + b.toNat / 16 := by omega
    have e3 : (a.toNat * 65536 + b.toNat * 256) / 64 % 64 = b.toNat % 16 * 4 := by omega
    rw [e1, e2, e3]
  | a :: b :: c :: r => by
    have ha := a.toNat_lt
    have hb := b.toNat_lt
    have hc := c.toNat_lt
    obtain ⟨h1, h2, h3⟩ := epart_end r
    have e1 : (a.toNat * 65536 + b.toNat * 256 + c.toNat) / 262144 = a.toNat / 4 := by omega
    have e2 : (a.toNat * 65536 + b.toNat * 256 + c.toNat) / 4096 % 64 = a.toNat % 4 * 16 + b.toNat / 16 := by omega
    have e3 : (a.toNat * 65536 + b.toNat * 256 + c.toNat) / 64 % 64 = b.toNat % 16 * 4 + c.toNat / 64 := by omega
    have e4 : (a.toNat * 65536 + b.toNat * 256 + c.toNat) % 64 = c.toNat % 64 := by omega
    simp only [epart, enc, four, List.cons_append, List.nil_append]
    rw [e1, e2, e3, e4]
    refine ⟨fun h => by rw [h1 h], fun h => by rw [h2 h], fun h => by rw [h3 h]⟩
theorem epart_length (bs : List UInt8) : (epart bs).1.length ≤ 2 * bs.length := by
  match bs with
  | [] => simp [epart]
  | [a] => simp [epart]
  | [a, b] => simp [epart]
  | a :: b :: c :: r =>
    have := epart_length r
    simp only [epart, List.length_cons]
    omega
end Go.Proofs.Ythadagnebnakhaa
