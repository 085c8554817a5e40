/-
  Lines, references, and texts with their references' characters, on lists of bytes. Conditions: none.
-/
import Derived.Test.YtmbmobjlmbjkpaaDoorEnc
namespace Go.Proofs.YtmbmobjlmbjkpaaDoor
/-- A text with its lines ended. -/
def linesL : List UInt8 → List UInt8
  | [] => []
  | c :: r => if c = 13 then (if r.head? = some 10 then linesL r else 10 :: linesL r) else c :: linesL r
theorem lines_cons (c : UInt8) (r : List UInt8) : linesL (c :: r) = if c = 13 then (if r.head? = some 10 then linesL r else 10 :: linesL r) else c :: linesL r := rfl
theorem lines_13 : ∀ (s : List UInt8), (13 : UInt8) ∉ linesL s
  | [] => by simp [linesL]
  | c :: r => by
    rw [linesL]
    have ih := lines_13 r
    split
    · split
      · exact ih
      · simp [ih]
    · next h => simp [ih, Ne.symm h]
theorem lines_id : ∀ {s : List UInt8}, (13 : UInt8) ∉ s → linesL s = s
  | [], _ => rfl
  | c :: r, h => by
    simp only [List.mem_cons, not_or] at h
    rw [linesL, if_neg (Ne.symm h.1), lines_id h.2]
theorem lines_lines (s : List UInt8) : linesL (linesL s) = linesL s := lines_id (lines_13 s)
theorem lines_le : ∀ (s : List UInt8), (linesL s).length ≤ s.length
  | [] => by simp [linesL]
  | c :: r => by
    rw [linesL]
    have ih := lines_le r
    split
    · split
      · simp; omega
      · simp; omega
    · simp; omega
/-- A text that ends behind a byte that is no D, and one behind it. -/
theorem lines_append {a b : List UInt8} (h : a.getLast? ≠ some 13 ∨ b.head? ≠ some 10) : linesL (a ++ b) = linesL a ++ linesL b := by
  induction a with
  | nil => rfl
  | cons c a ih =>
    cases a with
    | nil =>
      simp only [List.cons_append, List.nil_append, linesL]
      by_cases hc : c = 13
      · subst hc
        rcases h with h | h
        · simp at h
        · rw [if_pos rfl, if_pos rfl, if_neg h, if_neg (by simp)]; rfl
      · rw [if_neg hc, if_neg hc]; rfl
    | cons d a =>
      have h' : (d :: a).getLast? ≠ some 13 ∨ b.head? ≠ some 10 := by
        rcases h with h | h
        · left; simpa using h
        · exact .inr h
      have := ih h'
      rw [List.cons_append, lines_cons c (d :: a ++ b), this, lines_cons c (d :: a)]
      have e : (d :: a ++ b).head? = (d :: a).head? := rfl
      rw [e]
      by_cases h1 : c = 13
      · rw [if_pos h1, if_pos h1]
        by_cases h2 : (d :: a).head? = some 10
        · rw [if_pos h2, if_pos h2]
        · rw [if_neg h2, if_neg h2]; rfl
      · rw [if_neg h1, if_neg h1]; rfl
/-- A digit's number. -/
def digN (c : UInt8) : Option Nat := if 48 ≤ c.toNat ∧ c.toNat ≤ 57 then some (c.toNat - 48) else if 97 ≤ c.toNat ∧ c.toNat ≤ 102 then some (c.toNat - 87) else if 65 ≤ c.toNat ∧ c.toNat ≤ 70 then some (c.toNat - 55) else none
def dig (base : Nat) (c : UInt8) : Option Nat := match digN c with | none => none | some d => if d < base then some d else none
theorem dig_lt {base : Nat} {c : UInt8} {d : Nat} (h : dig base c = some d) : d < base := by
  unfold dig at h
  split at h
  · cases h
  · split at h
    · next hlt => injection h with h; omega
    · cases h
/-- The number that digits are, behind one that is there already. -/
def numL (base : Nat) : Nat → List UInt8 → Option Nat
  | n, [] => some n
  | n, c :: r => match dig base c with | none => none | some d => numL base (n * base + d) r
theorem numL_cons (base n : Nat) (c : UInt8) (r : List UInt8) : numL base n (c :: r) = match dig base c with | none => none | some d => numL base (n * base + d) r := rfl
theorem numL_digit {base d : Nat} {c : UInt8} (h : dig base c = some d) (n : Nat) (r : List UInt8) : numL base n (c :: r) = numL base (n * base + d) r := by rw [numL_cons, h]
theorem numL_nought {base : Nat} (hb : 0 < base) (r : List UInt8) : numL base 0 (48 :: r) = numL base 0 r := by
  have h : dig base 48 = some 0 := by
    have : digN 48 = some 0 := by decide
    simp [dig, this, hb]
  rw [numL_digit h]; simp
theorem numL_noughts {base : Nat} (hb : 0 < base) (k : Nat) (r : List UInt8) : numL base 0 (List.replicate k 48 ++ r) = numL base 0 r := by
  induction k with
  | zero => simp
  | succ k ih => rw [List.replicate_succ, List.cons_append, numL_nought hb, ih]
theorem numL_ge {base : Nat} (hb : 1 ≤ base) : ∀ {s : List UInt8} {n m : Nat}, numL base n s = some m → n ≤ m
  | [], n, m, h => by injection h with h; omega
  | c :: r, n, m, h => by
    rw [numL_cons] at h
    split at h
    · cases h
    · have := numL_ge hb h
      have h2 : n ≤ n * base := Nat.le_mul_of_pos_right n hb
      omega
/-- Digits, whatever is there already. -/
theorem numL_some {base : Nat} : ∀ {s : List UInt8} {n m : Nat}, numL base n s = some m → ∀ k, ∃ j, numL base k s = some j
  | [], n, m, h, k => ⟨k, rfl⟩
  | c :: r, n, m, h, k => by
    rw [numL_cons] at h ⊢
    split at h
    · cases h
    · next d hd => exact numL_some h _
theorem numL_none {base : Nat} {s : List UInt8} {n : Nat} (h : numL base n s = none) (k : Nat) : numL base k s = none := by
  cases hk : numL base k s with
  | none => rfl
  | some j => obtain ⟨m, hm⟩ := numL_some hk n; rw [h] at hm; cases hm
/-- The same, reckoned no further than needs be. -/
def satL (base : Nat) : Nat → List UInt8 → Option Nat
  | n, [] => some n
  | n, c :: r => match dig base c with | none => none | some d => satL base (if n < 2097152 then n * base + d else n) r
theorem satL_cons (base n : Nat) (c : UInt8) (r : List UInt8) : satL base n (c :: r) = match dig base c with | none => none | some d => satL base (if n < 2097152 then n * base + d else n) r := rfl
/-- Two numbers are the same, or both are too great. -/
def near (n k : Nat) : Prop := n = k ∨ (2097152 ≤ n ∧ 2097152 ≤ k)
theorem near_step {base n k d : Nat} (hb : 1 ≤ base) (h : near n k) : near (n * base + d) (if k < 2097152 then k * base + d else k) := by
  have h2 : n ≤ n * base := Nat.le_mul_of_pos_right n hb
  rcases h with rfl | ⟨h1, h3⟩
  · split
    · exact .inl rfl
    · exact .inr ⟨by omega, by omega⟩
  · rw [if_neg (by omega)]
    exact .inr ⟨by omega, h3⟩
theorem sat_num {base : Nat} (hb : 1 ≤ base) : ∀ {s : List UInt8} {n k : Nat}, near n k → (numL base n s = none ∧ satL base k s = none) ∨ ∃ m j, numL base n s = some m ∧ satL base k s = some j ∧ near m j
  | [], n, k, h => .inr ⟨n, k, rfl, rfl, h⟩
  | c :: r, n, k, h => by
    rw [numL_cons, satL_cons]
    cases dig base c with
    | none => exact .inl ⟨rfl, rfl⟩
    | some d => exact sat_num hb (near_step hb h)
theorem near_xml {m j : Nat} (h : near m j) : xmlB (m : Int) = xmlB (j : Int) ∧ (xmlB (m : Int) = true → m = j) := by
  rcases h with rfl | ⟨h1, h2⟩
  · exact ⟨rfl, fun _ => rfl⟩
  · have e1 : xmlB (m : Int) = false := by simp only [xmlB, decide_eq_false_iff_not]; omega
    have e2 : xmlB (j : Int) = false := by simp only [xmlB, decide_eq_false_iff_not]; omega
    exact ⟨by rw [e1, e2], fun h => by rw [e1] at h; cases h⟩
/-- The character of a number that digits are. -/
def chrL (base : Nat) (s : List UInt8) : Option (List UInt8) := if s = [] then none else match numL base 0 s with | none => none | some n => if xmlB (n : Int) = true then some (encB (n : Int)) else none
theorem chrL_sat (base : Nat) (hb : 1 ≤ base) (s : List UInt8) : chrL base s = if s = [] then none else match satL base 0 s with | none => none | some n => if xmlB (n : Int) = true then some (encB (n : Int)) else none := by
  rw [chrL]
  split
  · rfl
  · rcases sat_num hb (s := s) (n := 0) (k := 0) (.inl rfl) with ⟨h1, h2⟩ | ⟨m, j, h1, h2, h3⟩
    · rw [h1, h2]
    · rw [h1, h2]
      dsimp only
      obtain ⟨e, e'⟩ := near_xml h3
      cases hx : xmlB (m : Int) with
      | false => rw [← e, hx, if_neg (by simp), if_neg (by simp)]
      | true => rw [← e, hx, if_pos rfl, if_pos rfl, e' hx]
/-- What a reference stands for, by what is between & and ;. -/
def refL (s : List UInt8) : Option (List UInt8) :=
  if s = [108, 116] then some [60] else if s = [103, 116] then some [62] else if s = [97, 109, 112] then some [38] else if s = [97, 112, 111, 115] then some [39] else if s = [113, 117, 111, 116] then some [34]
  else if s.head? = some 35 then (if s.tail.head? = some 120 then chrL 16 s.tail.tail else chrL 10 s.tail) else none
theorem refL_ten (s : List UInt8) (h : s.head? ≠ some 120) : refL (35 :: s) = chrL 10 s := by
  unfold refL
  rw [if_neg (by simp), if_neg (by simp), if_neg (by simp), if_neg (by simp), if_neg (by simp), if_pos (by simp), if_neg (by simpa using h)]
  rfl
theorem refL_hex (s : List UInt8) : refL (35 :: 120 :: s) = chrL 16 s := by
  unfold refL
  rw [if_neg (by simp), if_neg (by simp), if_neg (by simp), if_neg (by simp), if_neg (by simp), if_pos (by simp), if_pos (by simp)]
  rfl
theorem chrL_num {base n : Nat} {s : List UInt8} (hs : s ≠ []) (h : numL base 0 s = some n) : chrL base s = if xmlB (n : Int) = true then some (encB (n : Int)) else none := by
  rw [chrL, if_neg hs, h]
/-- One byte as it stands in a text. -/
def plainC (b : Bool) (c : UInt8) : UInt8 := if b = true ∧ (c = 9 ∨ c = 10 ∨ c = 13) then 32 else c
/-- A text with its references' characters: what of a reference was read so far, what is still to be read. -/
def expS (b : Bool) : Option (List UInt8) → List UInt8 → Option (List UInt8)
  | none, [] => some []
  | some _, [] => none
  | none, c :: r => if c = 60 then none else if c = 38 then expS b (some []) r else (expS b none r).map (plainC b c :: ·)
  | some p, c :: r => if c = 59 then (match refL p with | none => none | some y => (expS b none r).map (y ++ ·)) else expS b (some (p ++ [c])) r
def expL (b : Bool) (s : List UInt8) : Option (List UInt8) := expS b none s
theorem expS_open {b : Bool} : ∀ {x p : List UInt8}, (59 : UInt8) ∉ x → ∀ r, expS b (some p) (x ++ 59 :: r) = match refL (p ++ x) with | none => none | some y => (expL b r).map (y ++ ·)
  | [], p, _, r => by rw [List.nil_append, List.append_nil, expS, if_pos rfl]; rfl
  | c :: x, p, h, r => by
    simp only [List.mem_cons, not_or] at h
    rw [List.cons_append, expS, if_neg (Ne.symm h.1), expS_open h.2]
    rw [List.append_assoc]; rfl
theorem expS_end {b : Bool} : ∀ {x p : List UInt8}, (59 : UInt8) ∉ x → expS b (some p) x = none
  | [], p, _ => rfl
  | c :: x, p, h => by
    simp only [List.mem_cons, not_or] at h
    rw [expS, if_neg (Ne.symm h.1), expS_end h.2]
theorem exp_nil (b : Bool) : expL b [] = some [] := rfl
theorem exp_lt (b : Bool) (r : List UInt8) : expL b (60 :: r) = none := by rw [expL, expS, if_pos rfl]
theorem exp_ref {b : Bool} {x : List UInt8} (h : (59 : UInt8) ∉ x) (r : List UInt8) : expL b (38 :: (x ++ 59 :: r)) = match refL x with | none => none | some y => (expL b r).map (y ++ ·) := by
  rw [expL, expS, if_neg (by decide), if_pos rfl, expS_open h, List.nil_append]
theorem exp_open {b : Bool} {x : List UInt8} (h : (59 : UInt8) ∉ x) : expL b (38 :: x) = none := by
  rw [expL, expS, if_neg (by decide), if_pos rfl, expS_end h]
theorem exp_plain {b : Bool} {c : UInt8} (h1 : c ≠ 60) (h2 : c ≠ 38) (r : List UInt8) : expL b (c :: r) = (expL b r).map (plainC b c :: ·) := by
  rw [expL, expS, if_neg h1, if_neg h2]; rfl
/-- Texts that are read, one behind the other. -/
theorem expS_append {b : Bool} (t : List UInt8) : ∀ {s : List UInt8} {st : Option (List UInt8)} {a : List UInt8}, expS b st s = some a → expS b st (s ++ t) = (expL b t).map (a ++ ·)
  | [], none, a, h => by
    injection h with h
    subst h
    rw [List.nil_append]
    show expL b t = _
    cases expL b t <;> simp
  | [], some p, a, h => by cases h
  | c :: s, none, a, h => by
    rw [expS] at h
    rw [List.cons_append, expS]
    split at h
    · cases h
    · split at h
      · next h1 h2 => rw [if_neg h1, if_pos h2]; exact expS_append t h
      · next h1 h2 =>
        rw [if_neg h1, if_neg h2]
        cases hr : expS b none s with
        | none => rw [hr] at h; cases h
        | some a' =>
          rw [hr] at h
          simp only [Option.map_some, Option.some.injEq] at h
          subst h
          rw [expS_append t hr]
          cases expL b t <;> simp
  | c :: s, some p, a, h => by
    rw [expS] at h
    rw [List.cons_append, expS]
    split at h
    · next h1 =>
      rw [if_pos h1]
      cases hp : refL p with
      | none => rw [hp] at h; cases h
      | some y =>
        rw [hp] at h
        dsimp only at h ⊢
        cases hr : expS b none s with
        | none => rw [hr] at h; cases h
        | some a' =>
          rw [hr] at h
          simp only [Option.map_some, Option.some.injEq] at h
          subst h
          rw [expS_append t hr]
          cases expL b t <;> simp
    · next h1 => rw [if_neg h1]; exact expS_append t h
theorem exp_append {b : Bool} {s a : List UInt8} (h : expL b s = some a) (t : List UInt8) : expL b (s ++ t) = (expL b t).map (a ++ ·) := expS_append t h
/-- Characters that may stand in a document, all of them. -/
def txt (s : List UInt8) : Prop := ∃ l : List Int, l.all chB = true ∧ l.all xmlB = true ∧ s = encBs l
theorem txt_append {s t : List UInt8} (hs : txt s) (ht : txt t) : txt (s ++ t) := by
  obtain ⟨l, h1, h2, rfl⟩ := hs
  obtain ⟨k, h3, h4, rfl⟩ := ht
  exact ⟨l ++ k, by rw [List.all_append, h1, h3]; rfl, by rw [List.all_append, h2, h4]; rfl, by rw [encBs_append]⟩
theorem txt_encs {l : List Int} (hl : l.all chB = true) : txt (encBs l) ↔ l.all xmlB = true := by
  constructor
  · rintro ⟨k, h1, h2, e⟩
    rwa [encBs_inj hl h1 e]
  · intro h
    exact ⟨l, hl, h, rfl⟩
theorem txt_not {s : List UInt8} (h : Lib.validD s = false) : ¬ txt s := by
  rintro ⟨l, h1, _, e⟩
  have := (valid_iff s).2 ⟨l, h1, e⟩
  rw [h] at this; cases this
/-- Letters, digits and the like. -/
theorem txt_plain : ∀ {s : List UInt8}, (∀ c ∈ s, 32 ≤ c.toNat ∧ c.toNat ≤ 126) → txt s
  | [], _ => ⟨[], rfl, rfl, rfl⟩
  | c :: s, h => by
    have hc := h c (by simp)
    have h1 : txt [c] := by
      refine ⟨[(c.toNat : Int)], ?_, ?_, ?_⟩
      · simp only [List.all_cons, List.all_nil, Bool.and_true, chB, decide_eq_true_eq]; omega
      · simp only [List.all_cons, List.all_nil, Bool.and_true, xmlB, decide_eq_true_eq]; omega
      · show [c] = encB (c.toNat : Int) ++ []
        rw [List.append_nil, encB, encZ, if_pos (by omega)]
        simp
    exact txt_append h1 (txt_plain fun d hd => h d (by simp [hd]))
theorem xml_ch {r : Int} (h : xmlB r = true) : chB r = true := by
  simp only [xmlB, chB, decide_eq_true_eq] at *
  omega
/-- The three bytes that end a part, somewhere in a text. -/
def ends (s : List UInt8) : Prop := ∃ a b, s = a ++ 93 :: 93 :: 62 :: b
open Classical in
/-- What stands between tags. -/
noncomputable def contL (s : List UInt8) : Option (List UInt8) := if txt s ∧ ¬ ends s then expL false s else none
open Classical in
/-- What an attribute has. -/
noncomputable def valL (s : List UInt8) : Option (List UInt8) := if txt s then expL true s else none
theorem val_append {s t a c : List UInt8} (hs : valL s = some a) (ht : valL t = some c) : valL (s ++ t) = some (a ++ c) := by
  unfold valL at *
  split at hs
  · next h1 =>
    split at ht
    · next h2 => rw [if_pos (txt_append h1 h2), exp_append hs, ht]; rfl
    · cases ht
  · cases hs
end Go.Proofs.YtmbmobjlmbjkpaaDoor
