/-
  A number that is kept low; blanks ahead of references; a text without a < that is parted at & and ;. On lists of bytes. Conditions: none.
-/
import Derived.Test.YtmbmobjlmbjkpaaDoorCPure
namespace Go.Proofs.YtmbmobjlmbjkpaaDoor
/-- What a digit is worth, and more than any of what is none. -/
def dv (c : UInt8) : Nat := (digN c).getD 1114112
theorem digN_lt {c : UInt8} {d : Nat} (h : digN c = some d) : d < 16 := by
  unfold digN at h
  split at h
  · injection h; omega
  · split at h
    · injection h; omega
    · split at h
      · injection h; omega
      · cases h
theorem dig_dv {base : Nat} (hb : base ≤ 16) (c : UInt8) : dig base c = if dv c < base then some (dv c) else none := by
  unfold dig dv
  cases h : digN c with
  | none => simp; omega
  | some d => simp
theorem dv_le (c : UInt8) : dv c ≤ 1114112 := by
  unfold dv
  cases h : digN c with
  | none => simp
  | some d => have := digN_lt h; simp; omega
/-- The number that digits are, kept low. -/
def lowL (base : Nat) : Nat → List UInt8 → Option Nat
  | n, [] => some n
  | n, c :: r => match dig base c with | none => none | some d => lowL base (min (n * base + d) 1114112) r
theorem lowL_cons (base n : Nat) (c : UInt8) (r : List UInt8) : lowL base n (c :: r) = match dig base c with | none => none | some d => lowL base (min (n * base + d) 1114112) r := rfl
def nearP (n k : Nat) : Prop := n = k ∨ (1114112 ≤ n ∧ k = 1114112)
theorem nearP_step {base n k d : Nat} (hb : 1 ≤ base) (h : nearP n k) : nearP (n * base + d) (min (k * base + d) 1114112) := by
  have h2 : n ≤ n * base := Nat.le_mul_of_pos_right n hb
  have h3 : k ≤ k * base := Nat.le_mul_of_pos_right k hb
  rcases h with rfl | ⟨h1, rfl⟩
  · rcases Nat.le_total (n * base + d) 1114112 with h | h
    · rw [Nat.min_eq_left h]; exact .inl rfl
    · rw [Nat.min_eq_right h]; exact .inr ⟨h, rfl⟩
  · rw [Nat.min_eq_right (by omega)]
    exact .inr ⟨by omega, rfl⟩
theorem low_num {base : Nat} (hb : 1 ≤ base) : ∀ {s : List UInt8} {n k : Nat}, nearP n k → (numL base n s = none ∧ lowL base k s = none) ∨ ∃ m j, numL base n s = some m ∧ lowL base k s = some j ∧ nearP m j
  | [], n, k, h => .inr ⟨n, k, rfl, rfl, h⟩
  | c :: r, n, k, h => by
    rw [numL_cons, lowL_cons]
    cases dig base c with
    | none => exact .inl ⟨rfl, rfl⟩
    | some d => exact low_num hb (nearP_step hb h)
theorem nearP_xml {m j : Nat} (h : nearP m j) : xmlB (m : Int) = xmlB (j : Int) ∧ (xmlB (m : Int) = true → m = j) := by
  rcases h with rfl | ⟨h1, rfl⟩
  · exact ⟨rfl, fun _ => rfl⟩
  · have e1 : xmlB (m : Int) = false := by simp only [xmlB, decide_eq_false_iff_not]; omega
    have e2 : xmlB ((1114112 : Nat) : Int) = false := by decide
    exact ⟨by rw [e1, e2], fun h => by rw [e1] at h; cases h⟩
theorem chrL_low (base : Nat) (hb : 1 ≤ base) (s : List UInt8) : chrL base s = match lowL base 0 s with | none => none | some n => if xmlB (n : Int) = true then some (encB (n : Int)) else none := by
  rw [chrL]
  split
  · next h => subst h; rfl
  · rcases low_num hb (s := s) (n := 0) (k := 0) (.inl rfl) with ⟨h1, h2⟩ | ⟨m, j, h1, h2, h3⟩
    · rw [h1, h2]
    · rw [h1, h2]
      dsimp only
      obtain ⟨e, e'⟩ := nearP_xml h3
      cases hx : xmlB (m : Int) with
      | false => rw [← e, hx, if_neg (by simp), if_neg (by simp)]
      | true => rw [← e, hx, if_pos rfl, if_pos rfl, e' hx]
/-- What may stand in a reference. -/
theorem dig_ge {base : Nat} {c : UInt8} {d : Nat} (h : dig base c = some d) : 48 ≤ c.toNat ∧ c.toNat ≠ 60 := by
  unfold dig at h
  cases hd : digN c with
  | none => rw [hd] at h; cases h
  | some e =>
    unfold digN at hd
    split at hd
    · omega
    · split at hd
      · omega
      · split at hd
        · omega
        · cases hd
theorem num_chars {base : Nat} : ∀ {s : List UInt8} {n m : Nat}, numL base n s = some m → ∀ c ∈ s, 35 ≤ c.toNat ∧ c.toNat ≠ 60
  | [], _, _, _, c, hc => by cases hc
  | x :: s, n, m, h, c, hc => by
    rw [numL_cons] at h
    cases hd : dig base x with
    | none => rw [hd] at h; cases h
    | some d =>
      rw [hd] at h
      rcases List.mem_cons.1 hc with rfl | hc
      · have := dig_ge hd; omega
      · exact num_chars h c hc
theorem chr_chars {base : Nat} {s y : List UInt8} (h : chrL base s = some y) : ∀ c ∈ s, 35 ≤ c.toNat ∧ c.toNat ≠ 60 := by
  unfold chrL at h
  split at h
  · cases h
  · cases hn : numL base 0 s with
    | none => rw [hn] at h; cases h
    | some n => exact num_chars hn
theorem ref_chars {s y : List UInt8} (h : refL s = some y) : ∀ c ∈ s, 35 ≤ c.toNat ∧ c.toNat ≠ 60 := by
  unfold refL at h
  split at h
  · next e => subst e; decide
  split at h
  · next e => subst e; decide
  split at h
  · next e => subst e; decide
  split at h
  · next e => subst e; decide
  split at h
  · next e => subst e; decide
  split at h
  · next e =>
    cases s with
    | nil => cases e
    | cons x s =>
      injection e with e
      subst e
      intro c hc
      rcases List.mem_cons.1 hc with rfl | hc
      · decide
      · rw [List.tail_cons] at h
        split at h
        · next e2 =>
          cases s with
          | nil => cases e2
          | cons z s =>
            injection e2 with e2
            subst e2
            rcases List.mem_cons.1 hc with rfl | hc
            · decide
            · exact chr_chars h c hc
        · exact chr_chars h c hc
  · cases h
theorem ref_len {s y : List UInt8} (h : refL s = some y) : 1 ≤ y.length ∧ y.length ≤ 4 := by
  have hch : ∀ {base : Nat} {t : List UInt8}, chrL base t = some y → 1 ≤ y.length ∧ y.length ≤ 4 := fun {base t} h => by
    unfold chrL at h
    split at h
    · cases h
    · cases hn : numL base 0 t with
      | none => rw [hn] at h; cases h
      | some n =>
        rw [hn] at h
        dsimp only at h
        split at h
        · injection h with h
          subst h
          rw [encB_length]; exact encZ_le _
        · cases h
  unfold refL at h
  split at h
  · injection h with h; subst h; decide
  split at h
  · injection h with h; subst h; decide
  split at h
  · injection h with h; subst h; decide
  split at h
  · injection h with h; subst h; decide
  split at h
  · injection h with h; subst h; decide
  split at h
  · split at h
    · exact hch h
    · exact hch h
  · cases h
/-- A text with a < is none. -/
theorem expS_lt {b : Bool} : ∀ {s : List UInt8} {st : Option (List UInt8)}, (60 ∈ s ∨ ∃ p, st = some p ∧ 60 ∈ p) → expS b st s = none
  | [], none, h => by
    rcases h with h | ⟨p, h, _⟩
    · cases h
    · cases h
  | [], some p, _ => rfl
  | c :: r, none, h => by
    have h' : 60 ∈ c :: r := by
      rcases h with h | ⟨p, h, _⟩
      · exact h
      · cases h
    rw [expS]
    by_cases hc : c = 60
    · rw [if_pos hc]
    · have hr : 60 ∈ r := by
        rcases List.mem_cons.1 h' with h | h
        · exact absurd h.symm hc
        · exact h
      rw [if_neg hc]
      split
      · exact expS_lt (.inl hr)
      · rw [expS_lt (.inl hr)]; rfl
  | c :: r, some p, h => by
    rw [expS]
    by_cases hc : c = 59
    · rw [if_pos hc]
      cases hp : refL p with
      | none => rfl
      | some y =>
        have hr : 60 ∈ r := by
          rcases h with h | ⟨q, hq, hm⟩
          · rcases List.mem_cons.1 h with h | h
            · rw [hc] at h; cases h
            · exact h
          · injection hq with hq
            subst hq
            exact absurd rfl (ref_chars hp 60 hm).2
        dsimp only
        rw [expS_lt (.inl hr)]; rfl
    · rw [if_neg hc]
      refine expS_lt ?_
      rcases h with h | ⟨q, hq, hm⟩
      · rcases List.mem_cons.1 h with h | h
        · exact .inr ⟨_, rfl, by simp [h]⟩
        · exact .inl h
      · injection hq with hq
        subst hq
        exact .inr ⟨_, rfl, by simp [hm]⟩
theorem exp_has_lt {b : Bool} {s : List UInt8} (h : 60 ∈ s) : expL b s = none := expS_lt (.inl h)
/-- A text ahead of a reference. -/
theorem exp_ahead : ∀ {s : List UInt8}, 60 ∉ s → 38 ∉ s → ∀ t, expL false (s ++ t) = (expL false t).map (s ++ ·)
  | [], _, _, t => by rw [List.nil_append]; cases expL false t <;> simp
  | c :: s, h1, h2, t => by
    simp only [List.mem_cons, not_or] at h1 h2
    rw [List.cons_append, exp_plain (Ne.symm h1.1) (Ne.symm h2.1), exp_ahead h1.2 h2.2 t]
    cases expL false t <;> simp [plainC]
theorem exp_all {s : List UInt8} (h1 : 60 ∉ s) (h2 : 38 ∉ s) : expL false s = some s := by
  have := exp_ahead h1 h2 []
  rw [List.append_nil] at this
  rw [this, exp_nil]; simp
/-- Each blank as one. -/
def bl (c : UInt8) : UInt8 := if c = 9 ∨ c = 10 ∨ c = 13 then 32 else c
theorem bl_plain (c : UInt8) : plainC true c = bl c := by unfold plainC bl; simp
theorem bl_ne {c d : UInt8} (hd : d ≠ 32) (hd1 : d ≠ 9) (hd2 : d ≠ 10) (hd3 : d ≠ 13) : bl c = d ↔ c = d := by
  unfold bl
  split
  · next h =>
    constructor
    · intro e; exact absurd e.symm hd
    · rintro rfl; rcases h with h | h | h
      · exact absurd h hd1
      · exact absurd h hd2
      · exact absurd h hd3
  · exact Iff.rfl
theorem map_bl_id {p : List UInt8} (h : ∀ c ∈ p, 35 ≤ c.toNat) : p.map bl = p := by
  rw [List.map_congr_left (g := id), List.map_id]
  intro c hc
  have := h c hc
  unfold bl
  rw [if_neg]
  · rfl
  · rintro (rfl | rfl | rfl) <;> simp at this
theorem ref_bl (p : List UInt8) : refL (p.map bl) = refL p := by
  by_cases h : ∀ c ∈ p, 35 ≤ c.toNat
  · rw [map_bl_id h]
  · have h1 : refL p = none := by
      cases hp : refL p with
      | none => rfl
      | some y => exact absurd (fun c hc => (ref_chars hp c hc).1) h
    have h2 : refL (p.map bl) = none := by
      cases hp : refL (p.map bl) with
      | none => rfl
      | some y =>
        refine absurd (fun c hc => ?_) h
        have h3 := (ref_chars hp (bl c) (List.mem_map_of_mem hc)).1
        unfold bl at h3
        split at h3
        · simp at h3
        · exact h3
    rw [h1, h2]
theorem expS_bl : ∀ (s : List UInt8) (st : Option (List UInt8)), expS false (st.map (·.map bl)) (s.map bl) = expS true st s
  | [], none => rfl
  | [], some p => rfl
  | c :: r, none => by
    rw [List.map_cons, Option.map_none, expS, expS]
    have h60 : bl c = 60 ↔ c = 60 := bl_ne (by decide) (by decide) (by decide) (by decide)
    have h38 : bl c = 38 ↔ c = 38 := bl_ne (by decide) (by decide) (by decide) (by decide)
    by_cases h1 : c = 60
    · rw [if_pos h1, if_pos (h60.2 h1)]
    · rw [if_neg h1, if_neg (fun h => h1 (h60.1 h))]
      by_cases h2 : c = 38
      · rw [if_pos h2, if_pos (h38.2 h2)]
        exact expS_bl r (some [])
      · rw [if_neg h2, if_neg (fun h => h2 (h38.1 h)), bl_plain]
        have := expS_bl r none
        rw [Option.map_none] at this
        rw [this]
        have e : plainC false (bl c) = bl c := by simp [plainC]
        rw [e]
  | c :: r, some p => by
    rw [List.map_cons, Option.map_some, expS, expS]
    have h59 : bl c = 59 ↔ c = 59 := bl_ne (by decide) (by decide) (by decide) (by decide)
    by_cases h1 : c = 59
    · rw [if_pos h1, if_pos (h59.2 h1), ref_bl]
      have := expS_bl r none
      rw [Option.map_none] at this
      rw [this]
    · rw [if_neg h1, if_neg (fun h => h1 (h59.1 h))]
      have := expS_bl r (some (p ++ [c]))
      simpa using this
theorem exp_bl (s : List UInt8) : expL false (s.map bl) = expL true s := expS_bl s none
theorem enc_high {r : Int} (hc : chB r = true) (h : 128 ≤ r) : ∀ c ∈ encB r, 128 ≤ c.toNat := by
  rw [chB_iff] at hc
  intro c hm
  unfold encB at hm
  obtain ⟨x, hx, rfl⟩ := List.mem_map.1 hm
  have h2 : 128 ≤ x ∧ x < 256 := by
    unfold encZ at hx
    split at hx
    · omega
    · split at hx
      · simp at hx; omega
      · split at hx
        · simp at hx; omega
        · simp at hx; omega
  rw [byte_of (by omega) h2.2]; omega
theorem enc_low {r : Int} (h : r < 128) : encB r = [r.toNat.toUInt8] := by
  unfold encB encZ
  rw [if_pos (by omega)]; rfl
theorem enc_byte {c : UInt8} (h : c.toNat < 128) : encB (c.toNat : Int) = [c] := by
  rw [enc_low (by omega)]; simp
theorem map_bl_high : ∀ {s t : List UInt8}, (∀ c ∈ t, 128 ≤ c.toNat) → s.map bl = t → s = t
  | [], t, _, h => by rw [← h]; rfl
  | c :: s, [], _, h => by cases h
  | c :: s, d :: t, ht, h => by
    rw [List.map_cons] at h
    injection h with h1 h2
    have hd := ht d (by simp)
    have e : c = d := by
      unfold bl at h1
      split at h1
      · subst h1; simp at hd
      · exact h1
    rw [e, map_bl_high (fun x hx => ht x (by simp [hx])) h2]
theorem txt_nil : txt [] := ⟨[], rfl, rfl, rfl⟩
theorem txt_cons {r : Int} (h : xmlB r = true) {s : List UInt8} (hs : txt s) : txt (encB r ++ s) := by
  obtain ⟨l, h1, h2, rfl⟩ := hs
  exact ⟨r :: l, by rw [List.all_cons, xml_ch h, h1]; rfl, by rw [List.all_cons, h, h2]; rfl, rfl⟩
theorem txt_bl_of : ∀ (l : List Int), l.all chB = true → l.all xmlB = true → txt ((encBs l).map bl)
  | [], _, _ => txt_nil
  | r :: l, h1, h2 => by
    rw [List.all_cons, Bool.and_eq_true] at h1 h2
    rw [encBs_cons, List.map_append]
    have ih := txt_bl_of l h1.2 h2.2
    by_cases hr : 128 ≤ r
    · rw [map_bl_id (fun c hc => by have := enc_high h1.1 hr c hc; omega)]
      exact txt_cons h2.1 ih
    · have hb := chB_iff.1 h1.1
      have hx : r.toNat.toUInt8.toNat = r.toNat := byte_of hb.1 (by omega)
      rw [enc_low (by omega), List.map_cons, List.map_nil]
      unfold bl
      split
      · have : txt (encB 32 ++ (encBs l).map bl) := txt_cons (by decide) ih
        exact this
      · have : txt (encB r ++ (encBs l).map bl) := txt_cons h2.1 ih
        rwa [enc_low (by omega)] at this
theorem txt_bl_back : ∀ (l : List Int) (s : List UInt8), l.all chB = true → l.all xmlB = true → s.map bl = encBs l → txt s
  | [], s, _, _, h => by
    have : s = [] := by simpa [encBs] using h
    rw [this]; exact txt_nil
  | r :: l, s, h1, h2, h => by
    rw [List.all_cons, Bool.and_eq_true] at h1 h2
    rw [encBs_cons] at h
    obtain ⟨s1, s2, rfl, e1, e2⟩ := List.map_eq_append_iff.1 h
    have ih := txt_bl_back l s2 h1.2 h2.2 e2
    by_cases hr : 128 ≤ r
    · rw [map_bl_high (enc_high h1.1 hr) e1]
      exact txt_cons h2.1 ih
    · have hb := chB_iff.1 h1.1
      rw [enc_low (by omega)] at e1
      cases s1 with
      | nil => cases e1
      | cons c t =>
        rw [List.map_cons] at e1
        injection e1 with e1 e3
        have ht : t = [] := by simpa using e3
        subst ht
        unfold bl at e1
        split at e1
        · next hc =>
          rcases hc with rfl | rfl | rfl
          · exact txt_cons (r := 9) (by decide) ih
          · exact txt_cons (r := 10) (by decide) ih
          · exact txt_cons (r := 13) (by decide) ih
        · subst e1
          have := txt_cons h2.1 ih
          rwa [enc_low (by omega)] at this
theorem txt_bl (s : List UInt8) : txt (s.map bl) ↔ txt s := by
  constructor
  · rintro ⟨l, h1, h2, e⟩
    exact txt_bl_back l s h1 h2 e
  · rintro ⟨l, h1, h2, rfl⟩
    exact txt_bl_of l h1 h2
open Classical in
/-- What a text is with its references' characters, if it may stand. -/
noncomputable def repL (s : List UInt8) : Option (List UInt8) := if txt s then expL false s else none
theorem val_rep (s : List UInt8) : valL s = repL (s.map bl) := by
  unfold valL repL
  by_cases h : txt s
  · rw [if_pos h, if_pos ((txt_bl s).2 h), exp_bl]
  · rw [if_neg h, if_neg (fun h' => h ((txt_bl s).1 h'))]
theorem cont_rep {s : List UInt8} (h : ¬ ends s) : contL s = repL s := by
  unfold contL repL
  by_cases ht : txt s
  · rw [if_pos ⟨ht, h⟩, if_pos ht]
  · rw [if_neg (fun h' => ht h'.1), if_neg ht]
theorem cont_ends {s : List UInt8} (h : ends s) : contL s = none := by
  unfold contL
  rw [if_neg (fun h' => h'.2 h)]
theorem rep_no {s : List UInt8} (h : ¬ txt s) : repL s = none := by unfold repL; rw [if_neg h]
theorem rep_lt {s : List UInt8} (h : 60 ∈ s) : repL s = none := by
  unfold repL
  split
  · exact exp_has_lt h
  · rfl
theorem rep_txt {s : List UInt8} (h : txt s) : repL s = expL false s := by unfold repL; rw [if_pos h]
theorem map_len (s : List UInt8) : (s.map bl).length = s.length := List.length_map _
end Go.Proofs.YtmbmobjlmbjkpaaDoor
