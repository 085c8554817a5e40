/-
  Names, on lists of bytes and of characters: what is one, how long a text is one, a full name's parts. Conditions: none.
-/
import Derived.Test.YtalcmhngebobnaaDoorEnc
namespace Go.Proofs.YtalcmhngebobnaaDoor
/-- A character begins a name. -/
def begB (r : Int) : Bool := decide ((65 ≤ r ∧ r ≤ 90) ∨ (97 ≤ r ∧ r ≤ 122) ∨ r = 95 ∨ (192 ≤ r ∧ r ≤ 214) ∨ (216 ≤ r ∧ r ≤ 246) ∨ (248 ≤ r ∧ r ≤ 767) ∨ (880 ≤ r ∧ r ≤ 893) ∨ (895 ≤ r ∧ r ≤ 8191) ∨ (8204 ≤ r ∧ r ≤ 8205) ∨ (8304 ≤ r ∧ r ≤ 8591) ∨ (11264 ≤ r ∧ r ≤ 12271) ∨ (12289 ≤ r ∧ r ≤ 55295) ∨ (63744 ≤ r ∧ r ≤ 64975) ∨ (65008 ≤ r ∧ r ≤ 65533) ∨ (65536 ≤ r ∧ r ≤ 983039))
/-- A character may stand in a name. -/
def staB (r : Int) : Bool := begB r || decide ((48 ≤ r ∧ r ≤ 57) ∨ r = 45 ∨ r = 46 ∨ r = 183 ∨ (768 ≤ r ∧ r ≤ 879) ∨ (8255 ≤ r ∧ r ≤ 8256))
theorem sta_of_beg {r : Int} (h : begB r = true) : staB r = true := by simp [staB, h]
theorem sta_iff {r : Int} : staB r = true ↔ begB r = true ∨ (48 ≤ r ∧ r ≤ 57) ∨ r = 45 ∨ r = 46 ∨ r = 183 ∨ (768 ≤ r ∧ r ≤ 879) ∨ (8255 ≤ r ∧ r ≤ 8256) := by simp [staB]
theorem beg_ch {r : Int} (h : begB r = true) : chB r = true := by
  rw [chB_iff]; simp only [begB, decide_eq_true_eq] at h; omega
theorem sta_ch {r : Int} (h : staB r = true) : chB r = true := by
  rcases sta_iff.1 h with h | h
  · exact beg_ch h
  · rw [chB_iff]; omega
theorem sta_58 : staB 58 = false := by decide
theorem beg_58 : begB 58 = false := by decide
/-- What the document's own answer tells of the beginning of a name. -/
theorem beg_ref (r : Int) : begB r = if r < 128 then decide (65 ≤ r ∧ r ≤ 90) || decide (97 ≤ r ∧ r ≤ 122) || decide (r = 95) else if r < 8192 then decide (192 ≤ r) && decide (r ≠ 215) && decide (r ≠ 247) && !decide (768 ≤ r ∧ r ≤ 879) && decide (r ≠ 894) else if r < 12289 then decide (r = 8204) || decide (r = 8205) || decide (8304 ≤ r ∧ r ≤ 8591) || decide (11264 ≤ r ∧ r ≤ 12271) else decide (12289 ≤ r ∧ r ≤ 55295) || decide (63744 ≤ r ∧ r ≤ 64975) || decide (65008 ≤ r ∧ r ≤ 65533) || decide (65536 ≤ r ∧ r ≤ 983039) := by
  rw [Bool.eq_iff_iff]
  unfold begB
  split
  · simp only [decide_eq_true_eq, Bool.or_eq_true]; omega
  · split
    · simp only [decide_eq_true_eq, Bool.and_eq_true, Bool.not_eq_true', decide_eq_false_iff_not, ne_eq]; omega
    · split
      · simp only [decide_eq_true_eq, Bool.or_eq_true]; omega
      · simp only [decide_eq_true_eq, Bool.or_eq_true]; omega
/-- These characters are a name's, from its beginning on (perhaps none). -/
def nmL : List Int → Bool
  | [] => true
  | r :: l => begB r && l.all staB
theorem nmL_ch : ∀ {l : List Int}, nmL l = true → l.all chB = true
  | [], _ => rfl
  | r :: l, h => by
    simp only [nmL, Bool.and_eq_true] at h
    rw [List.all_cons, Bool.and_eq_true]
    refine ⟨beg_ch h.1, ?_⟩
    rw [List.all_eq_true] at h ⊢
    exact fun x hx => sta_ch (h.2 x hx)
theorem nmL_sta : ∀ {l : List Int}, nmL l = true → ∀ r ∈ l, staB r = true
  | [], _, r, hr => by cases hr
  | s :: l, h, r, hr => by
    simp only [nmL, Bool.and_eq_true, List.all_eq_true] at h
    rcases List.mem_cons.1 hr with rfl | hr
    · exact sta_of_beg h.1
    · exact h.2 r hr
/-- Could a character go on a name that has these? -/
def goes (l : List Int) (r : Int) : Bool := match l with | [] => begB r | _ :: _ => staB r
theorem nmL_snoc : ∀ (l : List Int) (r : Int), nmL (l ++ [r]) = (nmL l && goes l r)
  | [], r => by simp [nmL, goes]
  | s :: l, r => by simp [nmL, goes, List.all_append, Bool.and_assoc]
theorem nmL_take : ∀ {l : List Int} (n : Nat), nmL l = true → nmL (l.take n) = true
  | [], n, _ => by simp [nmL]
  | r :: l, 0, _ => rfl
  | r :: l, n + 1, h => by
    simp only [nmL, List.take_succ_cons, Bool.and_eq_true, List.all_eq_true] at h ⊢
    exact ⟨h.1, fun x hx => h.2 x (List.mem_of_mem_take hx)⟩
theorem goes_ch {l : List Int} {r : Int} (h : goes l r = true) : chB r = true := by
  cases l with
  | nil => exact beg_ch h
  | cons _ _ => exact sta_ch h
theorem goes_sta {l : List Int} {r : Int} (h : goes l r = true) : staB r = true := by
  cases l with
  | nil => exact sta_of_beg h
  | cons _ _ => exact h
theorem goes_58 (l : List Int) : goes l 58 = false := by cases l <;> rfl
/-- A text is a name. -/
def nm (s : List UInt8) : Prop := ∃ l : List Int, l ≠ [] ∧ nmL l = true ∧ s = encBs l
/-- The longest name that a text begins with. -/
structure Run (s : List UInt8) (l : List Int) (rest : List UInt8) : Prop where
  eq : s = encBs l ++ rest
  ok : nmL l = true
  stop : ∀ r x, chB r = true → rest = encB r ++ x → goes l r = false
/-- A name goes on as long as it can. -/
theorem Run.most : ∀ {a b : List Int} {x y : List UInt8} {c : List Int}, nmL (c ++ a) = true → nmL (c ++ b) = true → encBs a ++ x = encBs b ++ y → (∀ r z, chB r = true → x = encB r ++ z → goes (c ++ a) r = false) → ∃ d, a = b ++ d
  | a, [], x, y, c, _, _, _, _ => ⟨a, rfl⟩
  | [], r :: b, x, y, c, ha, hb, h, hs => by
    exfalso
    have hr : goes c r = true := by
      have e : c ++ r :: b = (c ++ [r]) ++ b := by simp
      rw [e] at hb
      have h2 := nmL_take (c ++ [r]).length hb
      rw [List.take_left, nmL_snoc, Bool.and_eq_true] at h2
      exact h2.2
    have := hs r (encBs b ++ y) (goes_ch hr) (by simpa [encBs_cons, encBs] using h)
    rw [List.append_nil, hr] at this
    cases this
  | s :: a, r :: b, x, y, c, ha, hb, h, hs => by
    have cs : chB s = true := List.all_eq_true.1 (nmL_ch ha) s (by simp)
    have cr : chB r = true := List.all_eq_true.1 (nmL_ch hb) r (by simp)
    rw [encBs_cons, encBs_cons, List.append_assoc, List.append_assoc] at h
    obtain ⟨rfl, h2⟩ := encB_inj cs cr h
    have e1 : c ++ s :: a = (c ++ [s]) ++ a := by simp
    have e2 : c ++ s :: b = (c ++ [s]) ++ b := by simp
    obtain ⟨d, rfl⟩ := Run.most (c := c ++ [s]) (by rw [← e1]; exact ha) (by rw [← e2]; exact hb) h2 (by rw [← e1]; exact hs)
    exact ⟨d, rfl⟩
theorem encBs_nil {l : List Int} (h : encBs l = []) : l = [] := by
  cases l with
  | nil => rfl
  | cons r l =>
    have h1 := congrArg List.length h
    rw [encBs_cons, List.length_append] at h1
    have := encB_pos r
    simp at h1; rw [h1.1] at this; simp at this
theorem Run.is {s rest : List UInt8} {l : List Int} (h : Run s l rest) : nm s ↔ (l ≠ [] ∧ rest = []) := by
  constructor
  · rintro ⟨k, hk, hn, e⟩
    obtain ⟨d, hd⟩ := Run.most (c := []) (a := l) (b := k) (x := rest) (y := []) (by simpa using h.ok) (by simpa using hn) (by rw [← h.eq, e, List.append_nil]) (by simpa using h.stop)
    subst hd
    have e2 := h.eq
    rw [e, encBs_append, List.append_assoc] at e2
    have e3 : encBs d ++ rest = [] := by
      have := congrArg List.length e2
      rw [List.length_append] at this
      exact List.eq_nil_of_length_eq_zero (by omega)
    have hd0 : encBs d = [] := (List.append_eq_nil_iff.1 e3).1
    refine ⟨fun h0 => hk (List.append_eq_nil_iff.1 h0).1, (List.append_eq_nil_iff.1 e3).2⟩
  · rintro ⟨h1, rfl⟩
    exact ⟨l, h1, h.ok, by rw [h.eq, List.append_nil]⟩
/-- Of the bytes of a character that may stand in a name none is a colon. -/
theorem encB_low {r : Int} (h : chB r = true) {c : UInt8} (hc : c ∈ encB r) (h128 : c.toNat < 128) : encB r = [c] ∧ r = (c.toNat : Int) := by
  rw [chB_iff] at h
  rcases (show r ≤ 127 ∨ (128 ≤ r ∧ r ≤ 2047) ∨ (2048 ≤ r ∧ r ≤ 65535) ∨ 65536 ≤ r from by omega) with e | e | e | e
  · have he : encB r = [r.toNat.toUInt8] := by simp only [encB, encZ]; rw [if_pos e]; rfl
    rw [he] at hc ⊢
    obtain rfl := List.mem_singleton.1 hc
    exact ⟨rfl, by rw [byte_of h.1 (by omega)]; omega⟩
  · have he : encB r = [(192 + r / 64).toNat.toUInt8, (128 + r % 64).toNat.toUInt8] := by simp only [encB, encZ]; rw [if_neg (by omega), if_pos (by omega)]; rfl
    exfalso
    rw [he] at hc
    simp only [List.mem_cons, List.not_mem_nil, or_false] at hc
    rcases hc with rfl | rfl
    · rw [byte_of (by omega) (by omega)] at h128; omega
    · rw [byte_of (by omega) (by omega)] at h128; omega
  · have he : encB r = [(224 + r / 4096).toNat.toUInt8, (128 + r / 64 % 64).toNat.toUInt8, (128 + r % 64).toNat.toUInt8] := by simp only [encB, encZ]; rw [if_neg (by omega), if_neg (by omega), if_pos (by omega)]; rfl
    exfalso
    rw [he] at hc
    simp only [List.mem_cons, List.not_mem_nil, or_false] at hc
    rcases hc with rfl | rfl | rfl
    · rw [byte_of (by omega) (by omega)] at h128; omega
    · rw [byte_of (by omega) (by omega)] at h128; omega
    · rw [byte_of (by omega) (by omega)] at h128; omega
  · have he : encB r = [(240 + r / 262144).toNat.toUInt8, (128 + r / 4096 % 64).toNat.toUInt8, (128 + r / 64 % 64).toNat.toUInt8, (128 + r % 64).toNat.toUInt8] := by simp only [encB, encZ]; rw [if_neg (by omega), if_neg (by omega), if_neg (by omega)]; rfl
    exfalso
    rw [he] at hc
    simp only [List.mem_cons, List.not_mem_nil, or_false] at hc
    rcases hc with rfl | rfl | rfl | rfl
    · rw [byte_of (by omega) (by omega)] at h128; omega
    · rw [byte_of (by omega) (by omega)] at h128; omega
    · rw [byte_of (by omega) (by omega)] at h128; omega
    · rw [byte_of (by omega) (by omega)] at h128; omega
theorem encB_58 {r : Int} (h : staB r = true) : (58 : UInt8) ∉ encB r := fun hc => by
  obtain ⟨_, e⟩ := encB_low (sta_ch h) hc (by decide)
  have : r = 58 := e
  rw [this, sta_58] at h; cases h
theorem encBs_58 {l : List Int} (h : ∀ r ∈ l, staB r = true) : (58 : UInt8) ∉ encBs l := fun hc => by
  simp only [encBs, List.mem_flatMap] at hc
  obtain ⟨r, hr, hc⟩ := hc
  exact encB_58 (h r hr) hc
theorem nm_58 {s : List UInt8} (h : nm s) : (58 : UInt8) ∉ s := by
  obtain ⟨l, _, hn, rfl⟩ := h
  exact encBs_58 (nmL_sta hn)
theorem nm_ne {s : List UInt8} (h : nm s) : s ≠ [] := by
  obtain ⟨l, hl, _, rfl⟩ := h
  exact fun e => hl (encBs_nil e)
/-- The document's full name: its parts. -/
def Full (s p l : List UInt8) : Prop := (p = [] ∧ l = s ∧ nm s) ∨ (nm p ∧ nm l ∧ s = p ++ 58 :: l)
theorem cut_uniq : ∀ {a b x y : List UInt8}, (58 : UInt8) ∉ a → (58 : UInt8) ∉ b → a ++ 58 :: x = b ++ 58 :: y → a = b ∧ x = y
  | [], [], x, y, _, _, h => by simpa using h
  | [], c :: b, x, y, _, hb, h => by simp at h; exact absurd h.1 (fun e => hb (by simp [← e]))
  | c :: a, [], x, y, ha, _, h => by simp at h; exact absurd h.1 (fun e => ha (by simp [e]))
  | c :: a, d :: b, x, y, ha, hb, h => by
    simp only [List.cons_append, List.cons.injEq] at h
    obtain ⟨e1, e2⟩ := cut_uniq (fun hc => ha (by simp [hc])) (fun hc => hb (by simp [hc])) h.2
    exact ⟨by rw [h.1, e1], e2⟩
theorem Full.uniq {s p l p' l' : List UInt8} (h : Full s p l) (h' : Full s p' l') : p = p' ∧ l = l' := by
  rcases h with ⟨rfl, rfl, hn⟩ | ⟨h1, h2, e⟩
  · rcases h' with ⟨rfl, rfl, _⟩ | ⟨_, _, e'⟩
    · exact ⟨rfl, rfl⟩
    · exact absurd (show (58 : UInt8) ∈ l by rw [e']; simp) (nm_58 hn)
  · rcases h' with ⟨rfl, rfl, hn⟩ | ⟨h1', _, e'⟩
    · exact absurd (show (58 : UInt8) ∈ l' by rw [e]; simp) (nm_58 hn)
    · rw [e] at e'
      exact cut_uniq (nm_58 h1) (nm_58 h1') e'
/-- A text without a colon is a full name just if it is a name. -/
theorem full_plain {s p l : List UInt8} (h : (58 : UInt8) ∉ s) : Full s p l ↔ p = [] ∧ l = s ∧ nm s := by
  constructor
  · rintro (h' | ⟨_, _, e⟩)
    · exact h'
    · exact absurd (show (58 : UInt8) ∈ s by rw [e]; simp) h
  · exact .inl
/-- A text that is cut at its first colon. -/
theorem full_cut {a b p l : List UInt8} (ha : (58 : UInt8) ∉ a) : Full (a ++ 58 :: b) p l ↔ p = a ∧ l = b ∧ nm a ∧ nm b := by
  constructor
  · rintro (⟨_, _, hn⟩ | ⟨h1, h2, e⟩)
    · exact absurd (show (58 : UInt8) ∈ a ++ 58 :: b by simp) (nm_58 hn)
    · obtain ⟨rfl, rfl⟩ := cut_uniq ha (nm_58 h1) e
      exact ⟨rfl, rfl, h1, h2⟩
  · rintro ⟨rfl, rfl, h1, h2⟩
    exact .inr ⟨h1, h2, rfl⟩
/-- What the document's own way finds: by the longest name. -/
theorem Run.full {s rest : List UInt8} {n : List Int} (h : Run s n rest) (p l : List UInt8) : Full s p l ↔ (n ≠ [] ∧ ((rest = [] ∧ p = [] ∧ l = s) ∨ (∃ b, rest = 58 :: b ∧ nm b ∧ p = encBs n ∧ l = b))) := by
  have hno := encBs_58 (nmL_sta h.ok)
  constructor
  · rintro (⟨rfl, rfl, hn⟩ | ⟨h1, h2, e⟩)
    · obtain ⟨hn0, hr⟩ := h.is.1 hn
      exact ⟨hn0, .inl ⟨hr, rfl, rfl⟩⟩
    · obtain ⟨k, hk, hkn, rfl⟩ := h1
      obtain ⟨d, rfl⟩ := Run.most (c := []) (a := n) (b := k) (x := rest) (y := 58 :: l) (by simpa using h.ok) (by simpa using hkn) (by rw [← h.eq, e]) (by simpa using h.stop)
      have e2 := h.eq
      rw [e, encBs_append, List.append_assoc] at e2
      have e3 : 58 :: l = encBs d ++ rest := List.append_cancel_left e2
      cases d with
      | nil =>
        rw [List.append_nil] at *
        exact ⟨hk, .inr ⟨l, by simpa [encBs] using e3.symm, h2, rfl, rfl⟩⟩
      | cons r d =>
        exfalso
        have hp := encB_pos r
        rw [encBs_cons] at e3
        cases hr : encB r with
        | nil => rw [hr] at hp; simp at hp
        | cons c t =>
          rw [hr] at e3
          simp only [List.cons_append, List.cons.injEq] at e3
          exact hno (by rw [encBs_append, encBs_cons, hr, ← e3.1]; simp)
  · rintro ⟨hn0, ⟨rfl, rfl, rfl⟩ | ⟨b, rfl, hb, rfl, rfl⟩⟩
    · exact .inl ⟨rfl, rfl, h.is.2 ⟨hn0, rfl⟩⟩
    · exact .inr ⟨⟨n, hn0, h.ok, rfl⟩, hb, h.eq⟩
/-- Three with two colons between are none. -/
theorem full_three {a b c p l : List UInt8} : ¬ Full (a ++ 58 :: (b ++ 58 :: c)) p l := by
  rintro (⟨_, _, hn⟩ | ⟨h1, h2, e⟩)
  · exact nm_58 hn (by simp)
  · by_cases ha : (58 : UInt8) ∈ a
    · obtain ⟨a1, a2, rfl, hno⟩ : ∃ a1 a2, a = a1 ++ 58 :: a2 ∧ (58 : UInt8) ∉ a1 := by
        clear e
        induction a with
        | nil => cases ha
        | cons x a ih =>
          by_cases hx : x = 58
          · subst hx; exact ⟨[], a, rfl, by simp⟩
          · obtain ⟨a1, a2, e, hno⟩ := ih (by simpa [Ne.symm hx] using ha)
            exact ⟨x :: a1, a2, by rw [e]; rfl, by simp [Ne.symm hx, hno]⟩
      rw [List.append_assoc, List.cons_append] at e
      obtain ⟨_, e2⟩ := cut_uniq hno (nm_58 h1) e
      exact nm_58 h2 (by rw [← e2]; simp)
    · obtain ⟨_, e2⟩ := cut_uniq ha (nm_58 h1) e
      exact nm_58 h2 (by rw [← e2]; simp)
/-- Characters of a name, and one behind them. -/
theorem nm_snoc {l : List Int} (hl : l ≠ []) (hn : nmL l = true) {r : Int} (hr : chB r = true) : nm (encBs l ++ encB r) ↔ staB r = true := by
  have e : encBs l ++ encB r = encBs (l ++ [r]) := by rw [encBs_append]; simp [encBs]
  have hg : goes l r = staB r := by cases l with | nil => exact absurd rfl hl | cons _ _ => rfl
  constructor
  · rintro ⟨k, _, hk, ek⟩
    rw [e] at ek
    have hall : (l ++ [r]).all chB = true := by rw [List.all_append, nmL_ch hn]; simp [hr]
    have := encBs_inj hall (nmL_ch hk) ek
    rw [← this, nmL_snoc, hg, Bool.and_eq_true] at hk
    exact hk.2
  · intro h
    exact ⟨l ++ [r], by simp, by rw [nmL_snoc, hn, hg, h]; rfl, e⟩
theorem nm_take {l : List Int} (hn : nmL l = true) {n : Nat} (h0 : 1 ≤ n) (hl : l ≠ []) : nm (encBs (l.take n)) :=
  ⟨l.take n, fun e => by
    cases l with
    | nil => exact hl rfl
    | cons r l => obtain ⟨m, rfl⟩ : ∃ m, n = m + 1 := ⟨n - 1, by omega⟩; simp at e, nmL_take n hn, rfl⟩
/-- Blanks, and a text without those at its ends. -/
def blk (c : UInt8) : Bool := c == 32 || c == 9 || c == 10 || c == 13
def trimL (s : List UInt8) : List UInt8 := s.dropWhile blk
def trim (s : List UInt8) : List UInt8 := (trimL (trimL s).reverse).reverse
theorem trim_parts (s : List UInt8) : ∃ a b, s = a ++ (trim s ++ b) ∧ a.all blk = true ∧ b.all blk = true ∧ (∀ c, (trim s).head? = some c → blk c = false) ∧ (∀ c, (trim s).getLast? = some c → blk c = false) := by
  refine ⟨s.takeWhile blk, ((trimL s).reverse.takeWhile blk).reverse, ?_, List.all_takeWhile, by rw [List.all_reverse]; exact List.all_takeWhile, ?_, ?_⟩
  · have h1 : (trimL s).reverse = (trimL s).reverse.takeWhile blk ++ trimL (trimL s).reverse := List.takeWhile_append_dropWhile.symm
    have h2 : trimL s = trim s ++ ((trimL s).reverse.takeWhile blk).reverse := by
      have := congrArg List.reverse h1
      rw [List.reverse_reverse, List.reverse_append] at this
      exact this
    rw [← h2]
    exact List.takeWhile_append_dropWhile.symm
  · intro c hc
    have h1 : (trimL s).reverse = (trimL s).reverse.takeWhile blk ++ trimL (trimL s).reverse := List.takeWhile_append_dropWhile.symm
    have h2 : trimL s = trim s ++ ((trimL s).reverse.takeWhile blk).reverse := by
      have := congrArg List.reverse h1
      rw [List.reverse_reverse, List.reverse_append] at this
      exact this
    have h3 : (trimL s).head? = some c := by rw [h2, List.head?_append, hc]; rfl
    unfold trimL at h3
    have := List.head?_dropWhile_not blk s
    rw [h3] at this
    simpa using this
  · intro c hc
    unfold trim at hc
    rw [List.getLast?_reverse] at hc
    unfold trimL at hc
    have := List.head?_dropWhile_not blk (List.dropWhile blk s).reverse
    rw [hc] at this
    simpa using this
theorem run_on : ∀ (n : Nat) (rest : List UInt8) (l : List Int), rest.length ≤ n → nmL l = true → ∃ l' rest', Run (encBs l ++ rest) l' rest'
  | 0, rest, l, h, hl => ⟨l, rest, rfl, hl, fun r x _ e => by
    have := congrArg List.length e
    have hp := encB_pos r
    rw [List.length_append] at this; omega⟩
  | n + 1, rest, l, h, hl => by
    by_cases hg : ∃ r x, chB r = true ∧ rest = encB r ++ x ∧ goes l r = true
    · obtain ⟨r, x, hr, rfl, hg⟩ := hg
      have hp := encB_pos r
      rw [List.length_append] at h
      obtain ⟨l', rest', hR⟩ := run_on n x (l ++ [r]) (by omega) (by rw [nmL_snoc, hl, hg]; rfl)
      refine ⟨l', rest', ?_⟩
      have e : encBs (l ++ [r]) ++ x = encBs l ++ (encB r ++ x) := by rw [encBs_append]; simp [encBs]
      rw [← e]; exact hR
    · refine ⟨l, rest, rfl, hl, fun r x hr e => ?_⟩
      cases hgo : goes l r with
      | false => rfl
      | true => exact absurd ⟨r, x, hr, e, hgo⟩ hg
/-- Each text begins with a longest name (perhaps with none). -/
theorem run_ex (s : List UInt8) : ∃ l rest, Run s l rest := by
  obtain ⟨l, rest, h⟩ := run_on s.length s [] (Nat.le_refl _) rfl
  exact ⟨l, rest, by simpa [encBs] using h⟩
theorem dropW_all {a : List UInt8} (ha : a.all blk = true) (x : List UInt8) : (a ++ x).dropWhile blk = x.dropWhile blk := by
  induction a with
  | nil => rfl
  | cons c a ih =>
    rw [List.all_cons, Bool.and_eq_true] at ha
    rw [List.cons_append, List.dropWhile_cons_of_pos ha.1]
    exact ih ha.2
theorem dropW_head {x : List UInt8} (h : ∀ c, x.head? = some c → blk c = false) : x.dropWhile blk = x := by
  cases x with
  | nil => rfl
  | cons c x => rw [List.dropWhile_cons_of_neg (by rw [h c rfl]; simp)]
/-- What stands between the blanks at both ends is the trimmed text. -/
theorem trim_uniq {s a t b : List UInt8} (e : s = a ++ (t ++ b)) (ha : a.all blk = true) (hb : b.all blk = true) (h1 : ∀ c, t.head? = some c → blk c = false) (h2 : ∀ c, t.getLast? = some c → blk c = false) : trim s = t := by
  subst e
  unfold trim trimL
  rw [dropW_all ha]
  have hbr : b.reverse.all blk = true := by rw [List.all_reverse]; exact hb
  cases t with
  | nil =>
    have hb0 : b.dropWhile blk = [] := by have := dropW_all hb []; simpa using this
    rw [List.nil_append, hb0]; rfl
  | cons c t =>
    have h3 : ((c :: t) ++ b).dropWhile blk = (c :: t) ++ b := dropW_head (fun d hd => h1 d (by simpa using hd))
    rw [h3, List.reverse_append, dropW_all hbr, dropW_head (fun d hd => h2 d (by rwa [List.head?_reverse] at hd)), List.reverse_reverse]
theorem trim_trim (s : List UInt8) : trim (trim s) = trim s := by
  obtain ⟨a, b, _, _, _, h1, h2⟩ := trim_parts s
  exact trim_uniq (a := []) (b := []) (by simp) rfl rfl h1 h2
end Go.Proofs.YtalcmhngebobnaaDoor
