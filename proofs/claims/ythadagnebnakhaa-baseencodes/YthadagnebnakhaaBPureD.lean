/-
  Letters read by a queue of bits, on lists: the bytes whose letters they are. Conditions: none.
-/
import Derived.Test.YthadagnebnakhaaBPure
namespace Go.Proofs.Ythadagnebnakhaa
/-- Letters read one by one: the bytes so far, the bits that wait and how many, how many characters, how many of them =. -/
def rd : List UInt8 → List UInt8 → Nat → Nat → Nat → Nat → Option (List UInt8 × Nat × Nat × Nat)
  | [], out, z, _, len, fil => some (out, z, len, fil)
  | c :: cs, out, z, n, len, fil =>
    if blank c = true then rd cs out z n len fil else
    if c = 61 then rd cs out z n (len + 1) (fil + 1) else
    match num c with
    | none => none
    | some x => if fil > 0 then none else
      if n + 6 ≥ 8 then rd cs (out ++ [UInt8.ofNat ((z * 64 + x) / 2 ^ (n + 6 - 8))]) ((z * 64 + x) % 2 ^ (n + 6 - 8)) (n + 6 - 8) (len + 1) fil
      else rd cs out (z * 64 + x) (n + 6) (len + 1) fil
def rfin : Option (List UInt8 × Nat × Nat × Nat) → Option (List UInt8)
  | none => none
  | some (out, z, len, fil) => if len % 4 ≠ 0 ∨ fil > 2 ∨ z ≠ 0 then none else some out
theorem num61 : num 61 = none := by decide +kernel
theorem rd_blank {c : UInt8} {cs out : List UInt8} {z n len fil : Nat} (h : blank c = true) : rd (c :: cs) out z n len fil = rd cs out z n len fil := by rw [rd, if_pos h]
theorem rd_eq {cs out : List UInt8} {z n len fil : Nat} : rd (61 :: cs) out z n len fil = rd cs out z n (len + 1) (fil + 1) := by rw [rd, if_neg (by decide), if_pos rfl]
theorem rd_bad {c : UInt8} {cs out : List UInt8} {z n len fil : Nat} (hb : blank c = false) (h : c ≠ 61) (hn : num c = none) : rd (c :: cs) out z n len fil = none := by rw [rd, if_neg (by rw [hb]; simp), if_neg h, hn]
theorem rd_behind {c : UInt8} {cs out : List UInt8} {z n len fil : Nat} (hb : blank c = false) (h : c ≠ 61) (hf : 0 < fil) : rd (c :: cs) out z n len fil = none := by
  rw [rd, if_neg (by rw [hb]; simp), if_neg h]
  cases num c with
  | none => rfl
  | some x => simp only [if_pos hf, gt_iff_lt]
theorem rd_let {c : UInt8} {cs out : List UInt8} {z n len x : Nat} (hb : blank c = false) (hn : num c = some x) :
    rd (c :: cs) out z n len 0 = if n + 6 ≥ 8 then rd cs (out ++ [UInt8.ofNat ((z * 64 + x) / 2 ^ (n + 6 - 8))]) ((z * 64 + x) % 2 ^ (n + 6 - 8)) (n + 6 - 8) (len + 1) 0 else rd cs out (z * 64 + x) (n + 6) (len + 1) 0 := by
  rw [rd, if_neg (by rw [hb]; simp), if_neg (by rintro rfl; rw [num61] at hn; cases hn), hn]
  simp only [gt_iff_lt, Nat.lt_irrefl, if_false]
theorem rd_sq : ∀ (s out : List UInt8) (z n len fil : Nat), rd s out z n len fil = rd (sq s) out z n len fil
  | [], _, _, _, _, _ => rfl
  | c :: cs, out, z, n, len, fil => by
    by_cases h : blank c = true
    · have e : sq (c :: cs) = sq cs := by simp [sq, h]
      rw [rd_blank h, e]; exact rd_sq cs out z n len fil
    · have e : sq (c :: cs) = c :: sq cs := by simp [sq, h]
      rw [e, rd, rd, if_neg h, if_neg h]
      split
      · exact rd_sq cs _ _ _ _ _
      · cases num c with
        | none => rfl
        | some x =>
          dsimp only
          split
          · rfl
          · split
            · exact rd_sq cs _ _ _ _ _
            · exact rd_sq cs _ _ _ _ _
theorem rd_len : ∀ (t out : List UInt8) (z n len fil : Nat), (∀ c ∈ t, blank c = false) → ∀ o z' l f, rd t out z n len fil = some (o, z', l, f) → l = len + t.length
  | [], out, z, n, len, fil, _, o, z', l, f, h => by simp [rd] at h; simp [h]
  | c :: cs, out, z, n, len, fil, hp, o, z', l, f, h => by
    have hc := hp c (by simp)
    have hcs : ∀ c ∈ cs, blank c = false := fun d hd => hp d (by simp [hd])
    rw [rd, if_neg (by rw [hc]; simp)] at h
    split at h
    · have := rd_len cs _ _ _ _ _ hcs _ _ _ _ h
      simp only [List.length_cons]; omega
    · cases hn : num c with
      | none => rw [hn] at h; cases h
      | some x =>
        rw [hn] at h
        dsimp only at h
        split at h
        · cases h
        · split at h
          · have := rd_len cs _ _ _ _ _ hcs _ _ _ _ h
            simp only [List.length_cons]; omega
          · have := rd_len cs _ _ _ _ _ hcs _ _ _ _ h
            simp only [List.length_cons]; omega
theorem rd_fil : ∀ (t out : List UInt8) (z n len fil : Nat), (∀ c ∈ t, blank c = false) → 0 < fil → ∀ o z' l f, rd t out z n len fil = some (o, z', l, f) → o = out ∧ z' = z ∧ f = fil + t.length ∧ ∀ c ∈ t, c = 61
  | [], out, z, n, len, fil, _, _, o, z', l, f, h => by simp [rd] at h; simp [h]
  | c :: cs, out, z, n, len, fil, hp, hf, o, z', l, f, h => by
    have hc := hp c (by simp)
    have hcs : ∀ c ∈ cs, blank c = false := fun d hd => hp d (by simp [hd])
    by_cases h61 : c = 61
    · subst h61
      rw [rd_eq] at h
      obtain ⟨h1, h2, h3, h4⟩ := rd_fil cs _ _ _ _ _ hcs (by omega) _ _ _ _ h
      refine ⟨h1, h2, by simp only [List.length_cons]; omega, fun d hd => ?_⟩
      rcases List.mem_cons.1 hd with rfl | hd
      · rfl
      · exact h4 d hd
    · rw [rd_behind hc h61 hf] at h; cases h
theorem rfin_fil {t out : List UInt8} {z n len fil : Nat} (hp : ∀ c ∈ t, blank c = false) (hf : 0 < fil) (h : 2 < fil + t.length) : rfin (rd t out z n len fil) = none := by
  cases hr : rd t out z n len fil with
  | none => rfl
  | some q =>
    obtain ⟨o, z', l, f⟩ := q
    obtain ⟨_, _, h3, _⟩ := rd_fil t out z n len fil hp hf _ _ _ _ hr
    rw [rfin, if_pos (by omega)]
theorem rfin_len {t out : List UInt8} {z n len fil : Nat} (hp : ∀ c ∈ t, blank c = false) (h : (len + t.length) % 4 ≠ 0) : rfin (rd t out z n len fil) = none := by
  cases hr : rd t out z n len fil with
  | none => rfl
  | some q =>
    obtain ⟨o, z', l, f⟩ := q
    have h3 := rd_len t out z n len fil hp _ _ _ _ hr
    rw [rfin, if_pos (by omega)]
theorem dec_len {t : List UInt8} (hp : sq t = t) (h : t.length % 4 ≠ 0) : dec t = none := by
  rw [dec_none]
  intro b e
  rw [hp] at e
  have := enc_length b
  rw [e] at this; omega
/-- Bytes that were read, behind those that were there. -/
def bh (out : List UInt8) : Option (List UInt8) → Option (List UInt8)
  | none => none
  | some b => some (out ++ b)
theorem rd_main : ∀ (t out : List UInt8) (len : Nat), len % 4 = 0 → (∀ c ∈ t, blank c = false) → rfin (rd t out 0 0 len 0) = bh out (dec t)
  | [], out, len, hl, _ => by
    have : dec [] = some [] := (dec_iff _ _).2 rfl
    rw [this, rd, rfin, if_neg (by omega), bh, List.append_nil]
  | [a], out, len, hl, hp => by rw [rfin_len hp (by simp; omega), dec_len (sq_plain hp) (by simp), bh]
  | [a, b], out, len, hl, hp => by rw [rfin_len hp (by simp; omega), dec_len (sq_plain hp) (by simp), bh]
  | [a, b, c], out, len, hl, hp => by rw [rfin_len hp (by simp; omega), dec_len (sq_plain hp) (by simp), bh]
  | c1 :: c2 :: c3 :: c4 :: r, out, len, hl, hp => by
    have hs := sq_plain hp
    have p1 := hp c1 (by simp)
    have p2 := hp c2 (by simp)
    have p3 := hp c3 (by simp)
    have p4 := hp c4 (by simp)
    have pr : ∀ c ∈ r, blank c = false := fun c hc => hp c (by simp [hc])
    have pr4 : ∀ c ∈ c4 :: r, blank c = false := fun c hc => hp c (by simp at hc ⊢; rcases hc with h | h <;> simp [h])
    have pr3 : ∀ c ∈ c3 :: c4 :: r, blank c = false := fun c hc => hp c (by simp at hc ⊢; rcases hc with h | h | h <;> simp [h])
    have pr2 : ∀ c ∈ c2 :: c3 :: c4 :: r, blank c = false := fun c hc => hp c (by simp at hc ⊢; rcases hc with h | h | h | h <;> simp [h])
    cases h1 : num c1 with
    | none =>
      have hd : dec (c1 :: c2 :: c3 :: c4 :: r) = none := by
        rw [dec_none]; intro b e; rw [hs] at e
        obtain ⟨x1, x2, e1, _⟩ := enc_inv e
        rw [h1] at e1; cases e1
      rw [hd, bh]
      by_cases h61 : c1 = 61
      · subst h61; rw [rd_eq]; exact rfin_fil pr2 (by omega) (by simp; omega)
      · rw [rd_bad p1 h61 h1]; rfl
    | some x1 =>
    have hx1 := (num_some h1).1
    rw [rd_let p1 h1, if_neg (by omega)]
    cases h2 : num c2 with
    | none =>
      have hd : dec (c1 :: c2 :: c3 :: c4 :: r) = none := by
        rw [dec_none]; intro b e; rw [hs] at e
        obtain ⟨x1, x2, e1, e2, _⟩ := enc_inv e
        rw [h2] at e2; cases e2
      rw [hd, bh]
      by_cases h61 : c2 = 61
      · subst h61; rw [rd_eq]; exact rfin_fil pr3 (by omega) (by simp; omega)
      · rw [rd_bad p2 h61 h2]; rfl
    | some x2 =>
    have hx2 := (num_some h2).1
    rw [rd_let p2 h2, if_pos (by omega)]
    have b1 : ((0 * 64 + x1) * 64 + x2) / 2 ^ (0 + 6 + 6 - 8) = x1 * 4 + x2 / 16 := by simp only [Nat.reduceAdd, Nat.reduceSub, Nat.reducePow]; omega
    have z1 : ((0 * 64 + x1) * 64 + x2) % 2 ^ (0 + 6 + 6 - 8) = x2 % 16 := by simp only [Nat.reduceAdd, Nat.reduceSub, Nat.reducePow]; omega
    rw [b1, z1]
    cases h3 : num c3 with
    | none =>
      by_cases h61 : c3 = 61
      · subst h61
        rw [rd_eq]
        by_cases hy : c4 = 61 ∧ r = [] ∧ x2 % 16 = 0
        · obtain ⟨rfl, rfl, hz⟩ := hy
          have hd : dec [c1, c2, 61, 61] = some [UInt8.ofNat (x1 * 4 + x2 / 16)] := by
            rw [dec_iff, hs, enc_two hx1 hx2 hz, (num_some h1).2, (num_some h2).2]
          rw [hd, rd_eq, rd, rfin, if_neg (by omega), bh]
        · have hd : dec (c1 :: c2 :: 61 :: c4 :: r) = none := by
            rw [dec_none]; intro b e; rw [hs] at e
            obtain ⟨y1, y2, e1, e2, ⟨_, e4, er, ez, _⟩ | ⟨x3, e3, _⟩ | ⟨x3, x4, b', e3, _⟩⟩ := enc_inv e
            · rw [h2] at e2; injection e2 with e2; subst e2
              exact hy ⟨e4, er, ez⟩
            · rw [num61] at e3; cases e3
            · rw [num61] at e3; cases e3
          rw [hd, bh]
          cases hr : rd (c4 :: r) (out ++ [UInt8.ofNat (x1 * 4 + x2 / 16)]) (x2 % 16) (0 + 6 + 6 - 8) (len + 1 + 1 + 1) (0 + 1) with
          | none => rfl
          | some q =>
            obtain ⟨o, z', l, f⟩ := q
            obtain ⟨_, hz', hf', hall⟩ := rd_fil _ _ _ _ _ _ pr4 (by omega) _ _ _ _ hr
            rw [rfin, if_pos]
            rcases Nat.lt_or_ge 2 f with h | h
            · exact .inr (.inl h)
            · simp only [List.length_cons] at hf'
              have hr0 : r = [] := List.eq_nil_of_length_eq_zero (by omega)
              exact .inr (.inr (fun hz0 => hy ⟨hall c4 (by simp), hr0, by omega⟩))
      · have hd : dec (c1 :: c2 :: c3 :: c4 :: r) = none := by
          rw [dec_none]; intro b e; rw [hs] at e
          obtain ⟨y1, y2, e1, e2, ⟨e3, _⟩ | ⟨x3, e3, _⟩ | ⟨x3, x4, b', e3, _⟩⟩ := enc_inv e
          · exact h61 e3
          · rw [h3] at e3; cases e3
          · rw [h3] at e3; cases e3
        rw [hd, bh, rd_bad p3 h61 h3]; rfl
    | some x3 =>
    have hx3 := (num_some h3).1
    rw [rd_let p3 h3, if_pos (by omega)]
    have b2 : (x2 % 16 * 64 + x3) / 2 ^ (0 + 6 + 6 - 8 + 6 - 8) = x2 % 16 * 16 + x3 / 4 := by simp only [Nat.reduceAdd, Nat.reduceSub, Nat.reducePow]; omega
    have z2 : (x2 % 16 * 64 + x3) % 2 ^ (0 + 6 + 6 - 8 + 6 - 8) = x3 % 4 := by simp only [Nat.reduceAdd, Nat.reduceSub, Nat.reducePow]; omega
    rw [b2, z2]
    cases h4 : num c4 with
    | none =>
      by_cases h61 : c4 = 61
      · subst h61
        rw [rd_eq]
        by_cases hy : r = [] ∧ x3 % 4 = 0
        · obtain ⟨rfl, hz⟩ := hy
          have hd : dec [c1, c2, c3, 61] = some [UInt8.ofNat (x1 * 4 + x2 / 16), UInt8.ofNat (x2 % 16 * 16 + x3 / 4)] := by
            rw [dec_iff, hs, enc_three hx1 hx2 hx3 hz, (num_some h1).2, (num_some h2).2, (num_some h3).2]
          rw [hd, rd, rfin, if_neg (by omega), bh, List.append_assoc]; rfl
        · have hd : dec (c1 :: c2 :: c3 :: 61 :: r) = none := by
            rw [dec_none]; intro b e; rw [hs] at e
            obtain ⟨y1, y2, e1, e2, ⟨e3, _⟩ | ⟨y3, e3, _, er, ez, _⟩ | ⟨y3, x4, b', _, e4, _⟩⟩ := enc_inv e
            · rw [e3, num61] at h3; cases h3
            · rw [h3] at e3; injection e3 with e3; subst e3
              exact hy ⟨er, ez⟩
            · rw [num61] at e4; cases e4
          rw [hd, bh]
          cases hr : rd r (out ++ [UInt8.ofNat (x1 * 4 + x2 / 16)] ++ [UInt8.ofNat (x2 % 16 * 16 + x3 / 4)]) (x3 % 4) (0 + 6 + 6 - 8 + 6 - 8) (len + 1 + 1 + 1 + 1) (0 + 1) with
          | none => rfl
          | some q =>
            obtain ⟨o, z', l, f⟩ := q
            obtain ⟨_, hz', hf', hall⟩ := rd_fil _ _ _ _ _ _ pr (by omega) _ _ _ _ hr
            have hl' := rd_len _ _ _ _ _ _ pr _ _ _ _ hr
            rw [rfin, if_pos]
            rcases Nat.lt_or_ge 2 f with h | h
            · exact .inr (.inl h)
            · rcases Nat.eq_zero_or_pos r.length with h0 | h0
              · have hr0 : r = [] := List.eq_nil_of_length_eq_zero h0
                exact .inr (.inr (fun hz0 => hy ⟨hr0, by omega⟩))
              · exact .inl (by omega)
      · have hd : dec (c1 :: c2 :: c3 :: c4 :: r) = none := by
          rw [dec_none]; intro b e; rw [hs] at e
          obtain ⟨y1, y2, e1, e2, ⟨_, e4, _⟩ | ⟨x3, e3, e4, _⟩ | ⟨x3, x4, b', e3, e4, _⟩⟩ := enc_inv e
          · exact h61 e4
          · exact h61 e4
          · rw [h4] at e4; cases e4
        rw [hd, bh, rd_bad p4 h61 h4]; rfl
    | some x4 =>
    have hx4 := (num_some h4).1
    rw [rd_let p4 h4, if_pos (by omega)]
    have b3 : (x3 % 4 * 64 + x4) / 2 ^ (0 + 6 + 6 - 8 + 6 - 8 + 6 - 8) = x3 % 4 * 64 + x4 := by simp only [Nat.reduceAdd, Nat.reduceSub, Nat.reducePow, Nat.div_one]
    have z3 : (x3 % 4 * 64 + x4) % 2 ^ (0 + 6 + 6 - 8 + 6 - 8 + 6 - 8) = 0 := by simp only [Nat.reduceAdd, Nat.reduceSub, Nat.reducePow, Nat.mod_one]
    rw [b3, z3]
    rw [rd_main r _ _ (by omega) pr]
    have hsr := sq_plain pr
    cases hd : dec r with
    | none =>
      have hd2 : dec (c1 :: c2 :: c3 :: c4 :: r) = none := by
        rw [dec_none]; intro b e; rw [hs] at e
        obtain ⟨y1, y2, e1, e2, ⟨_, e4, _⟩ | ⟨x3, e3, e4, _⟩ | ⟨x3, x4, b', e3, e4, e5, _⟩⟩ := enc_inv e
        · rw [e4, num61] at h4; cases h4
        · rw [e4, num61] at h4; cases h4
        · have := (dec_iff r b').2 (by rw [hsr]; exact e5)
          rw [hd] at this; cases this
      rw [hd2]; rfl
    | some b =>
      have hb := (dec_iff r b).1 hd
      rw [hsr] at hb
      have hd2 : dec (c1 :: c2 :: c3 :: c4 :: r) = some (UInt8.ofNat (x1 * 4 + x2 / 16) :: UInt8.ofNat (x2 % 16 * 16 + x3 / 4) :: UInt8.ofNat (x3 % 4 * 64 + x4) :: b) := by
        rw [dec_iff, hs, enc_four hx1 hx2 hx3 hx4, hb, (num_some h1).2, (num_some h2).2, (num_some h3).2, (num_some h4).2]
      rw [hd2, bh, bh]
      simp only [List.append_assoc, List.cons_append, List.nil_append]
theorem rd_dec (s : List UInt8) : rfin (rd s [] 0 0 0 0) = dec s := by
  have hp : ∀ c ∈ sq s, blank c = false := fun c hc => by simpa [sq] using (List.mem_filter.1 hc).2
  rw [rd_sq, rd_main (sq s) [] 0 rfl hp]
  have : dec (sq s) = dec s := by unfold dec; rw [sq_sq]
  rw [this]
  cases dec s <;> rfl
end Go.Proofs.Ythadagnebnakhaa
