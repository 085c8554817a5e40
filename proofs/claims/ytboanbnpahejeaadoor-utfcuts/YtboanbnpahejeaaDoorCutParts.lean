/-
  A character's bytes, cut: no part is characters' bytes. And a step of append inside a region that draws its order. Conditions: none.
-/
import Derived.Test.YtboanbnpahejeaaDoorAppLies
import Derived.Test.YtboanbnpahejeaaDoorFirst
namespace Go.Proofs.YtboanbnpahejeaaDoor
open Go.RowKit
set_option linter.unusedVariables false
theorem encB_two {r : Int} (hc : chB r = true) (h : 128 ≤ r) : 2 ≤ (encB r).length ∧ (encB r).length ≤ 4 := by
  rw [encB_length]
  refine ⟨?_, (encZ_le r).2⟩
  unfold encZ
  rw [if_neg (by omega)]
  split
  · simp
  · split <;> simp
theorem cut_ahead {r : Int} (hc : chB r = true) (l : List Int) (hl : l.all chB = true) (n : Nat) (h0 : 1 ≤ n) (hn : n < (encB r).length) : Lib.validD (encBs l ++ (encB r).take n) = false := by
  rw [valid_encs l hl]
  cases hv : Lib.validD ((encB r).take n) with
  | false => rfl
  | true =>
    obtain ⟨k, hk, e⟩ := (valid_iff _).1 hv
    have hlen := congrArg List.length e
    rw [List.length_take] at hlen
    match k, hk, e, hlen with
    | [], _, _, hlen =>
      have h00 : (encBs ([] : List Int)).length = 0 := rfl
      rw [h00] at hlen
      omega
    | s :: k, hk, e, hlen =>
      rw [List.all_cons, Bool.and_eq_true] at hk
      have e2 : encB r ++ [] = encB s ++ (encBs k ++ (encB r).drop n) := by
        rw [← List.append_assoc, ← encBs_cons, ← e, List.take_append_drop, List.append_nil]
      obtain ⟨rfl, e3⟩ := encB_inj hc hk.1 e2
      rw [encBs_cons, List.length_append] at hlen
      omega
theorem cut_behind {r : Int} (hc : chB r = true) (l : List Int) (n : Nat) (h0 : 1 ≤ n) (hn : n < (encB r).length) : Lib.validD ((encB r).drop n ++ encBs l) = false := by
  cases hv : Lib.validD ((encB r).drop n ++ encBs l) with
  | false => rfl
  | true =>
    obtain ⟨k, hk, e⟩ := (valid_iff _).1 hv
    have hdl : 0 < ((encB r).drop n).length := by rw [List.length_drop]; omega
    match k, hk, e with
    | [], _, e =>
      have := congrArg List.length e
      rw [List.length_append] at this
      simp [encBs] at this
      omega
    | s :: k, hk, e =>
      rw [List.all_cons, Bool.and_eq_true] at hk
      have hcont : ∀ x ∈ (encB r).drop 1, 128 ≤ x.toNat ∧ x.toNat < 192 := by
        have hc' := chB_iff.1 hc
        intro x hx
        have hx' : x ∈ ((encZ r).drop 1).map fun z => z.toNat.toUInt8 := by
          rw [List.map_drop]; exact hx
        obtain ⟨z, hz, rfl⟩ := List.mem_map.1 hx'
        have hzz : 128 ≤ z ∧ z < 192 := by
          unfold encZ at hz
          split at hz
          · simp at hz
          · split at hz
            · simp at hz; omega
            · split at hz <;> (simp at hz; omega)
        rw [byte_of (by omega) (by omega)]
        omega
      have hlead : ∀ x rest, encB s = x :: rest → x.toNat < 128 ∨ 192 ≤ x.toNat := by
        intro x rest hx
        have hz := encB_form hk.1
        have hlt := x.toNat_lt
        rcases hz with ⟨x0, e1, e2, _⟩ | ⟨x0, x1, e1, e2, _⟩ | ⟨x0, x1, x2, e1, e2, _⟩ | ⟨x0, x1, x2, x3, e1, e2, e3⟩
        · rw [e1] at hx; cases hx; left; unfold longN at e2; split at e2
          · assumption
          · split at e2
            · omega
            · split at e2 <;> omega
        · rw [e1] at hx; cases hx; right; unfold longN at e2; split at e2
          · omega
          · split at e2
            · omega
            · split at e2 <;> omega
        · rw [e1] at hx; cases hx; right; unfold longN at e2; split at e2
          · omega
          · split at e2
            · omega
            · split at e2
              · omega
              · omega
        · rw [e1] at hx; cases hx; right
          have hs := chB_iff.1 hk.1
          have l1 := x1.toNat_lt
          have l2 := x2.toNat_lt
          have l3 := x3.toNat_lt
          have he := (encB_two hk.1 (by
            rcases Int.lt_or_le s 128 with h | h
            · have := congrArg List.length e1
              rw [encB_length] at this
              unfold encZ at this
              rw [if_pos (by omega)] at this
              simp at this
            · exact h)).2
          by_cases h6 : 65536 ≤ s
          · have he : encB s = [(240 + s / 262144).toNat.toUInt8, (128 + s / 4096 % 64).toNat.toUInt8, (128 + s / 64 % 64).toNat.toUInt8, (128 + s % 64).toNat.toUInt8] := by simp only [encB, encZ]; rw [if_neg (by omega), if_neg (by omega), if_neg (by omega)]; rfl
            rw [he] at e1
            have e0 := (List.cons.inj e1).1
            rw [← e0, byte_of (by omega) (by omega)]
            omega
          · exfalso
            have := congrArg List.length e1
            rw [encB_length] at this
            unfold encZ at this
            split at this
            · simp at this
            · split at this
              · simp at this
              · rw [if_pos (by omega)] at this
                simp at this
      match hd : (encB r).drop n, hdl with
      | y :: ys, _ =>
        have hy := hcont y (by
          have : (encB r).drop n = ((encB r).drop 1).drop (n - 1) := by rw [List.drop_drop]; congr 1; omega
          rw [this] at hd
          exact List.mem_of_mem_drop (hd ▸ List.mem_cons_self))
        rw [hd, encBs_cons] at e
        match hs : encB s with
        | [] => have := encB_pos s; rw [hs] at this; simp at this
        | x :: rest =>
          rw [hs] at e
          have hx := hlead x rest hs
          have ee := (List.cons.inj e).1
          rw [ee] at hy
          omega
theorem cut_whole {r : Int} (hc : chB r = true) (l : List Int) (hl : l.all chB = true) : Lib.validD (encBs l ++ encB r) = true :=
  (valid_iff _).2 ⟨l ++ [r], by rw [List.all_append, hl]; simp [hc], by rw [encBs_append]; simp [encBs]⟩
theorem step_append_lies {P : Program} {w : World} {ops : Array Oper} {o : Oper} {a : Act} {K : Act → World → Prop} {Q : Exit → Act → World → Prop} {E : Prop} (hw : Region.wanted o (yielded ops a.tmps) = true) (s x : Operand) (t : TypeId)
    (ho : o.op = .call { callee := .builtin .append, args := #[s, x], argTypes := #[t, t] })
    (base : Nat) (e : TypeId) (i : TypeInfo) (z : Value) (bytes : Nat) (ht : P.underlying t = some (.slice e)) (hi : P.info? e = some i) (hz : i.zero = some z)
    (hsize : i.size = 1) (hby : i.bytes = bytes) (hzs : z.cells.size = 1)
    (v : Value) (n : Nat) (xs : List Value) (hs : a.eval s = v) (hown : w.ownsRow base e 1 v n xs)
    (B : Nat) (A : Option Addr) (m c : Nat) (news : List Value) (hx : a.eval x = .slice A m c) (hlen : news.length = m) (hA : A = none → c = 0) (hl : Lies w B A news) (h1 : ∀ u ∈ news, u.oneCell' = true)
    (h63 : n + m ≤ maxLen) (hbytes : (n + m) * bytes ≤ 140737488355328) (hbase : base ≤ w.heap.size)
    (h : ∀ v' w', w'.ownsRow base e 1 v' (n + m) (xs ++ news) → w.grownBy w' v.ownBlock → K (a.put o.dst v') w') : if Region.wanted o (yielded ops a.tmps) = true then Oper.wp P o a w K Q else E := by
  rw [if_pos hw]
  cases A with
  | none =>
    have hn : news = [] := by
      rcases List.eq_nil_or_concat news with e | ⟨l, u, e⟩
      · exact e
      · obtain ⟨b, o, h, _⟩ := hl (by rw [e]; simp)
        cases h
    subst hn
    simp at hlen
    subst hlen
    rw [hA rfl] at hx
    have hrun := run_append_owned_none (P := P) (w := w) base t o.type e i 1 ht hi v n xs hown
    unfold Oper.wp
    simp [execOp, ho, resolve, invoke, builtin, hs, hx, hrun, Result.andThen]
    exact h v w (by simpa using hown) (World.grownBy.refl w _)
  | some ad =>
    refine wp_append_own w s x t ho base e i z 1 bytes ht hi hz hsize hby hzs (by omega) v n xs hs hown ad m c news hx (by omega) ?_ h1 h63 hbytes hbase fun v' w' h2 h3 _ => h v' w' h2 h3
    intro j u hu
    have hj : j < news.length := by
      rcases Nat.lt_or_ge j news.length with hj | hj
      · exact hj
      · rw [List.getElem?_eq_none hj] at hu; cases hu
    obtain ⟨b, o, hb, _, hc⟩ := hl (by intro e; rw [e] at hj; simp at hj)
    cases hb
    rw [List.getElem?_eq_getElem hj] at hu
    have := hc j hj
    rcases Nat.eq_zero_or_pos j with e | e
    · subst e; simpa [Addr.add, hu] using this.trans hu
    · simp only [Addr.add]; rw [if_neg (by omega), this]; exact hu
theorem lies_take {w : World} {B b o : Nat} {xs : List UInt8} (h : Lies w B (some ⟨b, o, none⟩) (u8c xs)) (n : Nat) : Lies w B (some ⟨b, o, none⟩) (u8c (xs.take n)) := fun hne => by
  have hl : 0 < xs.length := by
    rcases Nat.eq_zero_or_pos xs.length with e | e
    · rw [List.eq_nil_of_length_eq_zero e] at hne; simp [u8c] at hne
    · exact e
  obtain ⟨b', o', e, hb, hc⟩ := lies_cells h hl
  cases e
  exact lies_of hb (fun j hj => by
    have hj' : j < xs.length := by rw [List.length_take] at hj; omega
    rw [hc j hj']; simp) hne
theorem lies_drop {w : World} {B b o : Nat} {xs : List UInt8} (h : Lies w B (some ⟨b, o, none⟩) (u8c xs)) (n : Nat) : Lies w B (some ⟨b, o + n, none⟩) (u8c (xs.drop n)) := fun hne => by
  have hl : 0 < xs.length := by
    rcases Nat.eq_zero_or_pos xs.length with e | e
    · rw [List.eq_nil_of_length_eq_zero e] at hne; simp [u8c] at hne
    · exact e
  obtain ⟨b', o', e, hb, hc⟩ := lies_cells h hl
  cases e
  exact lies_of hb (cells_drop n hc) hne
theorem u8_lo {x : Int} (h : (Lit.int .u8 x).wf = true) : 0 ≤ x := by
  simp [Lit.wf, IntKind.min, IntKind.max, IntKind.signed, IntKind.bits] at h
  omega
theorem u8_hi {x : Int} (h : (Lit.int .u8 x).wf = true) : x < 256 := by
  simp [Lit.wf, IntKind.min, IntKind.max, IntKind.signed, IntKind.bits] at h
  omega
end Go.Proofs.YtboanbnpahejeaaDoor
