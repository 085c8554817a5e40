/-
  Bytes that a call gathers by append, whatever else it keeps; bytes turned into a text. Conditions: there are not too many.
-/
import Derived.Test.YtlndjmpopoihnaaDoorKept
import Derived.Test.YtlndjmpopoihnaaDoorHex
namespace Go.Proofs.YtlndjmpopoihnaaDoor
open Go.RowKit
set_option linter.unusedVariables false
/-- append of bytes that lie at any address, as an operation. -/
theorem app_wp {w : World} {o : Oper} {a : Act} {K : Act → World → Prop} {Q : Exit → Act → World → Prop} (s x : Operand)
    (ho : o.op = .call { callee := .builtin .append, args := #[s, x], argTypes := #[22, 22] }) (B : Nat) (l : List UInt8) (v : Value) (hs : a.eval s = v) (hown : w.ownsRow B 5 1 v l.length (u8c l)) (hB : B ≤ w.heap.size)
    (A : Option Addr) (m c : Nat) (y : List UInt8) (hx : a.eval x = .slice A m c) (hm : y.length = m) (hA : A = none → c = 0) (hl : Lies w A y) (hn : l.length + m ≤ 1000000000000)
    (h : ∀ v' w', w'.ownsRow B 5 1 v' (l ++ y).length (u8c (l ++ y)) → w.grownBy w' v.ownBlock → K (a.put o.dst v') w') : o.wp Tryd.prog a w K Q := by
  obtain ⟨i0, hi, hz0, hz1, hz2⟩ := info_parts byteInfo
  by_cases hy : y = []
  · subst hy
    obtain rfl : m = 0 := by simpa using hm.symm
    cases A with
    | none =>
      rw [hA rfl] at hx
      have hrun := run_append_owned_none (P := Tryd.prog) (w := w) B 22 o.type 5 i0 1 Tryd.underlying22 hi v l.length (u8c l) hown
      unfold Oper.wp
      simp [execOp, ho, resolve, invoke, builtin, hs, hx, hrun, Result.andThen]
      exact h v w (by simpa using hown) (one_refl w _)
    | some ad =>
      refine wp_append_own w s x 22 ho B 5 i0 (.int .u8 0) 1 1 Tryd.underlying22 hi hz0 hz1 hz2 rfl (by omega) v l.length (u8c l) hs hown ad 0 c [] hx (by simp) (fun j u hu => by simp at hu) (fun u hu => by cases hu) (by unfold maxLen; omega) (by omega) hB fun v' w' h2 h3 _ => h v' w' (by simpa using h2) h3
  · obtain ⟨b, o', rfl, _, hr⟩ := hl hy
    refine wp_append_own w s x 22 ho B 5 i0 (.int .u8 0) 1 1 Tryd.underlying22 hi hz0 hz1 hz2 rfl (by omega) v l.length (u8c l) hs hown ⟨b, o', none⟩ m c (u8c y) hx (by rw [u8c_length, hm]; omega) (fun j u hu => by rw [Addr_add_none]; exact hr j u hu) (fun u hu => by simp [u8c] at hu; obtain ⟨z, _, rfl⟩ := hu; rfl) (by unfold maxLen; omega) (by omega) hB fun v' w' h2 h3 _ => h v' w' ?_ h3
    rw [List.length_append, hm, u8c_append]; exact h2
theorem app_list {w : World} {ops : Array Oper} {rest : List Oper} {o : Oper} {a : Act} {Q : Exit → Act → World → Prop} (hgd : o.guard = none) (s x : Operand)
    (ho : o.op = .call { callee := .builtin .append, args := #[s, x], argTypes := #[22, 22] }) (B : Nat) (l : List UInt8) (v : Value) (hs : a.eval s = v) (hown : w.ownsRow B 5 1 v l.length (u8c l)) (hB : B ≤ w.heap.size)
    (A : Option Addr) (m c : Nat) (y : List UInt8) (hx : a.eval x = .slice A m c) (hm : y.length = m) (hA : A = none → c = 0) (hl : Lies w A y) (hn : l.length + m ≤ 1000000000000)
    (h : ∀ v' w', w'.ownsRow B 5 1 v' (l ++ y).length (u8c (l ++ y)) → w.grownBy w' v.ownBlock → wpList Tryd.prog ops Q rest (a.put o.dst v') w') : wpList Tryd.prog ops Q (o :: rest) a w :=
  wpList_plain hgd fun _ hK => app_wp s x ho B l v hs hown hB A m c y hx hm hA hl hn fun v' w' h2 h3 => hK _ _ (h v' w' h2 h3)
/-- A slice that has just been laid is the call's own. -/
theorem own_new (w : World) (l : List UInt8) (hl : l.length ≤ 1000) : (w.alloc (.cells (u8c l).toArray 5)).ownsRow w.heap.size 5 1 (.slice (some ⟨w.heap.size, 0, none⟩) l.length l.length) l.length (u8c l) := by
  refine ⟨by rw [u8c_length]; omega, .inr ⟨w.heap.size, l.length, (u8c l).toArray, rfl, Nat.le_refl _, heap_alloc_last _ _, Nat.le_refl _, ?_, ?_, ?_⟩⟩
  · unfold maxLen; omega
  · rw [List.size_toArray, u8c_length, Nat.mul_one]
  · rw [Nat.mul_one, List.take_of_length_le (by rw [u8c_length]; exact Nat.le_refl _)]
/-- What the call's own bytes look like to others. -/
theorem own_lies {w : World} {B n : Nat} {v : Value} {l : List UInt8} (h : w.ownsRow B 5 1 v n (u8c l)) : ∃ A cap, v = .slice A l.length cap ∧ l.length ≤ cap ∧ cap ≤ 9223372036854775807 ∧ (A = none → cap = 0) ∧ Lies w A l := by
  obtain ⟨A, cap, rfl, h1, h2, h3, h4⟩ := own_form h
  have hn : l.length = n := by have := h.1; rwa [u8c_length, Nat.mul_one] at this
  rw [hn]
  refine ⟨A, cap, rfl, h1, h2, h3, fun hl => ?_⟩
  obtain ⟨b, o, e, _, hlt, hr⟩ := h4 hl
  exact ⟨b, o, e, hlt, hr⟩
theorem own_at {w : World} {B n k : Nat} {v : Value} {l : List UInt8} (h : w.ownsRow B 5 1 v n (u8c l)) (hk : l.length = k) : ∃ A cap, v = .slice A k cap ∧ Lies w A l := by
  obtain ⟨A, cap, e, _, _, _, hl⟩ := own_lies h
  exact ⟨A, cap, by rw [e, hk], hl⟩
theorem own_full {w : World} {B n k : Nat} {v : Value} {l : List UInt8} (h : w.ownsRow B 5 1 v n (u8c l)) (hk : l.length = k) : ∃ A cap, v = .slice A k cap ∧ k ≤ cap ∧ cap ≤ 9223372036854775807 ∧ (A = none → cap = 0) ∧ Lies w A l := by
  obtain ⟨A, cap, e, h1, h2, h3, hl⟩ := own_lies h
  exact ⟨A, cap, by rw [e, hk], by omega, h2, h3, hl⟩
theorem Kept.low {L : List (Nat × TypeId × List Value)} {w wr w' : World} {B : Nat} (h : Kept L w wr) (hb : Below B wr w') (hB : w.heap.size ≤ B) (hL : ∀ x ∈ L, x.1 < B) : Kept L w w' :=
  ⟨h.bl.trans (hb.mono hB), fun x hx => ⟨(h.hs x hx).1.below hb (hL x hx), (h.hs x hx).2⟩⟩
theorem below_own {B n : Nat} {w w' : World} {v : Value} {xs : List Value} (h : w.ownsRow B 5 1 v n xs) (hg : w.grownBy w' v.ownBlock) (hB : B ≤ w.heap.size) : Below B w w' :=
  ⟨hg.os, hg.tape, hg.output, hg.size, fun i hi => hg.block i (by omega) (fun e => by have := own_ge h i e.symm; omega)⟩
theorem conv_lies {w : World} {A : Option Addr} {bs : List UInt8} (c : Nat) (h : Lies w A bs) : (convert 22 9 (.slice A bs.length c)).run Tryd.prog w = .ok (.string ⟨bs.toArray⟩) w := by
  by_cases hb : bs = []
  · subst hb
    rw [run_convert_bytes_string w 22 9 5 _ _ c Tryd.underlying22 Tryd.underlying5 Tryd.underlying9]
    cases A <;> simp [Conv.bytesToString, loadCells]
    all_goals rfl
  · obtain ⟨b, o, rfl, _, hr⟩ := h hb
    exact conv_at c hr
end Go.Proofs.YtlndjmpopoihnaaDoor
