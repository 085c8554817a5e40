/-
  Bytes that a call gathers in a slice of its own: what append makes of them. Conditions: there are not too many.
-/
import Derived.Test.YtlndjmpopoihnaaDoorTake
import Derived.Test.YtlndjmpopoihnaaDoorMkBytes
import Derived.Laws.AppendOwnNone
import Derived.OwnWalk
namespace Go.Proofs.YtlndjmpopoihnaaDoor
open Go.RowKit
set_option linter.unusedVariables false
/-- The slice v is the call's own, these are its bytes; block N has room for an answer; nothing below N has turned. -/
structure OB (N : Nat) (w : World) (l : List UInt8) (v : Value) (wr : World) : Prop where
  own : wr.ownsRow (N + 1) 5 1 v l.length (u8c l)
  rs : ∃ z, Holds wr N 25 z ∧ z.length = 32
  bl : Below N w wr
theorem own_ge {w : World} {B e n : Nat} {v : Value} {xs : List Value} (h : w.ownsRow B e 1 v n xs) (g : Nat) (hg : v.ownBlock = some g) : B ≤ g := by
  obtain ⟨_, h | ⟨g', cap, cur, rfl, hg', _⟩⟩ := h
  · obtain ⟨rfl, _⟩ := h
    simp [Value.ownBlock] at hg
  · simp [Value.ownBlock] at hg; omega
/-- What such a slice looks like. -/
theorem own_form {w : World} {B e n : Nat} {v : Value} {l : List UInt8} (h : w.ownsRow B e 1 v n (u8c l)) :
    ∃ A cap, v = .slice A n cap ∧ n ≤ cap ∧ cap ≤ 9223372036854775807 ∧ (A = none → cap = 0) ∧ (l ≠ [] → ∃ b o, A = some ⟨b, o, none⟩ ∧ B ≤ b ∧ b < w.heap.size ∧ w.rangeAt b o (u8c l)) := by
  obtain ⟨hl, h | ⟨g, cap, cur, rfl, hg, hh, hn, hc, hs, ht⟩⟩ := h
  · obtain ⟨rfl, rfl⟩ := h
    refine ⟨none, 0, rfl, Nat.le_refl _, by omega, fun _ => rfl, fun hne => ?_⟩
    rw [u8c_length] at hl
    exact absurd (List.eq_nil_of_length_eq_zero (by simpa using hl)) hne
  · have hlt : g < w.heap.size := by
      rcases Nat.lt_or_ge g w.heap.size with hlt | hge
      · exact hlt
      · rw [Array.getElem?_eq_none hge] at hh; cases hh
    refine ⟨some ⟨g, 0, none⟩, cap, rfl, hn, by unfold maxLen at hc; exact hc, (fun h => by cases h), fun _ => ⟨g, 0, rfl, hg, hlt, fun j v hv => ?_⟩⟩
    rw [Nat.zero_add, cell_of_row w g j cur e (0, 0) hh, ← hv, ← ht]
    have hj : j < n := by
      have := (List.getElem?_eq_some_iff.1 hv).1
      omega
    rw [Nat.mul_one, List.getElem?_take_of_lt hj, Array.getElem?_toList]
theorem OB.next {N : Nat} {w wr w' : World} {l l' : List UInt8} {v v' : Value} (h : OB N w l v wr) (ho : w'.ownsRow (N + 1) 5 1 v' l'.length (u8c l')) (hg : wr.grownBy w' v.ownBlock) : OB N w l' v' w' := by
  obtain ⟨z, hz, hzl⟩ := h.rs
  exact ⟨ho, ⟨z, hz.grown hg (fun e => by have := own_ge h.own N e.symm; omega), hzl⟩, h.bl.grown hg (by have := hz.lt; omega) (fun k e => by have := own_ge h.own k e; omega)⟩
theorem OB.alloc {N : Nat} {w wr : World} {l : List UInt8} {v : Value} (h : OB N w l v wr) (o : Obj) : OB N w l v (wr.alloc o) := by
  obtain ⟨z, hz, hzl⟩ := h.rs
  exact ⟨h.own.alloc o, ⟨z, hz.alloc o, hzl⟩, h.bl.alloc (by have := hz.lt; omega) o⟩
theorem OB.below {N : Nat} {w wr w' : World} {l : List UInt8} {v : Value} (h : OB N w l v wr) (hb : Below wr.heap.size wr w') : OB N w l v w' := by
  obtain ⟨z, hz, hzl⟩ := h.rs
  refine ⟨?_, ⟨z, hz.below hb hz.lt, hzl⟩, h.bl.trans (hb.mono (by have := hz.lt; omega))⟩
  obtain ⟨h1, h2 | ⟨g, cap, cur, hv, hg, hh, r⟩⟩ := h.own
  · exact ⟨h1, .inl h2⟩
  · refine ⟨h1, .inr ⟨g, cap, cur, hv, hg, ?_, r⟩⟩
    have hlt : g < wr.heap.size := by
      rcases Nat.lt_or_ge g wr.heap.size with hlt | hge
      · exact hlt
      · rw [Array.getElem?_eq_none hge] at hh; cases hh
    rw [hb.block g hlt]; exact hh
/-- append of bytes that lie at any address. -/
theorem app_any {w : World} {ops : Array Oper} {rest : List Oper} {o : Oper} {a : Act} {Q : Exit → Act → World → Prop} (hgd : o.guard = none) (s x : Operand)
    (ho : o.op = .call { callee := .builtin .append, args := #[s, x], argTypes := #[22, 22] }) (N : Nat) (w0 : World) (l : List UInt8) (v : Value) (hs : a.eval s = v) (hob : OB N w0 l v w)
    (A : Option Addr) (m c : Nat) (y : List UInt8) (hx : a.eval x = .slice A m c) (hm : y.length = m) (hA : A = none → c = 0) (hl : y ≠ [] → ∃ b o, A = some ⟨b, o, none⟩ ∧ w.rangeAt b o (u8c y))
    (hn : l.length + m ≤ 1000000000000)
    (h : ∀ v' w', OB N w0 (l ++ y) v' w' → wpList Tryd.prog ops Q rest (a.put o.dst v') w') : wpList Tryd.prog ops Q (o :: rest) a w := by
  obtain ⟨i0, hi, hz0, hz1, hz2⟩ := info_parts byteInfo
  have hNw : N + 1 ≤ w.heap.size := by obtain ⟨z, hz, _⟩ := hob.rs; exact hz.lt
  by_cases hy : y = []
  · subst hy
    obtain rfl : m = 0 := by simpa using hm.symm
    cases A with
    | none =>
      rw [hA rfl] at hx
      exact wpList_append_own_none hgd s x 22 ho (N + 1) 5 i0 1 Tryd.underlying22 hi v l.length (u8c l) hs hob.own hx (h v w (by simpa using hob))
    | some ad =>
      refine wpList_append_own w hgd s x 22 ho (N + 1) 5 i0 (.int .u8 0) 1 1 Tryd.underlying22 hi hz0 hz1 hz2 rfl (by omega) v l.length (u8c l) hs hob.own ad 0 c [] hx (by simp) (fun j u hu => by simp at hu) (fun u hu => by cases hu) (by unfold maxLen; omega) (by omega) hNw fun v' w' h2 h3 _ => h v' w' ?_
      exact hob.next (by simpa using h2) h3
  · obtain ⟨b, o', rfl, hr⟩ := hl hy
    refine wpList_append_own w hgd s x 22 ho (N + 1) 5 i0 (.int .u8 0) 1 1 Tryd.underlying22 hi hz0 hz1 hz2 rfl (by omega) v l.length (u8c l) hs hob.own ⟨b, o', none⟩ m c (u8c y) hx (by rw [u8c_length, hm]; omega) (fun j u hu => by rw [Addr_add_none]; exact hr j u hu) (fun u hu => by simp [u8c] at hu; obtain ⟨z, _, rfl⟩ := hu; rfl) (by unfold maxLen; omega) (by omega) hNw fun v' w' h2 h3 _ => h v' w' ?_
    refine hob.next ?_ h3
    rw [List.length_append, hm, u8c_append]; exact h2
/-- append of one byte that has just been laid. -/
theorem app_one {w : World} {ops : Array Oper} {rest : List Oper} {o : Oper} {a : Act} {Q : Exit → Act → World → Prop} (hgd : o.guard = none) (s x : Operand)
    (ho : o.op = .call { callee := .builtin .append, args := #[s, x], argTypes := #[22, 22] }) (N : Nat) (w0 : World) (l : List UInt8) (v : Value) (hs : a.eval s = v) (hob : OB N w0 l v w)
    (y : UInt8) (x0 : Int) (hx0 : x0 = v8 y) (hx : a.eval x = .slice (some ⟨w.heap.size, 0, none⟩) 1 1) (hn : l.length + 1 ≤ 1000000000000)
    (h : ∀ v' w', OB N w0 (l ++ [y]) v' w' → wpList Tryd.prog ops Q rest (a.put o.dst v') w') : wpList Tryd.prog ops Q (o :: rest) a (w.alloc (.cells #[.int .u8 x0] 5)) := by
  subst hx0
  exact app_any hgd s x ho N w0 l v hs (hob.alloc _) (some ⟨w.heap.size, 0, none⟩) 1 1 [y] hx rfl (fun h => by cases h) (fun _ => ⟨_, _, rfl, fun j v hv => by rw [Nat.zero_add, cell_of_row _ _ j _ _ _ (heap_alloc_last _ _)]; exact List.getElem?_toArray.trans hv⟩) hn h
end Go.Proofs.YtlndjmpopoihnaaDoor
