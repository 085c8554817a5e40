/-
  Blocks that a call keeps while it goes on; a list of parts with one more ahead. Conditions: there are not too many parts.
-/
import Derived.Test.YtlndjmpopoihnaaDoorFill
import Derived.Test.YtlndjmpopoihnaaDoorRApp
namespace Go.Proofs.YtlndjmpopoihnaaDoor
open Go.RowKit
set_option linter.unusedVariables false
/-- These blocks are as they were laid; nothing below has turned. -/
structure Kept (L : List (Nat × TypeId × List Value)) (w wr : World) : Prop where
  bl : Below w.heap.size w wr
  hs : ∀ x ∈ L, Holds wr x.1 x.2.1 x.2.2 ∧ w.heap.size ≤ x.1
theorem Kept.below {L : List (Nat × TypeId × List Value)} {w wr w' : World} {B : Nat} (h : Kept L w wr) (hb : Below B wr w') (hB : wr.heap.size ≤ B) : Kept L w w' :=
  ⟨h.bl.trans (hb.mono (Nat.le_trans h.bl.size hB)), fun x hx => ⟨(h.hs x hx).1.below hb (Nat.lt_of_lt_of_le (h.hs x hx).1.lt hB), (h.hs x hx).2⟩⟩
theorem Kept.new {L : List (Nat × TypeId × List Value)} {w wr : World} (h : Kept L w wr) (t : TypeId) (cs : List Value) : Kept ((wr.heap.size, t, cs) :: L) w (wr.alloc (.cells cs.toArray t)) :=
  ⟨h.bl.alloc h.bl.size _, fun x hx => by
    rcases List.mem_cons.1 hx with rfl | hx
    · exact ⟨Holds.fresh wr t cs, h.bl.size⟩
    · exact ⟨(h.hs x hx).1.alloc _, (h.hs x hx).2⟩⟩
theorem Kept.set {L : List (Nat × TypeId × List Value)} {w wr : World} (h : Kept L w wr) (t : TypeId) (E : Array Value) (cs : List Value) : Kept ((wr.heap.size, t, cs) :: L) w ((wr.alloc (.cells E t)).setRow wr.heap.size cs.toArray) := by
  rw [World.setRow_alloc_new]; exact h.new t cs
theorem Kept.start (w : World) : Kept [] w w := ⟨Below.refl _ _, fun x hx => by cases hx⟩
theorem Kept.drew {L : List (Nat × TypeId × List Value)} {w wr : World} (h : Kept L w wr) : Kept L w wr.drew := ⟨h.bl.drew, h.hs⟩
theorem Kept.got {L : List (Nat × TypeId × List Value)} {w wr : World} (h : Kept L w wr) {g : Nat} {t : TypeId} {cs : List Value} (hm : (g, t, cs) ∈ L) : Holds wr g t cs := (h.hs _ hm).1
theorem Kept.lies {L : List (Nat × TypeId × List Value)} {w wr : World} (h : Kept L w wr) {g : Nat} {t : TypeId} {l : List UInt8} (hm : (g, t, u8c l) ∈ L) : Lies wr (some ⟨g, 0, none⟩) l := fun _ =>
  ⟨g, 0, rfl, (h.got hm).lt, fun j v hv => by rw [Nat.zero_add]; exact ((h.got hm).cell j).trans hv⟩
theorem partsInfo : (Tryd.prog.info? 22).map (fun i => (i.zero, i.size, i.bytes)) = some (some (.slice none 0 0), 1, 24) := by kernel_rfl
theorem vals_one (ps : List Part) : ∀ u ∈ ps.map Part.val, u.oneCell' = true := fun u hu => by
  obtain ⟨p, _, rfl⟩ := List.mem_map.1 hu; rfl
/-- append of parts behind one that has just been laid. -/
theorem app_parts {w : World} {ops : Array Oper} {rest : List Oper} {o : Oper} {a : Act} {Q : Exit → Act → World → Prop} (hgd : o.guard = none) (s x : Operand)
    (ho : o.op = .call { callee := .builtin .append, args := #[s, x], argTypes := #[35, 35] }) (p : Part) (v : Value) (hv : v = p.val) (hs : a.eval s = .slice (some ⟨w.heap.size, 0, none⟩) 1 1)
    (PA : Option Addr) (m c : Nat) (ps : List Part) (hx : a.eval x = .slice PA m c) (hm : ps.length = m) (hP0 : PA = none → c = 0) (hP : PartsAt w PA ps) (hn : m ≤ 1000000000)
    (h : ∀ A' c' w', Below w.heap.size w w' → PartsAt w' A' (p :: ps) → wpList Tryd.prog ops Q rest (a.put o.dst (.slice A' (1 + m) c')) w') : wpList Tryd.prog ops Q (o :: rest) a (w.alloc (.cells #[v] 22)) := by
  subst hv
  obtain ⟨i0, hi, hz0, hz1, hz2⟩ := info_parts partsInfo
  have hown : (w.alloc (.cells #[p.val] 22)).ownsRow w.heap.size 22 1 (.slice (some ⟨w.heap.size, 0, none⟩) 1 1) 1 [p.val] :=
    ⟨rfl, .inr ⟨w.heap.size, 1, #[p.val], rfl, Nat.le_refl _, heap_alloc_last _ _, Nat.le_refl _, by simp [maxLen], rfl, rfl⟩⟩
  have fin : ∀ v' w', w'.ownsRow w.heap.size 22 1 v' (1 + m) ([p.val] ++ ps.map Part.val) → (w.alloc (.cells #[p.val] 22)).grownBy w' (some w.heap.size) → wpList Tryd.prog ops Q rest (a.put o.dst v') w' := fun v' w' ho' hg => by
    obtain ⟨hl, h0 | ⟨g, cap, cur, rfl, hg', hh, hn', hc, hs', ht⟩⟩ := ho'
    · exact absurd h0.2 (by omega)
    · have hb : Below w.heap.size w w' := ((Below.refl w.heap.size w).alloc (Nat.le_refl _) _).trans (below_one hg (Nat.le_refl _) (by simp))
      refine h _ _ _ hb (fun _ => ⟨g, 0, rfl, ?_, fun j u hu => ?_⟩)
      · rcases Nat.lt_or_ge g w'.heap.size with hlt | hge
        · exact hlt
        · rw [Array.getElem?_eq_none hge] at hh; cases hh
      · rw [Nat.zero_add, cell_of_row w' g j cur _ (0, 0) hh, ← hu, List.map_cons, ← List.singleton_append, ← ht]
        have hj : j < 1 + m := by
          have := (List.getElem?_eq_some_iff.1 hu).1
          rw [List.length_map, List.length_cons, hm] at this; omega
        rw [Nat.mul_one, List.getElem?_take_of_lt hj, Array.getElem?_toList]
  have hr : ps ≠ [] → ∃ b o, PA = some ⟨b, o, none⟩ ∧ (w.alloc (.cells #[p.val] 22)).rangeAt b o (ps.map Part.val) := fun hne => by
    obtain ⟨b, o', e, hlt, hr⟩ := hP hne
    exact ⟨b, o', e, range_keep hr (Below.heap_alloc _ _ _ hlt)⟩
  by_cases hy : ps = []
  · subst hy
    obtain rfl : m = 0 := by simpa using hm.symm
    cases PA with
    | none =>
      rw [hP0 rfl] at hx
      exact wpList_append_own_none hgd s x 35 ho w.heap.size 22 i0 1 Tryd.underlying35 hi _ 1 [p.val] hs hown hx (fin _ _ (by simpa using hown) (one_refl _ _))
    | some ad =>
      refine wpList_append_own _ hgd s x 35 ho w.heap.size 22 i0 (.slice none 0 0) 1 24 Tryd.underlying35 hi hz0 hz1 hz2 rfl (by omega) _ 1 [p.val] hs hown ad 0 c [] hx (by simp) (fun j u hu => by simp at hu) (fun u hu => by cases hu) (by unfold maxLen; omega) (by omega) (by simp) fun v' w' h2 h3 _ => fin v' w' (by simpa using h2) h3
  · obtain ⟨b, o', rfl, hr'⟩ := hr hy
    refine wpList_append_own _ hgd s x 35 ho w.heap.size 22 i0 (.slice none 0 0) 1 24 Tryd.underlying35 hi hz0 hz1 hz2 rfl (by omega) _ 1 [p.val] hs hown ⟨b, o', none⟩ m c (ps.map Part.val) hx (by rw [List.length_map, hm]; omega) (fun j u hu => by rw [Addr_add_none]; exact hr' j u hu) (vals_one ps) (by unfold maxLen; omega) (by omega) (by simp) fun v' w' h2 h3 _ => fin v' w' h2 h3
end Go.Proofs.YtlndjmpopoihnaaDoor
