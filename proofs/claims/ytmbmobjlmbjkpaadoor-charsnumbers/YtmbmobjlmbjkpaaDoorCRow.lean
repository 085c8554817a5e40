/-
  Bytes that a call gathers in a slice of its own, also in one that a conversion laid: append of bytes and of a text. Conditions: there are not too many.
-/
import Derived.Test.YtmbmobjlmbjkpaaDoorOwn
import Derived.Laws.IdiomCopy
import Derived.Laws.AppendOwn
import Derived.Laws.AppendOwnNone
import Derived.Laws.MakeOwn
import Derived.Laws.Externs
import Derived.Lib.AppendStr
import Derived.OwnWalk
import Derived.Deep.Draws
import Derived.Deep.QuietTactic
import Derived.BigQuiet
import Derived.Deep.WholeRow
namespace Go.Proofs.YtmbmobjlmbjkpaaDoor
open Go.RowKit
set_option linter.unusedVariables false
theorem byteInf : (Tryd.prog.info? 5).map (fun i => (i.zero, i.size, i.bytes)) = some (some (.int .u8 0), 1, 1) := by kernel_rfl
theorem u8c_one (l : List UInt8) : ∀ u ∈ u8c l, u.oneCell' = true := fun u hu => by
  simp [u8c] at hu; obtain ⟨z, _, rfl⟩ := hu; rfl
theorem addr_add (b o j : Nat) : (⟨b, o, none⟩ : Addr).add j = ⟨b, o + j, none⟩ := by unfold Addr.add; split <;> simp_all
/-- A slice of these bytes in a row of the call's own, of which nothing is frozen; or no slice, and none. -/
def Own (w : World) (B : Nat) (v : Value) (l : List UInt8) : Prop :=
  (v = .slice none 0 0 ∧ l = []) ∨ ∃ g cap, v = .slice (some ⟨g, 0, none⟩) l.length cap ∧ B ≤ g ∧ g < w.heap.size ∧ l.length ≤ cap ∧ cap ≤ 9223372036854775807 ∧
    (∀ j, j < cap → (w.cell? ⟨g, j, none⟩).isSome = true ∧ w.frozen? ⟨g, j, none⟩ = false) ∧ ∀ j u, (u8c l)[j]? = some u → w.cell? ⟨g, j, none⟩ = some u
theorem Own.nil (w : World) (B : Nat) : Own w B (.slice none 0 0) [] := .inl ⟨rfl, rfl⟩
theorem Own.later {w w' : World} {B : Nat} {v : Value} {l : List UInt8} (h : Own w B v l) (hb : Below w.heap.size w w') : Own w' B v l := by
  rcases h with h | ⟨g, cap, e, h1, h2, h3, h4, h5, h6⟩
  · exact .inl h
  · exact .inr ⟨g, cap, e, h1, Nat.lt_of_lt_of_le h2 hb.size, h3, h4, fun j hj => by rw [hb.cell (p := ⟨g, j, none⟩) h2, hb.frozen (p := ⟨g, j, none⟩) h2]; exact h5 j hj, fun j u hu => by rw [hb.cell (p := ⟨g, j, none⟩) h2]; exact h6 j u hu⟩
theorem Own.of_row {w : World} {B n : Nat} {v : Value} {l : List UInt8} (h : w.ownsRow B 5 1 v n (u8c l)) : Own w B v l := by
  obtain ⟨hl, h | ⟨g, cap, cur, rfl, hg, hh, hn, hc, hs, ht⟩⟩ := h
  · obtain ⟨rfl, rfl⟩ := h
    rw [u8c_length] at hl
    exact .inl ⟨rfl, List.eq_nil_of_length_eq_zero (by simpa using hl)⟩
  · rw [u8c_length, Nat.mul_one] at hl
    subst hl
    rw [Nat.mul_one] at hs ht
    refine .inr ⟨g, cap, rfl, hg, (Array.getElem?_eq_some_iff.1 hh).1, hn, by unfold maxLen at hc; exact hc, fun j hj => ⟨?_, frozen_of_row w g j cur 5 hh⟩, fun j u hu => ?_⟩
    · rw [cell_of_row w g j cur 5 (0, 0) hh, Array.getElem?_eq_getElem (by omega)]; rfl
    · rw [cell_of_row w g j cur 5 (0, 0) hh, ← hu, ← ht]
      have hj : j < l.length := by
        have := (List.getElem?_eq_some_iff.1 hu).1
        rwa [u8c_length] at this
      rw [List.getElem?_take_of_lt hj, Array.getElem?_toList]
theorem Own.lies {w : World} {B : Nat} {v : Value} {l : List UInt8} (h : Own w B v l) : ∃ A cap, v = .slice A l.length cap ∧ l.length ≤ cap ∧ cap ≤ 9223372036854775807 ∧ Lies w w.heap.size A (u8c l) := by
  rcases h with ⟨rfl, rfl⟩ | ⟨g, cap, rfl, h1, h2, h3, h4, h5, h6⟩
  · exact ⟨none, 0, rfl, Nat.le_refl _, by omega, fun h => absurd rfl h⟩
  · exact ⟨some ⟨g, 0, none⟩, cap, rfl, h3, h4, fun _ => ⟨g, 0, rfl, h2, fun j hj => by rw [Nat.zero_add]; exact h6 j _ (List.getElem?_eq_getElem hj)⟩⟩
theorem below_setCells {B g : Nat} (hB : B ≤ g) {a : World} : ∀ (vs : List Value) (o : Nat) (w : World), Below B a w → Below B a (w.setCells g o vs)
  | [], _, _, h => h
  | v :: r, o, w, h => below_setCells hB r (o + 1) _ (h.setCell (p := ⟨g, o, none⟩) hB v)
theorem size_setCells {g : Nat} : ∀ (vs : List Value) (o : Nat) (w : World), (w.setCells g o vs).heap.size = w.heap.size
  | [], _, _ => rfl
  | v :: r, o, w => by rw [World.setCells, size_setCells r]; simp [World.setCell]
/-- A row that has room, written behind its bytes. -/
theorem own_room {w : World} {B g cap : Nat} {l y : List UInt8} (h1 : B ≤ g) (h2 : g < w.heap.size) (h4 : cap ≤ 9223372036854775807) (hroom : l.length + y.length ≤ cap)
    (h5 : ∀ j, j < cap → (w.cell? ⟨g, j, none⟩).isSome = true ∧ w.frozen? ⟨g, j, none⟩ = false) (h6 : ∀ j u, (u8c l)[j]? = some u → w.cell? ⟨g, j, none⟩ = some u) :
    Own (w.setCells g l.length (u8c y)) B (.slice (some ⟨g, 0, none⟩) (l.length + y.length) cap) (l ++ y) := by
  have hin := World.cell?_setCells_in g (u8c y) l.length w (fun j hj => (h5 (l.length + j) (by rw [u8c_length] at hj; omega)).1)
  refine .inr ⟨g, cap, by rw [List.length_append], h1, by rw [size_setCells]; exact h2, by rw [List.length_append]; exact hroom, h4, fun j hj => ⟨?_, by rw [World.frozen?_setCells]; exact (h5 j hj).2⟩, fun j u hu => ?_⟩
  · by_cases hj1 : l.length ≤ j ∧ j < l.length + y.length
    · have := hin (j - l.length) (by rw [u8c_length]; omega)
      rw [show l.length + (j - l.length) = j by omega] at this
      rw [this]; rfl
    · rw [World.cell?_setCells_out g (u8c y) l.length w ⟨g, j, none⟩ (fun _ _ => by rw [u8c_length]; show j < l.length ∨ l.length + y.length ≤ j; omega)]
      exact (h5 j hj).1
  · rw [u8c_append] at hu
    by_cases hj1 : j < l.length
    · rw [World.cell?_setCells_out g (u8c y) l.length w ⟨g, j, none⟩ (fun _ _ => .inl hj1)]
      rw [List.getElem?_append_left (by rw [u8c_length]; exact hj1)] at hu
      exact h6 j u hu
    · rw [List.getElem?_append_right (by rw [u8c_length]; omega), u8c_length] at hu
      have hj2 := (List.getElem?_eq_some_iff.1 hu).1
      have := hin (j - l.length) hj2
      rw [show l.length + (j - l.length) = j by omega] at this
      rw [this, ← hu, List.getElem?_eq_getElem hj2]
/-- A row that was laid anew. -/
theorem own_grown {w : World} {B cap : Nat} {l y : List UInt8} (hB : B ≤ w.heap.size) (hge : l.length + y.length ≤ cap) (hcm : cap ≤ maxLen) (Z : Array Value) (hZ : Z.size = cap - (l.length + y.length)) :
    Own (w.drew.alloc (.cells ((u8c l).toArray ++ (u8c y).toArray ++ Z) 5)) B (.slice (some ⟨w.heap.size, 0, none⟩) (l.length + y.length) cap) (l ++ y) := by
  refine Own.of_row (n := l.length + y.length) ⟨by rw [u8c_length, List.length_append]; omega, .inr ⟨w.heap.size, cap, _, rfl, hB, heap_alloc_new w.drew _, hge, hcm, ?_, ?_⟩⟩
  · simp only [Array.size_append, List.size_toArray, u8c_length, hZ]; omega
  · rw [Nat.mul_one, u8c_append]
    simp only [Array.toList_append]
    rw [List.take_append_of_le_length (by simp [u8c_length])]
    exact List.take_of_length_le (by simp [u8c_length])
/-- append of bytes that lie somewhere. -/
theorem app_run {w : World} {B : Nat} {v : Value} {l : List UInt8} (h : Own w B v l) (hB : B ≤ w.heap.size) (ad : Addr) (m c : Nat) (y : List UInt8) (hm : y.length = m) (hy : ∀ j u, (u8c y)[j]? = some u → w.cell? (ad.add j) = some u) (hn : l.length + m ≤ 1000000000000) (ty : TypeId) :
    ∃ v' w', (Builtin.append_ #[28, 28] ty #[v, .slice (some ad) m c]).run Tryd.prog w = .ok v' w' ∧ Own w' B v' (l ++ y) ∧ Below B w w' := by
  obtain ⟨i0, hi, hz0, hz1, hz2⟩ := info_parts byteInf
  subst hm
  rcases h with ⟨rfl, rfl⟩ | ⟨g, cap, rfl, h1, h2, h3, h4, h5, h6⟩
  · obtain ⟨v', w', hr, ho, hg, _⟩ := run_append_own (P := Tryd.prog) w B 28 ty 5 i0 (.int .u8 0) 1 1 Tryd.underlying28 hi hz0 hz1 hz2 rfl (by omega) (.slice none 0 0) 0 [] (World.ownsRow_nil _ _ _ _) ad y.length c (u8c y) (by rw [u8c_length]; omega) hy (u8c_one y) (by unfold maxLen; omega) (by omega) hB
    exact ⟨v', w', hr, Own.of_row ho, (Below.refl B w).grown hg hB (fun k hk => by simp [Value.ownBlock] at hk)⟩
  · by_cases hroom : l.length + y.length ≤ cap
    · have hf := run_firstCells_some (P := Tryd.prog) w 1 y.length ad y.length c (u8c y) (by rw [u8c_length]; omega) hy
      have hst := run_storeCells_cells (P := Tryd.prog) g l.length (u8c y) 0 w (fun j hj => (h5 _ (by rw [u8c_length] at hj; omega)).1) (fun j hj => (h5 _ (by rw [u8c_length] at hj; omega)).2) (u8c_one y)
      rw [Nat.add_zero] at hst
      exact ⟨_, _, by simp [Builtin.append_, run_underlying Tryd.underlying28, sizeOf, typeInfo, hi, hz1, Builtin.lenOf, hroom, hf, Addr.add_lit, hst], own_room h1 h2 h4 hroom h5 h6, below_setCells h1 _ _ _ (Below.refl _ _)⟩
    · have hr := run_append_grow (P := Tryd.prog) w 28 ty 5 i0 (.int .u8 0) Tryd.underlying28 hi hz0 ⟨g, 0, none⟩ l.length cap (u8c l) (by rw [u8c_length, hz1]; omega) (fun j u hu => by rw [addr_add, Nat.zero_add]; exact h6 j u hu) ad y.length c (u8c y) (by rw [u8c_length, hz1]; omega) hy (by omega) (by omega) (by rw [hz2]; exact growslice_fits (by omega) (by omega))
      refine ⟨_, _, hr, own_grown hB (grownCap_ge w _ cap _) (grownCap_le_maxLen w _ cap _ (by unfold maxLen; omega)) _ ?_, ((Below.refl B w).drew).alloc hB _⟩
      rw [size_zeroCells]; simp [Value.cells]
/-- append of a text. -/
theorem app_run_str {w : World} {B : Nat} {v : Value} {l : List UInt8} (h : Own w B v l) (hB : B ≤ w.heap.size) (S : ByteArray) (hn : l.length + S.size ≤ 1000000000000) (ty : TypeId) :
    ∃ v' w', (Builtin.append_ #[28, 9] ty #[v, .string S]).run Tryd.prog w = .ok v' w' ∧ Own w' B v' (l ++ S.data.toList) ∧ Below B w w' := by
  obtain ⟨i0, hi, hz0, hz1, hz2⟩ := info_parts byteInf
  have hsc : Lib.strCells S = u8c S.data.toList := rfl
  have hsz : S.size = S.data.toList.length := Lib.size_eq S
  rcases h with ⟨rfl, rfl⟩ | ⟨g, cap, rfl, h1, h2, h3, h4, h5, h6⟩
  · obtain ⟨v', w', hr, ho, hg, _⟩ := Lib.run_append_own_string (P := Tryd.prog) w B 28 9 ty 5 i0 Tryd.underlying28 Tryd.underlying9 hi hz0 hz1 hz2 (.slice none 0 0) 0 [] (World.ownsRow_nil _ _ _ _) S (by unfold maxLen; omega) (by omega) hB
    exact ⟨v', w', hr, Own.of_row (by rw [hsc] at ho; exact ho), (Below.refl B w).grown hg hB (fun k hk => by simp [Value.ownBlock] at hk)⟩
  · by_cases hroom : l.length + S.size ≤ cap
    · have hf := Lib.run_firstCells_string (P := Tryd.prog) w 1 S
      have hst := run_storeCells_cells (P := Tryd.prog) g l.length (Lib.strCells S) 0 w (fun j hj => (h5 _ (by rw [Lib.strCells_length] at hj; omega)).1) (fun j hj => (h5 _ (by rw [Lib.strCells_length] at hj; omega)).2) (Lib.strCells_oneCell S)
      rw [Nat.add_zero] at hst
      have ho := own_room (y := S.data.toList) h1 h2 h4 (by rw [← hsz]; exact hroom) h5 h6
      rw [← hsz, ← hsc] at ho
      exact ⟨_, _, by simp [Builtin.append_, run_underlying Tryd.underlying28, run_underlying Tryd.underlying9, sizeOf, typeInfo, hi, hz1, Builtin.lenOf, hroom, hf, Addr.add_lit, hst], ho, below_setCells h1 _ _ _ (Below.refl _ _)⟩
    · have hr := Lib.run_append_grow_string (P := Tryd.prog) w 28 9 ty 5 i0 (.int .u8 0) Tryd.underlying28 Tryd.underlying9 hi hz0 ⟨g, 0, none⟩ l.length cap (u8c l) (by rw [u8c_length, hz1]; omega) (fun j u hu => by rw [addr_add, Nat.zero_add]; exact h6 j u hu) S (by omega) (by omega) (by rw [hz2]; exact growslice_fits (by omega) (by omega))
      have ho := own_grown (l := l) (y := S.data.toList) (cap := grownCap w (l.length + S.size) cap 5) hB (by rw [← hsz]; exact grownCap_ge w (l.length + S.size) cap 5) (grownCap_le_maxLen w _ cap _ (by unfold maxLen; omega)) (Builtin.zeroCells (Value.int .u8 0).cells (grownCap w (l.length + S.size) cap 5 - (l.length + S.size))) (by rw [size_zeroCells, ← hsz]; simp [Value.cells])
      rw [← hsz, ← hsc] at ho
      exact ⟨_, _, hr, ho, ((Below.refl B w).drew).alloc hB _⟩
/-- The same, as operations. -/
theorem app_list {w : World} {ops : Array Oper} {rest : List Oper} {o : Oper} {a : Act} {Q : Exit → Act → World → Prop} (hgd : o.guard = none) (s x : Operand)
    (ho : o.op = .call { callee := .builtin .append, args := #[s, x], argTypes := #[28, 28] }) (B : Nat) (l : List UInt8) (v : Value) (hs : a.eval s = v) (hown : Own w B v l) (hB : B ≤ w.heap.size)
    (ad : Addr) (m c : Nat) (y : List UInt8) (hx : a.eval x = .slice (some ad) m c) (hm : y.length = m) (hy : ∀ j u, (u8c y)[j]? = some u → w.cell? (ad.add j) = some u) (hn : l.length + m ≤ 1000000000000)
    (h : ∀ v' w', Own w' B v' (l ++ y) → Below B w w' → wpList Tryd.prog ops Q rest (a.put o.dst v') w') : wpList Tryd.prog ops Q (o :: rest) a w := by
  refine wpList_plain hgd fun K hK => ?_
  obtain ⟨v', w', hr, h2, h3⟩ := app_run hown hB ad m c y hm hy hn o.type
  unfold Oper.wp execOp
  simp only [ho, resolve, invoke, builtin, Sem.run_bind, Sem.run_pure, Result.andThen_ok, List.map_toArray, List.map_cons, List.map_nil, hs, hx, hr]
  exact hK _ _ (h v' w' h2 h3)
theorem app_list_str {w : World} {ops : Array Oper} {rest : List Oper} {o : Oper} {a : Act} {Q : Exit → Act → World → Prop} (hgd : o.guard = none) (s x : Operand)
    (ho : o.op = .call { callee := .builtin .append, args := #[s, x], argTypes := #[28, 9] }) (B : Nat) (l : List UInt8) (v : Value) (hs : a.eval s = v) (hown : Own w B v l) (hB : B ≤ w.heap.size)
    (S : ByteArray) (hx : a.eval x = .string S) (hn : l.length + S.size ≤ 1000000000000)
    (h : ∀ v' w', Own w' B v' (l ++ S.data.toList) → Below B w w' → wpList Tryd.prog ops Q rest (a.put o.dst v') w') : wpList Tryd.prog ops Q (o :: rest) a w := by
  refine wpList_plain hgd fun K hK => ?_
  obtain ⟨v', w', hr, h2, h3⟩ := app_run_str hown hB S hn o.type
  unfold Oper.wp execOp
  simp only [ho, resolve, invoke, builtin, Sem.run_bind, Sem.run_pure, Result.andThen_ok, List.map_toArray, List.map_cons, List.map_nil, hs, hx, hr]
  exact hK _ _ (h v' w' h2 h3)
/-- append of one byte that the same round laid. -/
theorem app_byte {w : World} {ops : Array Oper} {rest : List Oper} {o : Oper} {a : Act} {Q : Exit → Act → World → Prop} (hgd : o.guard = none) (s x : Operand)
    (ho : o.op = .call { callee := .builtin .append, args := #[s, x], argTypes := #[28, 28] }) (B : Nat) (l : List UInt8) (v : Value) (hs : a.eval s = v) (hown : Own w B v l) (hB : B ≤ w.heap.size)
    (y : UInt8) (x0 : Int) (hx0 : x0 = (y.toNat : Int)) (hx : a.eval x = .slice (some ⟨w.heap.size, 0, none⟩) 1 1) (hn : l.length + 1 ≤ 1000000000000)
    (h : ∀ v' w', Own w' B v' (l ++ [y]) → Below B w w' → wpList Tryd.prog ops Q rest (a.put o.dst v') w') : wpList Tryd.prog ops Q (o :: rest) a (w.alloc (.cells #[.int .u8 x0] 5)) := by
  subst hx0
  have hb := (Below.refl w.heap.size w).alloc (Nat.le_refl _) (.cells #[.int .u8 (y.toNat : Int)] 5)
  refine app_list hgd s x ho B l v hs (hown.later hb) (Nat.le_trans hB hb.size) ⟨w.heap.size, 0, none⟩ 1 1 [y] hx rfl (fun j u hu => ?_) hn fun v' w' h2 h3 => h v' w' h2 ((hb.mono hB).trans h3)
  rw [addr_add, Nat.zero_add, cell_of_row _ _ j _ _ _ (heap_alloc_last w _)]
  exact List.getElem?_toArray.trans hu
end Go.Proofs.YtmbmobjlmbjkpaaDoor
