/-
  Nodes with their lists' values: how a list of nodes lies as one row of cells, opened and shut. Conditions: none.
-/
import Derived.Test.YtalcmhngebobnaaDoorDOf
import Derived.Deep.Slices
import Derived.Deep.AppendLies
namespace Go.Proofs.YtalcmhngebobnaaDoor
open Go.RowKit
set_option linter.unusedVariables false
/-- A node, and the values of its two lists. -/
structure Ny where
  x : Nd
  d : Value
  a : Value
def nyC (y : Ny) : List Value := ndC y.x y.d y.a
theorem nyC_len (y : Ny) : (nyC y).length = 8 := rfl
/-- Its lists lie as they are. -/
def NyAt (w : World) (B : Nat) (y : Ny) : Prop := DsAt w B y.d y.x.ds ∧ AsAt w B y.a y.x.ats
theorem NyAt.later {w w' : World} {y : Ny} (h : NyAt w w.heap.size y) (hb : Below w.heap.size w w') : NyAt w' w'.heap.size y := ⟨SlAt.later h.1 hb, SlAt.later h.2 hb⟩
theorem nyC_one {w : World} {B : Nat} {y : Ny} (h : NyAt w B y) : ∀ u ∈ nyC y, u.oneCell' = true := fun u hu => by
  obtain ⟨⟨A1, c1, e1, _⟩, ⟨A2, c2, e2, _⟩⟩ := h
  unfold nyC ndC at hu
  simp only [List.mem_cons, List.not_mem_nil, or_false] at hu
  rcases hu with rfl | rfl | rfl | rfl | rfl | rfl | rfl | rfl
  · rfl
  · rfl
  · rfl
  · rfl
  · rfl
  · rfl
  · rw [e1]; rfl
  · rw [e2]; rfl
theorem rows_one {w : World} {B : Nat} {ys : List Ny} (h : ∀ y ∈ ys, NyAt w B y) : ∀ u ∈ ys.flatMap nyC, u.oneCell' = true := fun u hu => by
  obtain ⟨y, hy, h1⟩ := List.mem_flatMap.1 hu
  exact nyC_one (h y hy) u h1
theorem NsAt.rows {w : World} {B : Nat} {v : Value} {l : List Nd} (h : NsAt w B v l) (hl : l ≠ []) : ∃ b o cap, ∃ ys : List Ny, v = .slice (some ⟨b, o, none⟩) l.length cap ∧ l.length ≤ cap ∧ cap ≤ 9223372036854775807 ∧ b < B ∧ ys.map (·.x) = l ∧ (∀ y ∈ ys, NyAt w B y) ∧
    ∀ j u, (ys.flatMap nyC)[j]? = some u → w.cell? ⟨b, o + j, none⟩ = some u := by
  obtain ⟨b, o, cap, e, h1, h2, h3, h4⟩ := h.open hl
  have hex : ∀ i, i < l.length → ∃ p : Value × Value, ∀ hi : i < l.length, (∀ j (hj : j < 8), w.cell? ⟨b, o + i * 8 + j, none⟩ = some ((ndC l[i] p.1 p.2)[j]'hj)) ∧ DsAt w B p.1 l[i].ds ∧ AsAt w B p.2 l[i].ats := fun i hi => by
    obtain ⟨vd, va, c, d1, d2⟩ := h4 i hi
    exact ⟨(vd, va), fun _ => ⟨c, d1, d2⟩⟩
  haveI : Inhabited (Value × Value) := ⟨(undef, undef)⟩
  obtain ⟨f, hf⟩ := Deep.choose_lt hex
  have hlen : (l.zipWith (fun x p => (⟨x, p.1, p.2⟩ : Ny)) ((List.range l.length).map f)).length = l.length := by simp
  refine ⟨b, o, cap, l.zipWith (fun x p => (⟨x, p.1, p.2⟩ : Ny)) ((List.range l.length).map f), e, h1, h2, h3, ?_, fun y hy => ?_, fun j u hu => ?_⟩
  · apply List.ext_getElem
    · simp
    · intro i h5 h6; simp
  · obtain ⟨i, hi, rfl⟩ := List.getElem_of_mem hy
    rw [hlen] at hi
    obtain ⟨_, d1, d2⟩ := hf i hi hi
    simpa [NyAt] using And.intro d1 d2
  · obtain ⟨hj, _⟩ := List.getElem?_eq_some_iff.1 hu
    rw [flat_length nyC_len, hlen] at hj
    have hi : j / 8 < l.length := by omega
    have hr : j % 8 < 8 := Nat.mod_lt _ (by omega)
    have hjj : j = j / 8 * 8 + j % 8 := by omega
    have hat := flat_at nyC_len (l.zipWith (fun x p => (⟨x, p.1, p.2⟩ : Ny)) ((List.range l.length).map f)) (j / 8) (j % 8) (by rw [hlen]; exact hi) hr
    rw [← hjj, hu] at hat
    obtain ⟨hc, _, _⟩ := hf (j / 8) hi hi
    have hcj := hc (j % 8) hr
    rw [show o + j = o + j / 8 * 8 + j % 8 by omega, hcj, hat]
    simp [nyC, ndC]
theorem NsAt.of_rows {w : World} {B g cap : Nat} {ys : List Ny} (hg : g < B) (h1 : ys.length ≤ cap) (h2 : cap ≤ 9223372036854775807) (hy : ∀ y ∈ ys, NyAt w B y) (hc : ∀ j u, (ys.flatMap nyC)[j]? = some u → w.cell? ⟨g, j, none⟩ = some u) : NsAt w B (.slice (some ⟨g, 0, none⟩) ys.length cap) (ys.map (·.x)) := by
  refine ⟨some ⟨g, 0, none⟩, cap, by simp, by simpa using h1, h2, fun _ => ⟨g, 0, rfl, hg, fun i hi => ?_⟩⟩
  have hi' : i < ys.length := by simpa using hi
  obtain ⟨d1, d2⟩ := hy _ (List.getElem_mem hi')
  refine ⟨ys[i].d, ys[i].a, fun j hj => ?_, by simpa using d1, by simpa using d2⟩
  have hat := flat_at nyC_len ys i j hi' hj
  rw [Nat.zero_add]
  refine hc (i * 8 + j) _ ?_
  rw [hat, List.getElem?_eq_getElem (by rw [nyC_len]; exact hj)]
  simp [nyC]
/-- append of nodes to a row of one's own. -/
theorem app_ny {ops : Array Oper} {rest : List Oper} {o : Oper} {a : Act} {Q : Exit → Act → World → Prop} {w : World} (hgd : o.guard = none) (s x : Operand) (ho : o.op = .call { callee := .builtin .append, args := #[s, x], argTypes := #[22, 22] })
    (B : Nat) (v : Value) (n : Nat) (xs : List Ny) (hs : a.eval s = v) (hown : w.ownsRow B 28 8 v n (xs.flatMap nyC)) (ad : Addr) (m c : Nat) (ys : List Ny) (hx : a.eval x = .slice (some ad) m c) (hl : ys.length = m)
    (hcell : ∀ j u, (ys.flatMap nyC)[j]? = some u → w.cell? (ad.add j) = some u) (h1 : ∀ u ∈ ys.flatMap nyC, u.oneCell' = true) (hnm : n + m ≤ 1000) (hB : B ≤ w.heap.size)
    (h : ∀ v' w', w'.ownsRow B 28 8 v' (n + m) ((xs ++ ys).flatMap nyC) → w.grownBy w' v.ownBlock → (v'.ownBlock = v.ownBlock ∨ v'.ownBlock = some w.heap.size) → wpList Tryd.prog ops Q rest (a.put o.dst v') w') : wpList Tryd.prog ops Q (o :: rest) a w := by
  refine wpList_plain hgd fun _ hK => ?_
  obtain ⟨i0, hi0, hz0, hz1, hz2⟩ := info_parts nodeInfo
  obtain ⟨v', w', hr, h2, h3, _, h5⟩ := run_append_own_at (P := Tryd.prog) w B 22 o.type 28 i0 _ 8 _ Tryd.underlying22 hi0 hz0 hz1 hz2 rfl (by omega) v n _ hown ad m c _ (by rw [flat_length nyC_len, hl]) hcell h1 (by unfold maxLen; omega) (by omega) hB
  unfold Oper.wp execOp
  simp only [ho, resolve, invoke, builtin, Sem.run_bind, Sem.run_pure, Result.andThen_ok, List.map_toArray, List.map_cons, List.map_nil, hs, hx, hr]
  exact hK _ _ (h v' w' (by rw [List.flatMap_append]; exact h2) h3 h5)
/-- A row of nodes of one's own, as a list of nodes. -/
theorem ns_of_own {w : World} {B n : Nat} {v : Value} {ys : List Ny} (h : w.ownsRow B 28 8 v n (ys.flatMap nyC)) (hl : ys.length = n) (hn : n ≤ 1000) (h0 : 0 < n) (hy : ∀ y ∈ ys, NyAt w w.heap.size y) : NsAt w w.heap.size v (ys.map (·.x)) := by
  obtain ⟨hlen, h | ⟨g, cap, cur, rfl, hg, hh, hnc, hcm, hsz, htk⟩⟩ := h
  · omega
  · rw [← hl]
    refine NsAt.of_rows (block_lt hh) (by omega) (by unfold maxLen at hcm; exact hcm) hy (fun j u hu => ?_)
    rw [cell_of_row w g j cur _ _ hh, ← Array.getElem?_toList]
    have hj := (List.getElem?_eq_some_iff.1 hu).1
    rw [flat_length nyC_len, hl] at hj
    rw [← htk, List.getElem?_take_of_lt hj] at hu
    exact hu
end Go.Proofs.YtalcmhngebobnaaDoor
