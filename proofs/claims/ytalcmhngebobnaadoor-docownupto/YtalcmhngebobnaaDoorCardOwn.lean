/-
  An argument that is a list of nodes, opened into what the walks ask; how long its texts may be. Conditions: none.
  From what a row lists of the tables, and from the world's shape, to what the walks ask of the world; the row's start. Conditions: the tables lie as they are listed.
  What is told is by itself, and so is the document, whatever becomes of the list, and of what was told (DocOwn), where what comes in is of bulk at most 1048576. Conditions: the arguments are of bulk at most 1048576 (the second form); the seven tables of the row lie as the program's text lays them; of internal/bytealg.MaxLen nothing is asked but that it is a number.
  What is told is by itself, and so is the document, whatever becomes of the list, and of what was told (DocOwn), where what comes in is of bulk at most 1048576. Conditions: the arguments are of bulk at most 1048576 (the second form); the seven tables of the row lie as the program's text lays them; of internal/bytealg.MaxLen nothing is asked but that it is a number.
-/
import Derived.Test.YtalcmhngebobnaaDoorDElem
import Derived.Test.YtalcmhngebobnaaDoorRows
import Derived.OpenShut
import Derived.Deep.Slices
import Derived.Lib.SmallJoins
import Derived.Deep.DeepHandedRow
import Derived.Test.YtalcmhngebobnaaDoorDText
import Derived.Test.YtalcmhngebobnaaDoorDTwice
import Derived.Lib.LaidU8
import Derived.PinnedBridge
import Derived.ProofKit
import Derived.Lay
import Derived.MakeChecks
import Derived.Shelf.Vars
import Derived.SizedLaws
import Derived.Test.YtalcmhngebobnaaDoorWOwn
import Derived.Stop.Joined
import Derived.Test.YtalcmhngebobnaaDoorTie
import Derived.Test.YtalcmhngebobnaaDoorCards
import Derived.SevenTiedAt
namespace Go.Proofs.YtalcmhngebobnaaDoor
open Go.ChangeShapes Go.WideShapes Go.ChangeAt Go.RowKit
set_option linter.unusedVariables false
set_option maxRecDepth 100000
theorem lt_of_cell {W : World} {b o : Nat} {v : Value} (h : W.cell? ⟨b, o, none⟩ = some v) : b < W.heap.size := by
  rcases Nat.lt_or_ge b W.heap.size with hlt | hge
  · exact hlt
  · rw [World.cell?, Array.getElem?_eq_none hge] at h; cases h
theorem bulk_one {H : Type} (d : DataW H) : 1 ≤ Rows.uptoBulk d := by
  cases d with
  | lit l => cases l <;> simp [Rows.uptoBulk]
  | nil => simp [Rows.uptoBulk]
  | ptr d => simp [Rows.uptoBulk]
  | slice elems spare => simp [Rows.uptoBulk]
  | agg parts => simp [Rows.uptoBulk]
  | iface t d => simp [Rows.uptoBulk]
  | map entries => simp [Rows.uptoBulk]
  | held h => simp [Rows.uptoBulk]
theorem bulk_part {H : Type} {d : DataW H} {l : List (DataW H)} (h : d ∈ l) : Rows.uptoBulk d ≤ Rows.uptoBulkAll l := by
  induction l with
  | nil => cases h
  | cons x r ih =>
    simp only [Rows.uptoBulkAll]
    cases List.mem_cons.1 h with
    | inl e => subst e; omega
    | inr e => have := ih e; omega
theorem bulk_length {H : Type} (l : List (DataW H)) : l.length ≤ Rows.uptoBulkAll l := by
  induction l with
  | nil => simp [Rows.uptoBulkAll]
  | cons x r ih => have := bulk_one x; simp only [Rows.uptoBulkAll, List.length_cons]; omega
theorem bulk_string {H : Type} (s : ByteArray) : Rows.uptoBulk (DataW.lit (H := H) (.string s.data.toList)) = s.size + 1 := by
  simp only [Rows.uptoBulk, Array.length_toList]; rfl
section
variable {H : Type} {enc : TypeId × Value → H} {W : World}
/-- A slice of whatever things, opened one by one; each of no greater bulk than the whole. -/
theorem open_elems {α : Type} [Inhabited α] {C : Nat} {t e : TypeId} {fuel : Nat} {cs0 : List Value} {x : DataW H × List MemPlace} (Q : Nat → Nat → α → Prop) (ok : Nat → α → Prop)
    (ht : Tryd.prog.underlying t = some (.slice e)) (hC : Tryd.prog.cellsOf e = C) (hC0 : 0 < C)
    (one : ∀ b o cs n y, (∀ j (hj : j < cs.length), W.cell? ⟨b, o + j, none⟩ = some cs[j]) → cs.length = C → DataW.trod enc Tryd.prog W 0 (fun _ => true) true n e cs = some y → ∃ a, Q b o a ∧ ok (Rows.uptoBulk y.1) a)
    (h : DataW.trod enc Tryd.prog W 0 (fun _ => true) true fuel t cs0 = some x) :
    ∃ A cap, ∃ l : List α, cs0 = [.slice A l.length cap] ∧ l.length ≤ cap ∧ cap ≤ 9223372036854775807 ∧ l.length + 1 ≤ Rows.uptoBulk x.1 ∧ (l ≠ [] → ∃ b o, A = some ⟨b, o, none⟩ ∧ b < W.heap.size ∧ ∀ i (hi : i < l.length), Q b (o + i * C) l[i]) ∧
      ∀ a ∈ l, ∃ k, k < Rows.uptoBulk x.1 ∧ ok k a := by
  rcases Deep.open_slice ht h with ⟨rfl, rfl⟩ | ⟨a, len, cap, m, n, D, Pl, rfl, _, hl, hcm, hm, rfl, hx⟩
  · exact ⟨none, 0, [], rfl, Nat.le_refl _, by omega, by simp [Rows.uptoBulk], fun h => absurd rfl h, fun a ha => by cases ha⟩
  have hml : len ≤ m := by rw [hm]; simpa using hl
  rw [hC] at hx
  obtain ⟨b, o, sp⟩ := a
  have hsp : 0 < len → sp = none := fun h0 => by
    obtain ⟨cs', h1, _⟩ := hx 0 (by omega)
    obtain ⟨_, hlen, hcell⟩ := World.cells?_some h1
    have := hcell 0 hC0
    rw [List.getElem?_eq_getElem (by omega)] at this
    simpa [Addr.add] using World.cell?_spot this
  have hel : ∀ i, i < len → ∃ a : α, Q b (o + i * C) a ∧ ok (Rows.uptoBulk (D i)) a := fun i hi => by
    obtain rfl := hsp (by omega)
    obtain ⟨cs', h1, h2⟩ := hx i (by omega)
    obtain ⟨_, hlen, hcell⟩ := World.cells?_some h1
    exact one b (o + i * C) cs' n _ (fun j hj => by
      have := hcell j (by omega)
      rw [List.getElem?_eq_getElem hj] at this
      rw [← this]
      unfold Addr.add
      congr 1
      by_cases h1 : i * C = 0 <;> by_cases h2 : j = 0 <;> simp [h1, h2]) hlen h2
  obtain ⟨f, hf⟩ := Deep.choose_lt hel
  have hlen : ((List.range len).map f).length = len := by simp
  refine ⟨_, cap, (List.range len).map f, by rw [hlen], by rw [hlen]; exact hl, by unfold maxLen at hcm; exact hcm, ?_, fun hne => ?_, fun a ha => ?_⟩
  · rw [hlen]
    have := bulk_length ((List.range len).map D)
    simp only [Rows.uptoBulk]
    simp only [List.length_map, List.length_range] at this
    omega
  · have h0 : 0 < len := by
      rcases Nat.eq_zero_or_pos len with h | h
      · subst h; simp at hne
      · exact h
    obtain rfl := hsp h0
    obtain ⟨cs', h1, _⟩ := hx 0 (by omega)
    obtain ⟨_, hl', hcell⟩ := World.cells?_some h1
    have hc0 := hcell 0 hC0
    rw [List.getElem?_eq_getElem (by omega)] at hc0
    refine ⟨b, o, rfl, lt_of_cell (o := o) (v := cs'[0]'(by omega)) (by simpa [Addr.add] using hc0), fun i hi => ?_⟩
    rw [hlen] at hi
    simpa using (hf i hi).1
  · obtain ⟨i, hi, rfl⟩ := List.mem_map.1 ha
    have hi' := List.mem_range.1 hi
    refine ⟨_, ?_, (hf i hi').2⟩
    have := bulk_part (List.mem_map.2 ⟨i, hi, rfl⟩ : D i ∈ (List.range len).map D)
    simp only [Rows.uptoBulk]
    omega
end
theorem cStr : Tryd.prog.cellsOf 9 = 1 := by kernel_rfl
theorem cDecl : Tryd.prog.cellsOf 37 = 2 := by kernel_rfl
theorem cAttr : Tryd.prog.cellsOf 35 = 4 := by kernel_rfl
theorem cNode : Tryd.prog.cellsOf 28 = 8 := by kernel_rfl
theorem cInt : Tryd.prog.cellsOf 3 = 1 := by kernel_rfl
theorem cDecls : Tryd.prog.cellsOf 25 = 1 := by kernel_rfl
theorem cAttrs : Tryd.prog.cellsOf 26 = 1 := by kernel_rfl
section
variable {H : Type} {enc : TypeId × Value → H} {W : World}
theorem open_str {n : Nat} {c : Value} {y : DataW H × List MemPlace} (h : DataW.trod enc Tryd.prog W 0 (fun _ => true) true n 9 [c] = some y) : ∃ s : ByteArray, c = .string s ∧ s.size + 1 = Rows.uptoBulk y.1 := by
  obtain ⟨s, e, rfl, _⟩ := DataW.trod_string Tryd.underlying9 h
  simp only [List.cons.injEq, and_true] at e
  exact ⟨s, e, (bulk_string s).symm⟩
theorem open_dc {n : Nat} {cs : List Value} {y : DataW H × List MemPlace} (h : DataW.trod enc Tryd.prog W 0 (fun _ => true) true n 37 cs = some y) : ∃ d : Dc, cs = dcC d ∧ d.p.size < Rows.uptoBulk y.1 ∧ d.u.size < Rows.uptoBulk y.1 := by
  obtain ⟨y0, y1, m, rfl, hl, h0, h1⟩ := trod_struct2 Tryd.underlying37 h
  rw [cDecl] at hl
  match cs, hl with
  | [a, b], _ =>
    simp only [cStr, List.drop_zero, List.take_succ_cons, List.take_zero, List.drop_succ_cons] at h0 h1
    obtain ⟨s0, rfl, e0⟩ := open_str h0
    obtain ⟨s1, rfl, e1⟩ := open_str h1
    refine ⟨⟨s0, s1⟩, rfl, ?_, ?_⟩ <;> simp only [Rows.uptoBulk, Rows.uptoBulkAll] <;> omega
theorem open_at {n : Nat} {cs : List Value} {y : DataW H × List MemPlace} (h : DataW.trod enc Tryd.prog W 0 (fun _ => true) true n 35 cs = some y) : ∃ a : At, cs = atC a ∧ a.p.size < Rows.uptoBulk y.1 ∧ a.l.size < Rows.uptoBulk y.1 ∧ a.u.size < Rows.uptoBulk y.1 ∧ a.v.size < Rows.uptoBulk y.1 := by
  obtain ⟨y0, y1, y2, y3, m, rfl, hl, h0, h1, h2, h3⟩ := Joins.trod_struct4 Tryd.underlying35 h
  rw [cAttr] at hl
  match cs, hl with
  | [a, b, c, d], _ =>
    simp only [cStr, List.drop_zero, List.take_succ_cons, List.take_zero, List.drop_succ_cons] at h0 h1 h2 h3
    obtain ⟨s0, rfl, e0⟩ := open_str h0
    obtain ⟨s1, rfl, e1⟩ := open_str h1
    obtain ⟨s2, rfl, e2⟩ := open_str h2
    obtain ⟨s3, rfl, e3⟩ := open_str h3
    refine ⟨⟨s0, s1, s2, s3⟩, rfl, ?_, ?_, ?_, ?_⟩ <;> simp only [Rows.uptoBulk, Rows.uptoBulkAll] <;> omega
/-- Cells of things laid end to end. -/
theorem flat_cell {α : Type} {rd : α → List Value} {C : Nat} (hrd : ∀ a, (rd a).length = C) (hC : 0 < C) : ∀ (l : List α) (j : Nat) (hj : j < (l.flatMap rd).length), ∃ (i r : Nat) (hi : i < l.length) (hr : r < (rd l[i]).length), j = i * C + r ∧ (l.flatMap rd)[j] = (rd l[i])[r]
  | [], j, hj => by simp at hj
  | a :: l, j, hj => by
    by_cases h : j < (rd a).length
    · refine ⟨0, j, by simp, h, by omega, ?_⟩
      simp only [List.flatMap_cons, List.getElem_cons_zero]
      rw [List.getElem_append_left h]
    · have hj' : j - (rd a).length < (l.flatMap rd).length := by simp only [List.flatMap_cons, List.length_append] at hj; omega
      obtain ⟨i, r, hi, hr, e1, e2⟩ := flat_cell hrd hC l _ hj'
      refine ⟨i + 1, r, by simp; omega, by simpa using hr, ?_, ?_⟩
      · rw [hrd] at e1 h; rw [Nat.succ_mul]; omega
      · simp only [List.flatMap_cons, List.getElem_cons_succ]
        rw [List.getElem_append_right (by omega)]
        exact e2
theorem open_list {α : Type} [Inhabited α] {C : Nat} {t e : TypeId} {fuel : Nat} {c : Value} {x : DataW H × List MemPlace} (rd : α → List Value) (ok : Nat → α → Prop) (hrd : ∀ a, (rd a).length = C)
    (ht : Tryd.prog.underlying t = some (.slice e)) (hC : Tryd.prog.cellsOf e = C) (hC0 : 0 < C)
    (one : ∀ cs n y, DataW.trod enc Tryd.prog W 0 (fun _ => true) true n e cs = some y → ∃ a, cs = rd a ∧ ok (Rows.uptoBulk y.1) a)
    (h : DataW.trod enc Tryd.prog W 0 (fun _ => true) true fuel t [c] = some x) :
    ∃ l : List α, SlAt W W.heap.size c l.length (l.flatMap rd) ∧ l.length + 1 ≤ Rows.uptoBulk x.1 ∧ ∀ a ∈ l, ∃ k, k < Rows.uptoBulk x.1 ∧ ok k a := by
  obtain ⟨A, cap, l, e, hl, hcm, hb, hq, ha⟩ := open_elems (fun b o a => ∀ j (hj : j < (rd a).length), W.cell? ⟨b, o + j, none⟩ = some (rd a)[j]) ok ht hC hC0 (fun b o cs n y hcell _ hy => by
    obtain ⟨a, rfl, ha⟩ := one cs n y hy
    exact ⟨a, hcell, ha⟩) h
  simp only [List.cons.injEq, and_true] at e
  subst e
  refine ⟨l, ⟨A, cap, rfl, hl, hcm, fun hne => ?_⟩, hb, ha⟩
  obtain ⟨b, o, rfl, hbB, hi⟩ := hq (by rintro rfl; simp at hne)
  refine ⟨b, o, rfl, hbB, fun j hj => ?_⟩
  obtain ⟨i, r, hi', hr, e1, e2⟩ := flat_cell hrd hC0 l j hj
  rw [e2, e1, ← Nat.add_assoc]
  exact hi i hi' r hr
theorem open_nd {n b o : Nat} {cs : List Value} {y : DataW H × List MemPlace} (hcell : ∀ j (hj : j < cs.length), W.cell? ⟨b, o + j, none⟩ = some cs[j])
    (h : DataW.trod enc Tryd.prog W 0 (fun _ => true) true n 28 cs = some y) : ∃ x : Nd, NdM W W.heap.size b o x ∧ (Rows.uptoBulk y.1 ≤ 2000000 → Sm x) := by
  obtain ⟨xs, m, _, rfl, hl, hlen, hf⟩ := DataW.trod_struct Tryd.underlying28 h
  rw [cNode] at hl
  match cs, hl with
  | [c0, c1, c2, c3, c4, c5, c6, c7], _ =>
    match xs, hlen with
    | [y0, y1, y2, y3, y4, y5, y6, y7], _ =>
      have h0 : DataW.trod enc Tryd.prog W 0 (fun _ => true) true m 3 (List.take (Tryd.prog.cellsOf 3) (List.drop 0 [c0, c1, c2, c3, c4, c5, c6, c7])) = some y0 := hf 0 _ rfl
      have h1 : DataW.trod enc Tryd.prog W 0 (fun _ => true) true m 3 (List.take (Tryd.prog.cellsOf 3) (List.drop 1 [c0, c1, c2, c3, c4, c5, c6, c7])) = some y1 := hf 1 _ rfl
      have h2 : DataW.trod enc Tryd.prog W 0 (fun _ => true) true m 9 (List.take (Tryd.prog.cellsOf 9) (List.drop 2 [c0, c1, c2, c3, c4, c5, c6, c7])) = some y2 := hf 2 _ rfl
      have h3 : DataW.trod enc Tryd.prog W 0 (fun _ => true) true m 9 (List.take (Tryd.prog.cellsOf 9) (List.drop 3 [c0, c1, c2, c3, c4, c5, c6, c7])) = some y3 := hf 3 _ rfl
      have h4 : DataW.trod enc Tryd.prog W 0 (fun _ => true) true m 9 (List.take (Tryd.prog.cellsOf 9) (List.drop 4 [c0, c1, c2, c3, c4, c5, c6, c7])) = some y4 := hf 4 _ rfl
      have h5 : DataW.trod enc Tryd.prog W 0 (fun _ => true) true m 9 (List.take (Tryd.prog.cellsOf 9) (List.drop 5 [c0, c1, c2, c3, c4, c5, c6, c7])) = some y5 := hf 5 _ rfl
      have h6 : DataW.trod enc Tryd.prog W 0 (fun _ => true) true m 25 (List.take (Tryd.prog.cellsOf 25) (List.drop 6 [c0, c1, c2, c3, c4, c5, c6, c7])) = some y6 := hf 6 _ rfl
      have h7 : DataW.trod enc Tryd.prog W 0 (fun _ => true) true m 26 (List.take (Tryd.prog.cellsOf 26) (List.drop 7 [c0, c1, c2, c3, c4, c5, c6, c7])) = some y7 := hf 7 _ rfl
      simp only [cStr, cInt, cDecls, cAttrs, List.drop_zero, List.take_succ_cons, List.take_zero, List.drop_succ_cons] at h0 h1 h2 h3 h4 h5 h6 h7
      obtain ⟨z0, e0, rfl, _⟩ := DataW.trod_int Tryd.underlying3 h0
      obtain ⟨z1, e1, rfl, _⟩ := DataW.trod_int Tryd.underlying3 h1
      simp only [List.cons.injEq, and_true] at e0 e1
      subst e0 e1
      obtain ⟨s2, rfl, e2⟩ := open_str h2
      obtain ⟨s3, rfl, e3⟩ := open_str h3
      obtain ⟨s4, rfl, e4⟩ := open_str h4
      obtain ⟨s5, rfl, e5⟩ := open_str h5
      haveI : Inhabited Dc := ⟨⟨.empty, .empty⟩⟩
      haveI : Inhabited At := ⟨⟨.empty, .empty, .empty, .empty⟩⟩
      obtain ⟨ds, hds, e6, k6⟩ := open_list dcC (fun k d => d.p.size < k ∧ d.u.size < k) (fun _ => rfl) Tryd.underlying25 cDecl (by decide) (fun cs n y hy => open_dc hy) h6
      obtain ⟨as', has, e7, k7⟩ := open_list atC (fun k a => a.p.size < k ∧ a.l.size < k ∧ a.u.size < k ∧ a.v.size < k) (fun _ => rfl) Tryd.underlying26 cAttr (by decide) (fun cs n y hy => open_at hy) h7
      refine ⟨⟨z0, z1, s2, s3, s4, s5, ds, as'⟩, ⟨c6, c7, fun j hj => ?_, hds, has⟩, fun hk => ?_⟩
      · match j, hj with
        | 0, _ => exact hcell 0 (by simp)
        | 1, _ => exact hcell 1 (by simp)
        | 2, _ => exact hcell 2 (by simp)
        | 3, _ => exact hcell 3 (by simp)
        | 4, _ => exact hcell 4 (by simp)
        | 5, _ => exact hcell 5 (by simp)
        | 6, _ => exact hcell 6 (by simp)
        | 7, _ => exact hcell 7 (by simp)
        | j + 8, hj => omega
      · simp only [Rows.uptoBulk, Rows.uptoBulkAll, List.map_cons, List.map_nil] at hk
        refine ⟨by dsimp only; omega, by dsimp only; omega, by dsimp only; omega, by dsimp only; omega, by dsimp only; omega, by dsimp only; omega, fun d hd => ?_, fun a ha => ?_⟩
        · obtain ⟨k, h1, h2, h3⟩ := k6 d hd; omega
        · obtain ⟨k, h1, h2, h3, h4, h5⟩ := k7 a ha; omega
/-- A list of nodes, opened. -/
theorem open_nodes {base : Nat} {v : Value} {d : DataW H} {ps : List MemPlace} (hv : Value.okWide Tryd.prog W .any base 22 v) (h : DataW.Trod enc Tryd.prog W 0 (fun _ => true) true 22 v d ps) (hk : Rows.uptoBulk d ≤ 1048576) :
    ∃ l : List Nd, NsAt W W.heap.size v l ∧ ∀ x ∈ l, Sm x := by
  obtain ⟨a0, len, cap, rfl⟩ := okWide_slice Tryd.underlying22 hv
  obtain ⟨fuel, hf⟩ := h
  haveI : Inhabited Nd := ⟨⟨0, 0, .empty, .empty, .empty, .empty, [], []⟩⟩
  obtain ⟨A, cap', l, e, hl, hcm, _, hq, ha⟩ := open_elems (fun b o x => NdM W W.heap.size b o x) (fun k x => k ≤ 2000000 → Sm x) Tryd.underlying22 cNode (by decide) (fun b o cs n y hcell _ hy => open_nd hcell hy) hf
  simp [Value.cells] at e
  obtain ⟨rfl, rfl, rfl⟩ := e
  refine ⟨l, ⟨_, _, rfl, hl, hcm, hq⟩, fun x hx => ?_⟩
  obtain ⟨k, h1, h2⟩ := ha x hx
  have h1' : k < Rows.uptoBulk d := h1
  exact h2 (by omega)
end
/-- There is an input that fits, in a world of the right shape. -/
theorem witness_row_shaped {H : Type} {enc : TypeId × Value → H} {C : Checked} {os : Os} {f : FuncId} {fn : Func} {s : OpenSpec} {conds : List PathCond} {apart : Bool} {laid : List (String × DataW Unit)} (modest : Bool) (w0 : World) (args : Array Value) (hos : w0.os = os)
    (hsh : (w0.forCall (fun _ _ => 0) ⟨#[], args, []⟩).Shaped C.prog) (hok : Input.okWideB C.prog (w0.forCall (fun _ _ => 0) ⟨#[], args, []⟩) f ⟨#[], args, []⟩ = true) (hrow : s.preRow enc C.prog fn conds apart laid (w0.forCall (fun _ _ => 0) ⟨#[], args, []⟩).memory args) :
    ∃ (w : World) (tape : Tape) (i : Input), w.os = os ∧ (w.forCall tape i).Shaped C.prog ∧ i.vars = [] ∧ Input.okWide C.prog (w.forCall tape i) .any w.heap.size f i ∧
      s.preRow enc C.prog fn conds apart laid (w.forCall tape i).memory i.args ∧ ({ modest := modest } : Assume).holds C.prog (lone (Frame.enter C.prog f i.args .normal) [] (w.forCall tape i)) :=
  ⟨w0, fun _ _ => 0, ⟨#[], args, []⟩, hos, hsh, (Input.okWide_of_okWideB (base := 0) hok).1, (Input.okWide_of_okWideB hok).2, hrow, by
    simp only [Assume.holds]
    exact ⟨by simp, by simp, fun _ => Modest.zero, by simp, by simp⟩⟩
end Go.Proofs.YtalcmhngebobnaaDoor
namespace Go.Proofs.YtalcmhngebobnaaDoor
open Go.ChangeShapes Go.WideShapes Go.ChangeAt Go.RowKit
set_option maxRecDepth 100000
theorem own : ownKnob Tryd.prog.godebug = none := by kernel_rfl
def laidL : List (String × DataW Unit) := [("unicode/utf8.acceptRanges", Rows.laid_unicode_utf8_acceptRanges), ("unicode.asciiFold", Rows.laid_unicode_asciiFold), ("unicode.caseOrbit", Rows.laid_unicode_caseOrbit), ("apostille/name.beginnings", Rows.laid_apostille_name_beginnings), ("apostille/name.followers", Rows.laid_apostille_name_followers), ("unicode.CaseRanges", Rows.laid_unicode_CaseRanges), ("unicode/utf8.first", Rows.laid_unicode_utf8_first)]
theorem gFirst : Tryd.prog.globalNamed "unicode/utf8.first" = some 5 := by kernel_rfl
theorem gAccept : Tryd.prog.globalNamed "unicode/utf8.acceptRanges" = some 6 := by kernel_rfl
theorem gBeg : Tryd.prog.globalNamed "apostille/name.beginnings" = some 0 := by kernel_rfl
theorem gFol : Tryd.prog.globalNamed "apostille/name.followers" = some 1 := by kernel_rfl
theorem tFirst : (Tryd.prog.globals[5]?).map (·.type) = some 100 := by kernel_rfl
theorem tAccept : (Tryd.prog.globals[6]?).map (·.type) = some 103 := by kernel_rfl
theorem tBeg : (Tryd.prog.globals[0]?).map (·.type) = some 87 := by kernel_rfl
theorem tFol : (Tryd.prog.globals[1]?).map (·.type) = some 88 := by kernel_rfl
theorem c5 : Tryd.prog.cellsOf 5 = 1 := by kernel_rfl
theorem c256 : Tryd.prog.cellsOf 100 = 256 := by kernel_rfl
theorem cRange : Tryd.prog.cellsOf 102 = 2 := by kernel_rfl
theorem c21 : Tryd.prog.cellsOf 21 = 1 := by kernel_rfl
theorem cSpan : Tryd.prog.cellsOf 86 = 2 := by kernel_rfl
def spans (t : List (Int × Int)) : DataW Unit := .agg (t.map fun p => .agg ([p.1, p.2].map fun z => .lit (.int .i32 z)))
theorem accept_eq : (Rows.laid_unicode_utf8_acceptRanges : DataW Unit) = Lib.acceptData := by kernel_rfl
theorem beg_eq : (Rows.laid_apostille_name_beginnings : DataW Unit) = spans begT := by kernel_rfl
theorem fol_eq : (Rows.laid_apostille_name_followers : DataW Unit) = spans folT := by kernel_rfl
theorem sflat_at : ∀ (t : List (Int × Int)) (i : Nat), (flat t)[2 * i]? = t[i]?.map (fun p => Value.int .i32 p.1) ∧ (flat t)[2 * i + 1]? = t[i]?.map (fun p => Value.int .i32 p.2)
  | [], i => by simp [flat]
  | p :: t, 0 => by simp [flat]
  | p :: t, i + 1 => by
    have h := sflat_at t i
    have e : flat (p :: t) = .int .i32 p.1 :: .int .i32 p.2 :: flat t := rfl
    rw [e, show 2 * (i + 1) = 2 * i + 1 + 1 from rfl, List.getElem?_cons_succ, List.getElem?_cons_succ, List.getElem?_cons_succ, List.getElem?_cons_succ, List.getElem?_cons_succ]
    exact h
theorem flat_len (t : List (Int × Int)) : (flat t).length = 2 * t.length := by
  induction t with
  | nil => rfl
  | cons p t ih =>
    have e : flat (p :: t) = .int .i32 p.1 :: .int .i32 p.2 :: flat t := rfl
    rw [e, List.length_cons, List.length_cons, ih, List.length_cons]; omega
theorem spans_of {W : World} {t : List (Int × Int)} {G T : Nat} {nm : String} (h : Lib.VarReads Tryd.prog W nm (spans t)) (hG : Tryd.prog.globalNamed nm = some G) (hT : (Tryd.prog.globals[G]?).map (·.type) = some T)
    (hu : Tryd.prog.underlying T = some (.array t.length 86)) : ∀ j v, (flat t).toArray[j]? = some v → W.cell? ⟨G, j, none⟩ = some v := by
  obtain ⟨g, ty, cs, fuel, p, hg, hty, hvar, hd⟩ := h
  obtain rfl := Option.some.inj (hG.symm.trans hg)
  obtain rfl := Option.some.inj (hT.symm.trans hty)
  intro j v hv
  rw [List.getElem?_toArray] at hv
  have hj : j < 2 * t.length := by rw [← flat_len]; exact (List.getElem?_eq_some_iff.1 hv).1
  obtain ⟨fuel', d, q, hdi, he⟩ := Lib.array_elem hu hd (j / 2) (by omega)
  have hp : t[j / 2]? = some t[j / 2] := List.getElem?_eq_getElem (by omega)
  rw [List.getElem?_map, hp, Option.map_some, Option.some.injEq] at hdi
  subst hdi
  rw [cSpan] at he
  have hcs := Lib.ints_of_struct Tryd.underlying86 (fun j f hj => by
    match j, hj with
    | 0, hj => simp at hj; subst hj; exact ⟨Tryd.underlying21, rfl, c21⟩
    | 1, hj => simp at hj; subst hj; exact ⟨Tryd.underlying21, rfl, c21⟩
    | j + 2, hj => simp at hj) (by rw [cSpan]; rfl) he
  have e0 := congrArg (·[0]?) hcs
  have e1 := congrArg (·[1]?) hcs
  simp only [List.getElem?_take, List.getElem?_drop] at e0 e1
  rw [World.var?_cell hg hvar j, ← Array.getElem?_toList]
  obtain ⟨f0, f1⟩ := sflat_at t (j / 2)
  rw [hp] at f0 f1
  rcases (show j = 2 * (j / 2) ∨ j = 2 * (j / 2) + 1 by omega) with e | e
  · rw [e] at hv ⊢
    rw [f0] at hv
    rw [← hv]
    simpa [Nat.mul_comm] using e0
  · rw [e] at hv ⊢
    rw [f1] at hv
    rw [← hv]
    simpa [Nat.mul_comm] using e1
theorem tabs_of_laid {W : World} (hL : laidMetH Tryd.prog laidL W) : NTabs W := by
  rw [MakeChecks.laidMetH_plain _ _ _ (by kernel_rfl)] at hL
  have h4 : Lib.VarReads Tryd.prog W "unicode/utf8.acceptRanges" Lib.acceptData := accept_eq ▸ Lib.laidMet.reads hL (.head _)
  have hb : Lib.VarReads Tryd.prog W "apostille/name.beginnings" (spans begT) := beg_eq ▸ Lib.laidMet.reads hL (.tail _ (.tail _ (.tail _ (.head _))))
  have hf : Lib.VarReads Tryd.prog W "apostille/name.followers" (spans folT) := fol_eq ▸ Lib.laidMet.reads hL (.tail _ (.tail _ (.tail _ (.tail _ (.head _)))))
  have h3 : Lib.VarReads Tryd.prog W "unicode/utf8.first" Lib.firstData := Pinned.utf8First_eq ▸ Lib.laidMet.reads hL (.tail _ (.tail _ (.tail _ (.tail _ (.tail _ (.tail _ (.head _)))))))
  refine ⟨⟨fun c hc => ?_, fun i hi => ?_⟩, spans_of hb gBeg tBeg Tryd.underlying87, spans_of hf gFol tFol Tryd.underlying88⟩
  · obtain ⟨g, t, cs, fuel, p, hg, hty, hvar, hd⟩ := h3
    obtain rfl := Option.some.inj (gFirst.symm.trans hg)
    obtain rfl := Option.some.inj (tFirst.symm.trans hty)
    have hcs := Lib.cells_of_tab Tryd.underlying100 Tryd.underlying5 c5 c256 hd
    have := World.var?_cell hg hvar c
    rw [this, ← Array.getElem?_toList, hcs]
    simp [Lib.firstTab, hc]
  · obtain ⟨g, t, cs, fuel, p, hg, hty, hvar, hd⟩ := h4
    obtain rfl := Option.some.inj (gAccept.symm.trans hg)
    obtain rfl := Option.some.inj (tAccept.symm.trans hty)
    obtain ⟨fuel', d, q, hdi, he⟩ := Lib.array_elem Tryd.underlying103 hd i hi
    simp only [List.getElem?_map, List.getElem?_range hi, Option.map_some, Option.some.injEq] at hdi
    subst hdi
    rw [cRange] at he
    have hcs := Lib.ints_of_struct Tryd.underlying102 (fun j f hj => by
      match j, hj with
      | 0, hj => simp at hj; subst hj; exact ⟨Tryd.underlying5, rfl, c5⟩
      | 1, hj => simp at hj; subst hj; exact ⟨Tryd.underlying5, rfl, c5⟩
      | j + 2, hj => simp at hj) (by rw [cRange]; rfl) he
    have e0 := congrArg (·[0]?) hcs
    have e1 := congrArg (·[1]?) hcs
    simp only [List.getElem?_take, List.getElem?_drop] at e0 e1
    constructor
    · rw [World.var?_cell hg hvar (2 * i), ← Array.getElem?_toList]
      simpa [Nat.mul_comm] using e0
    · rw [World.var?_cell hg hvar (2 * i + 1), ← Array.getElem?_toList]
      simpa [Nat.mul_comm] using e1
def foldZ : List Int := [0, 1, 2, 3, 4, 5, 6, 7, 8, 9, 10, 11, 12, 13, 14, 15, 16, 17, 18, 19, 20, 21, 22, 23, 24, 25, 26, 27, 28, 29, 30, 31, 32, 33, 34, 35, 36, 37, 38, 39, 40, 41, 42, 43, 44, 45, 46, 47, 48, 49, 50, 51, 52, 53, 54, 55, 56, 57, 58, 59, 60, 61, 62, 63, 64, 97, 98, 99, 100, 101, 102, 103, 104, 105, 106, 107, 108, 109, 110, 111, 112, 113, 114, 115, 116, 117, 118, 119, 120, 121, 122, 91, 92, 93, 94, 95, 96, 65, 66, 67, 68, 69, 70, 71, 72, 73, 74, 8490, 76, 77, 78, 79, 80, 81, 82, 383, 84, 85, 86, 87, 88, 89, 90, 123, 124, 125, 126, 127]
theorem fold_eq : (Rows.laid_unicode_asciiFold : DataW Unit) = Lib.tabData .u16 foldZ := by kernel_rfl
theorem gFold : Tryd.prog.globalNamed "unicode.asciiFold" = some 2 := by kernel_rfl
theorem tFold : (Tryd.prog.globals[2]?).map (·.type) = some 90 := by kernel_rfl
theorem cU16 : Tryd.prog.cellsOf 89 = 1 := by kernel_rfl
theorem c128 : Tryd.prog.cellsOf 90 = 128 := by kernel_rfl
theorem folds_of_laid {W : World} (hL : laidMetH Tryd.prog laidL W) : Folds W := by
  rw [MakeChecks.laidMetH_plain _ _ _ (by kernel_rfl)] at hL
  have h : Lib.VarReads Tryd.prog W "unicode.asciiFold" (Lib.tabData .u16 foldZ) := fold_eq ▸ Lib.laidMet.reads hL (.tail _ (.head _))
  obtain ⟨g, t, cs, fuel, p, hg, hty, hvar, hd⟩ := h
  obtain rfl := Option.some.inj (gFold.symm.trans hg)
  obtain rfl := Option.some.inj (tFold.symm.trans hty)
  have hcs := Lib.cells_of_tab Tryd.underlying90 Tryd.underlying89 cU16 c128 hd
  intro q hq
  rw [World.var?_cell hg hvar q.1, ← Array.getElem?_toList, hcs]
  simp only [List.mem_cons, List.not_mem_nil, or_false] at hq
  rcases hq with rfl | rfl | rfl | rfl | rfl | rfl <;> rfl
/-- Whatever internal/bytealg.MaxLen holds, it is a number: that is the world's shape. -/
theorem wd_of {W : World} (hL : laidMetH Tryd.prog laidL W) (hsh : W.ShapedOpen Tryd.prog) : Wd W :=
  ⟨tabs_of_laid hL, cell_of_shapedOpen_int (P := Tryd.prog) (g := 7) (t := 3) (zero := #[.int .i64 0]) hsh (of_decide_eq_true (by kernel_rfl)) (by kernel_rfl) rfl (by kernel_rfl) (by kernel_rfl) Tryd.underlying3, folds_of_laid hL⟩
theorem start_met (os : Os) (args : Array Value) : laidMetH Tryd.prog laidL ((World.laidAll Tryd.prog os laidL).forCall (fun _ _ => 0) ⟨#[], args, []⟩).memory := by
  rw [MakeChecks.laidMetH_plain _ _ _ (by kernel_rfl)]; exact laidMet_laidAll _ (by kernel_rfl) (by kernel_rfl)
/-- From a contract over worlds of the right shape, in which the tables lie, to the row's sentence. -/
theorem lift_shaped {H : Type} {enc : TypeId × Value → H} {os : Os} {f : FuncId} {fn : Func} {s : ChangeSpec} (started : os.Started) (noInit : Tryd.prog.inits.idxOf? f = none) (hfn : Tryd.prog.funcs[f]? = some fn)
    (witness : ∃ (w : World) (tape : Tape) (i : Input), w.os = os ∧ (w.forCall tape i).Shaped Tryd.prog ∧ i.vars = [] ∧ Input.okWide Tryd.prog (w.forCall tape i) .any w.heap.size f i ∧
      ((s.pre enc Tryd.prog fn [] false (w.forCall tape i).memory i.args ∧ laidMetH Tryd.prog laidL (w.forCall tape i).memory) ∧ sizedMet enc Tryd.prog fn (OpenSpec.ofChange s) false (w.forCall tape i).memory i.args) ∧ Assume.holds {} Tryd.prog (lone (Frame.enter Tryd.prog f i.args .normal) [] (w.forCall tape i)))
    (contract : ∀ (W : World) (base : Nat) (args : Array Value) (ds gs : List (DataW H)) (before : List MemPlace),
      (∀ (j : Nat) t v, fn.params[j]? = some t → args[j]? = some v → Value.okWide Tryd.prog W .any base t v) →
      DataW.Whole enc Tryd.prog fn.params.toList s.vars false W args.toList ds gs before →
      (DataW.weightsEach Tryd.prog (fn.params.toList ++ s.plain.varTypes Tryd.prog) (ds ++ gs)).all (· ≤ reachBytes) = true → Wd W →
      Calls Tryd.prog f args W fun e W' => ∃ v, e = .returned v ∧ s.post enc Tryd.prog fn false true false false W args v W') :
    ReturnsInHanded {} Tryd.checked os f .any (fun w args => (s.pre enc Tryd.prog fn [] false w args ∧ laidMetH Tryd.prog laidL w) ∧ sizedMet enc Tryd.prog fn (OpenSpec.ofChange s) false w args) (s.post enc Tryd.prog fn false true false false) := by
  refine returnsInHanded_of_calls (C := Tryd.checked) own started noInit witness ?_
  intro w tape i _ hsh _ hok hpre _
  obtain ⟨_, _, _, fn', hfn', _, _, _, _, hval⟩ := hok
  obtain rfl : fn' = fn := Option.some.inj (hfn'.symm.trans hfn)
  obtain ⟨⟨⟨ds, gs, before, hw, _⟩, hx⟩, hz⟩ := hpre
  have hw' := DataW.Whole.of_heap (w' := w.forCall tape i) (by rfl) hw
  have hx' : laidMetH Tryd.prog laidL (w.forCall tape i) := hx.of_heap (by rfl)
  refine (contract (w.forCall tape i) w.heap.size i.args ds gs before hval hw' (hz.weights hw) (wd_of hx' hsh)).mono fun e W' ⟨v, he, hp⟩ => ?_
  subst he
  exact ChangeSpec.post_blind hp
end Go.Proofs.YtalcmhngebobnaaDoor
namespace Go.Proofs.YtalcmhngebobnaaDoor
namespace DocOwn
open Go.ChangeShapes Go.WideShapes Go.ChangeAt Go.RowKit
open Go.ChangeMaps (open_string shut_string)
set_option linter.unusedVariables false
theorem laid_is : Rows.docOwnUptoRow.laid = laidL := rfl
set_option maxRecDepth 100000 in
theorem lifted (os : Os) (started : os.Started) (H : Type) (enc : TypeId × Value → H) (F : Stop.Interp) :
    ReturnsInHanded {} Tryd.checked os 3 .any ((Rows.OpenSpec.upto Rows.docOwnSpec).preRow enc Tryd.prog Tryd.f3 Rows.docOwnUptoRow.domain false Rows.docOwnUptoRow.laid) (((Rows.OpenSpec.upto Rows.docOwnSpec).at F).post enc Tryd.prog Tryd.f3 false true false false) := by
  have hx : DataW.whole enc Tryd.prog ((World.laidAll Tryd.prog os laidL).forCall (fun _ _ => 0) ⟨#[], #[.slice none 0 0], []⟩).memory Tryd.f3.params.toList Rows.docOwnSpec.vars false (#[.slice none 0 0] : Array Value).toList 8 = some ([.nil], [], []) := by kernel_rfl
  refine returnsInHanded_of_row (C := Tryd.checked) (s := Rows.OpenSpec.upto Rows.docOwnSpec) own started (by kernel_rfl) Tryd.func3
    (witness_row_shaped (enc := enc) (C := Tryd.checked) false (World.laidAll Tryd.prog os laidL) #[.slice none 0 0] (World.laidAll_os _ _ _) (World.shaped_of_ZipB (by kernel_rfl) (by kernel_rfl)) (by kernel_rfl)
      (OpenSpec.preRow_of_cond 8 hx (by kernel_rfl) (fun k hk => by cases hk; kernel_rfl) (by kernel_rfl) (laid_is ▸ start_met os _))) ?_
  intro W base args ds gs before hval0 hW _ hk hwt hL hsh _
  rw [laid_is] at hL
  have hwd := wd_of hL hsh
  have hval : ∀ (j : Nat) t v, Tryd.f3.params[j]? = some t → args[j]? = some v → Value.okWide Tryd.prog W .any base t v := hval0
  have hW' := hW
  obtain ⟨p, q, hA0, hV, rfl, _, _⟩ := hW
  have hA : DataW.TrodAll enc Tryd.prog W 0 (fun _ => true) true Tryd.f3.params.toList args.toList ds p := hA0
  rw [Tryd.params3] at hA hval
  obtain ⟨v0, d0, rfl, rfl, h0⟩ := trodAll_one hA
  obtain ⟨rfl, rfl⟩ := trodVars_none hV
  have hk' : Rows.uptoBulkAll [d0] ≤ 1048576 := of_decide_eq_true (hk _ rfl)
  simp only [Rows.uptoBulkAll] at hk'
  obtain ⟨l, hl, hs⟩ := open_nodes (hval 0 22 v0 rfl rfl) h0 (by omega)
  simp only [List.append_nil] at hW'
  have hlt : ∀ x ∈ p, x.block < W.heap.size := fun x hx => by simpa using hW'.lt x hx
  refine (own_law l v0 W hl hs hwd).mono fun e W' ⟨he, hb⟩ => ?_
  subst he
  exact ⟨_, rfl, _, _, _, [], p, [], hW', trodAll_mk1 (shut_bool Tryd.underlying4 _), trodAll_mk1 (Below.trod laidOut (by kernel_rfl) (of_decide_eq_true (by kernel_rfl)) h0 hb hlt), rfl, hb.frame _, fun h => by cases h⟩
theorem holds : Rows.DocOwnUptoSaid :=
  OpenClaim.holds_of_cond 3 Tryd.f3 rfl rfl rfl rfl rfl rfl rfl ⟨rfl, rfl, rfl, rfl, rfl⟩ rfl rfl rfl rfl rfl (by kernel_rfl) Tryd.func3 (by kernel_rfl)
    (of_decide_eq_true (by kernel_rfl)) (by unfold Func.isWrapper; first | (rw [if_pos (by decide +kernel)]; kernel_rfl) | (rw [if_neg (by decide +kernel)]; exact ⟨rfl, rfl⟩))
    (fun os started H enc _ F => by rw [OpenClaim.pre_eq_preRow]; exact lifted os started H enc F)
end DocOwn
end Go.Proofs.YtalcmhngebobnaaDoor
namespace Go.Proofs.YtalcmhngebobnaaDoor
open Go
theorem docOwn_holds : Rows.DocOwnUptoCardSaid :=
  Claim7.holds_tied_plain_at .later [] [.data, .data, .data, .data, .data, .pinned, .pinned] true (true, "e76bb0830103afcd9826a2f868779afe0d875597dc8675eb9ab14ba8385baaba") false
    DocOwn.holds (fun _ h => by cases h) (by kernel_rfl) (fun _ h => by cases h) docOwnUpto_row_tie rfl ⟨rfl, rfl⟩ (by kernel_rfl) rfl
    (fun f fn hf hfn => by
      obtain rfl : f = 3 := Option.some.inj ((show Tryd.prog.funcNamed "apostille/apostillelaw07.DocOwn" = some 3 by kernel_rfl).symm.trans hf) |>.symm
      obtain rfl : fn = Tryd.f3 := (Option.some.inj (Tryd.func3.symm.trans hfn)).symm
      exact ⟨by kernel_rfl, fun j t ht => by
        rw [Tryd.params3] at ht
        have hm : t ∈ [22] := by simpa using Array.mem_of_getElem? ht
        have hall : ([22].all fun u => !Tryd.prog.wantsStandIn u) = true := by kernel_rfl
        exact (show Tryd.prog.wantsStandIn t = false by simpa using List.all_eq_true.1 hall t hm)⟩)
    (by kernel_rfl)
end Go.Proofs.YtalcmhngebobnaaDoor
