/-
  For DocOwn: a document stays where its blocks stay; what lies in memory while the list's copy is written over. Conditions: none.
  append of things that lie in memory, none of them too, to a row of one's own, at a step of a region that draws its order. Conditions: there is room in an int.
  A region whose order is drawn, whatever its operations do: what holds of the operations done so far, of what they yielded, and of the world, is carried from one to the next. Conditions: none.
  For DocOwn: what holds while a node's lists are copied anew, in whatever order. Conditions: none.
  For DocOwn: while the list's copy and what is told are written over. Conditions: none.
  DocOwn walked. Conditions: the list lies as it is, its texts are not too long; the tables lie as they are laid, internal/bytealg.MaxLen holds some number.
-/
import Derived.Test.YtalcmhngebobnaaDoorNApp
import Derived.Test.YtalcmhngebobnaaDoorREndP
import Derived.Laws.AppendOwnNone
import Derived.Test.YtalcmhngebobnaaDoorDOrders
import Derived.Test.YtalcmhngebobnaaDoorDTell
import Derived.Test.YtalcmhngebobnaaDoorROne
import Derived.Test.YtalcmhngebobnaaDoorWForms
import Derived.Deep.DeepCutAuto
namespace Go.Proofs.YtalcmhngebobnaaDoor
open Go.RowKit
set_option linter.unusedVariables false
theorem OwnSl.stays {w w' : World} {B e n : Nat} {v : Value} {cs : List Value} (h : OwnSl w B e v n cs) (hk : ∀ y, B ≤ y → y < w.heap.size → w'.heap[y]? = w.heap[y]?) : OwnSl w' B e v n cs := by
  rcases h with h | ⟨g, h1, h2, h3⟩
  · exact .inl h
  · exact .inr ⟨g, h1, h2, (hk g h2 (block_lt h3)).trans h3⟩
theorem NsOwn.stays {w w' : World} {B : Nat} {v : Value} {l : List Nd} (h : NsOwn w B v l) (hk : ∀ y, B ≤ y → y < w.heap.size → w'.heap[y]? = w.heap[y]?) : NsOwn w' B v l := by
  rcases h with h | ⟨g, cur, h1, h2, h3, h4, h5⟩
  · exact .inl h
  · refine .inr ⟨g, cur, h1, h2, (hk g h2 (block_lt h3)).trans h3, h4, fun i hi hik => ?_⟩
    obtain ⟨vd, va, e1, e2, e3⟩ := h5 i hi hik
    exact ⟨vd, va, e1, OwnSl.stays e2 hk, OwnSl.stays e3 hk⟩
theorem DocAt.stays {w w' : World} {B d : Nat} {l : List Nd} (h : DocAt w B d l) (hk : ∀ y, B ≤ y → y < w.heap.size → w'.heap[y]? = w.heap[y]?) : DocAt w' B d l := by
  obtain ⟨v, h1, h2, h3⟩ := h
  exact ⟨v, h1, (hk d h1 (block_lt h2)).trans h2, h3.stays hk⟩
/-- The copy's node k in its row: its Text's cell is there, its lists are slices so long; its attributes lie in a block of the call's own. -/
def PhN (B0 Bd : Nat) (wr : World) (cur : Array Value) (k : Nat) (x : Nd) : Prop :=
  (cur[k * 8 + 5]?).isSome = true ∧ ∃ Ad Aa cd ca, cur[k * 8 + 6]? = some (.slice Ad x.ds.length cd) ∧ cur[k * 8 + 7]? = some (.slice Aa x.ats.length ca) ∧ x.ats.length ≤ ca ∧ ca ≤ 9223372036854775807 ∧
    (0 < x.ats.length → ∃ ga cura, Aa = some ⟨ga, 0, none⟩ ∧ B0 ≤ ga ∧ ga < Bd ∧ wr.heap[ga]? = some (.cells cura 35 (0, 0)) ∧ x.ats.length * 4 ≤ cura.size)
/-- While the copy is written over: the caller's blocks stay, and the document's; the copy's row g keeps its form. -/
structure Ph (w w4 : World) (Bd g : Nat) (l : List Nd) (wr : World) : Prop where
  low : Below w.heap.size w wr
  doc : ∀ y, Bd ≤ y → y < w4.heap.size → wr.heap[y]? = w4.heap[y]?
  size : w4.heap.size ≤ wr.heap.size
  g1 : w.heap.size ≤ g
  g2 : g < Bd
  bd : Bd ≤ w4.heap.size
  row : ∃ cur, wr.heap[g]? = some (.cells cur 28 (0, 0)) ∧ ∀ k (hk : k < l.length), PhN w.heap.size Bd wr cur k l[k]
theorem PhN.stays {B0 Bd k : Nat} {wr w' : World} {cur : Array Value} {x : Nd} (h : PhN B0 Bd wr cur k x) (hk : ∀ y, B0 ≤ y → y < Bd → w'.heap[y]? = wr.heap[y]?) : PhN B0 Bd w' cur k x := by
  obtain ⟨h5, Ad, Aa, cd, ca, h6, h7, h8, h9, h10⟩ := h
  refine ⟨h5, Ad, Aa, cd, ca, h6, h7, h8, h9, fun hp => ?_⟩
  obtain ⟨ga, cura, e1, e2, e3, e4, e5⟩ := h10 hp
  exact ⟨ga, cura, e1, e2, e3, (hk ga e2 e3).trans e4, e5⟩
theorem Ph.later {w w4 : World} {Bd g : Nat} {l : List Nd} {wr w' : World} (h : Ph w w4 Bd g l wr) (hb : Below wr.heap.size wr w') : Ph w w4 Bd g l w' := by
  have hs := h.size
  have hbd := h.bd
  obtain ⟨cur, r1, r2⟩ := h.row
  refine ⟨h.low.trans (hb.mono h.low.size), fun y h1 h2 => (hb.block y (by omega)).trans (h.doc y h1 h2), Nat.le_trans h.size hb.size, h.g1, h.g2, h.bd, cur, (hb.block g (block_lt r1)).trans r1, fun k hk => (r2 k hk).stays (fun y h1 h2 => hb.block y (by omega))⟩
/-- A cell is written: of the copy's row a Text's, else of a block that is none of the caller's, none of the document's. -/
theorem Ph.write {w w4 : World} {Bd g : Nat} {l : List Nd} {wr : World} (h : Ph w w4 Bd g l wr) {z c : Nat} {cs : Array Value} {t : TypeId} (u : Value) (hz : wr.heap[z]? = some (.cells cs t (0, 0))) (h1 : w.heap.size ≤ z) (h2 : z < Bd ∨ w4.heap.size ≤ z) (h3 : z = g → ∃ k, c = k * 8 + 5) :
    Ph w w4 Bd g l (wr.setCell ⟨z, c, none⟩ u) := by
  have hoth : ∀ y, y ≠ z → (wr.setCell ⟨z, c, none⟩ u).heap[y]? = wr.heap[y]? := fun y hy => Below.heap_setCell _ _ _ _ hy
  have hset := block_set (j := c) (v := u) hz
  have hsz : (wr.setCell ⟨z, c, none⟩ u).heap.size = wr.heap.size := by simp [World.setCell]
  obtain ⟨cur, r1, r2⟩ := h.row
  have hbd := h.bd
  refine ⟨h.low.setCell (p := ⟨z, c, none⟩) h1 u, fun y a1 a2 => (hoth y (by omega)).trans (h.doc y a1 a2), by rw [hsz]; exact h.size, h.g1, h.g2, h.bd, ?_⟩
  by_cases hzg : z = g
  · obtain ⟨k0, hk0⟩ := h3 hzg
    subst hzg
    rw [r1] at hz
    simp only [Option.some.injEq, Obj.cells.injEq] at hz
    obtain ⟨rfl, rfl, _⟩ := hz
    refine ⟨_, hset, fun k hk => ?_⟩
    obtain ⟨q5, Ad, Aa, cd, ca, q6, q7, q8, q9, q10⟩ := r2 k hk
    refine ⟨?_, Ad, Aa, cd, ca, ?_, ?_, q8, q9, fun hp => ?_⟩
    · rw [Array.getElem?_setIfInBounds]
      by_cases he : c = k * 8 + 5
      · rw [if_pos he]
        have : k * 8 + 5 < cur.size := by
          rcases Nat.lt_or_ge (k * 8 + 5) cur.size with hl | hl
          · exact hl
          · rw [Array.getElem?_eq_none hl] at q5; cases q5
        rw [if_pos (by omega)]; rfl
      · rw [if_neg he]; exact q5
    · rw [Array.getElem?_setIfInBounds, if_neg (by omega)]; exact q6
    · rw [Array.getElem?_setIfInBounds, if_neg (by omega)]; exact q7
    · obtain ⟨ga, cura, e1, e2, e3, e4, e5⟩ := q10 hp
      refine ⟨ga, cura, e1, e2, e3, (hoth ga (fun e => ?_)).trans e4, e5⟩
      rw [e, r1] at e4
      simp at e4
  · refine ⟨cur, (hoth g (fun e => hzg e.symm)).trans r1, fun k hk => ?_⟩
    obtain ⟨q5, Ad, Aa, cd, ca, q6, q7, q8, q9, q10⟩ := r2 k hk
    refine ⟨q5, Ad, Aa, cd, ca, q6, q7, q8, q9, fun hp => ?_⟩
    obtain ⟨ga, cura, e1, e2, e3, e4, e5⟩ := q10 hp
    by_cases hga : ga = z
    · subst hga
      rw [e4] at hz
      simp only [Option.some.injEq, Obj.cells.injEq] at hz
      obtain ⟨rfl, rfl, _⟩ := hz
      exact ⟨ga, _, e1, e2, e3, hset, by simpa using e5⟩
    · exact ⟨ga, cura, e1, e2, e3, (hoth ga hga).trans e4, e5⟩
end Go.Proofs.YtalcmhngebobnaaDoor
namespace Go.Proofs.YtalcmhngebobnaaDoor
open Go.RowKit
set_option linter.unusedVariables false
/-- append of nothing at all: a nil list, whatever its room is said to be. -/
theorem run_app_none {P : Program} (w : World) (base : Nat) (t ty e : TypeId) (i : TypeInfo) (size c : Nat) (ht : P.underlying t = some (.slice e)) (hi : P.info? e = some i) (v : Value) (n : Nat) (xs : List Value) (hown : w.ownsRow base e size v n xs) :
    (Builtin.append_ #[t, t] ty #[v, .slice none 0 c]).run P w = .ok v w := by
  rcases hown.2 with ⟨rfl, rfl⟩ | ⟨g, cap, cur, rfl, _, _, hnc, _⟩
  · simp [Builtin.append_, run_underlying ht, sizeOf, typeInfo, hi, Builtin.lenOf, Builtin.firstCells]
  · simp [Builtin.append_, run_underlying ht, sizeOf, typeInfo, hi, Builtin.lenOf, Builtin.firstCells, hnc, storeCells]
/-- A list that lies in memory, as what is appended. -/
theorem src_of_sl {w : World} {B : Nat} {v : Value} {n k : Nat} {xs : List Value} (h : SlAt w B v n xs) (hk : 0 < k) (hl : xs.length = n * k) : (∃ c, v = .slice none 0 c ∧ n = 0) ∨ ∃ ad c, v = .slice (some ad) n c ∧ ∀ j u, xs[j]? = some u → w.cell? (ad.add j) = some u := by
  obtain ⟨A, cap, rfl, h1, h2, h3⟩ := h
  rcases Nat.eq_zero_or_pos xs.length with h0 | h0
  · cases A with
    | none =>
      rcases Nat.eq_zero_or_pos n with hn | hn
      · subst hn; exact .inl ⟨cap, rfl, rfl⟩
      · exfalso
        have : 0 < n * k := Nat.mul_pos hn hk
        omega
    | some ad => exact .inr ⟨ad, cap, rfl, fun j u hu => by have := (List.getElem?_eq_some_iff.1 hu).1; omega⟩
  · obtain ⟨b, o, rfl, _, hc⟩ := h3 (by rintro rfl; simp at h0)
    refine .inr ⟨_, cap, rfl, fun j u hu => ?_⟩
    obtain ⟨hj, rfl⟩ := List.getElem?_eq_some_iff.1 hu
    rw [addr_addI]
    exact hc j hj
/-- What append leaves. -/
theorem run_app_any {P : Program} (w : World) (base : Nat) (t ty e : TypeId) (i : TypeInfo) (z : Value) (size bytes : Nat) (ht : P.underlying t = some (.slice e)) (hi : P.info? e = some i) (hz : i.zero = some z) (hsize : i.size = size) (hby : i.bytes = bytes) (hzs : z.cells.size = size) (hsz : 0 < size)
    (v : Value) (n : Nat) (xs : List Value) (hown : w.ownsRow base e size v n xs) (m : Nat) (src : Value) (news : List Value) (hsrc : (∃ c, src = .slice none 0 c ∧ m = 0) ∨ ∃ ad c, src = .slice (some ad) m c ∧ ∀ j u, news[j]? = some u → w.cell? (ad.add j) = some u) (hl : news.length = m * size) (h1 : ∀ u ∈ news, u.oneCell' = true)
    (h63 : n + m ≤ maxLen) (hbytes : (n + m) * bytes ≤ 140737488355328) (hbase : base ≤ w.heap.size) :
    ∃ v' w', (Builtin.append_ #[t, t] ty #[v, src]).run P w = .ok v' w' ∧ w'.ownsRow base e size v' (n + m) (xs ++ news) ∧ w.grownBy w' v.ownBlock ∧ (v'.ownBlock = v.ownBlock ∨ v'.ownBlock = some w.heap.size) := by
  rcases hsrc with ⟨c, rfl, rfl⟩ | ⟨ad, c, rfl, hnews⟩
  · have h0 : news = [] := List.eq_nil_of_length_eq_zero (by rw [hl]; omega)
    subst h0
    refine ⟨v, w, run_app_none w base t ty e i size c ht hi v n xs hown, ?_, ⟨rfl, rfl, rfl, Nat.le_refl _, fun _ _ _ => rfl⟩, .inl rfl⟩
    rw [List.append_nil]; exact hown
  · obtain ⟨v', w', hr, h2, h3, _, h5⟩ := run_append_own_at (P := P) w base t ty e i z size bytes ht hi hz hsize hby hzs hsz v n xs hown ad m c news hl hnews h1 h63 hbytes hbase
    exact ⟨v', w', hr, h2, h3, h5⟩
/-- At a step of a region that draws its order. -/
theorem step_app_any {P : Program} {w : World} {ops : Array Oper} {o : Oper} {a : Act} {K : Act → World → Prop} {Q : Exit → Act → World → Prop} {E : Prop} (hgd : o.guard = none) (s x : Operand) (t : TypeId) (ho : o.op = .call { callee := .builtin .append, args := #[s, x], argTypes := #[t, t] })
    (base : Nat) (e : TypeId) (i : TypeInfo) (z : Value) (size bytes : Nat) (ht : P.underlying t = some (.slice e)) (hi : P.info? e = some i) (hz : i.zero = some z) (hsize : i.size = size) (hby : i.bytes = bytes) (hzs : z.cells.size = size) (hsz : 0 < size)
    (v : Value) (n : Nat) (xs : List Value) (hs : a.eval s = v) (hown : w.ownsRow base e size v n xs) (m : Nat) (src : Value) (hx : a.eval x = src) (news : List Value) (hsrc : (∃ c, src = .slice none 0 c ∧ m = 0) ∨ ∃ ad c, src = .slice (some ad) m c ∧ ∀ j u, news[j]? = some u → w.cell? (ad.add j) = some u) (hl : news.length = m * size) (h1 : ∀ u ∈ news, u.oneCell' = true)
    (h63 : n + m ≤ maxLen) (hbytes : (n + m) * bytes ≤ 140737488355328) (hbase : base ≤ w.heap.size)
    (h : ∀ v' w', w'.ownsRow base e size v' (n + m) (xs ++ news) → w.grownBy w' v.ownBlock → (v'.ownBlock = v.ownBlock ∨ v'.ownBlock = some w.heap.size) → K (a.put o.dst v') w') :
    if Region.wanted o (yielded ops a.tmps) = true then Oper.wp P o a w K Q else E := by
  have hw : Region.wanted o (yielded ops a.tmps) = true := by simp [Region.wanted, hgd]
  rw [if_pos hw]
  obtain ⟨v', w', hr, h2, h3, h5⟩ := run_app_any (P := P) w base t o.type e i z size bytes ht hi hz hsize hby hzs hsz v n xs hown m src news hsrc hl h1 h63 hbytes hbase
  unfold Oper.wp execOp
  simp only [ho, resolve, invoke, builtin, Sem.run_bind, Sem.run_pure, Result.andThen_ok, List.map_toArray, List.map_cons, List.map_nil, hs, hx, hr]
  exact h v' w' h2 h3 h5
/-- As one operation. -/
theorem oper_app_any {P : Program} {w : World} {o : Oper} {a : Act} {K : Act → World → Prop} {Q : Exit → Act → World → Prop} (s x : Operand) (t : TypeId) (ho : o.op = .call { callee := .builtin .append, args := #[s, x], argTypes := #[t, t] })
    (base : Nat) (e : TypeId) (i : TypeInfo) (z : Value) (size bytes : Nat) (ht : P.underlying t = some (.slice e)) (hi : P.info? e = some i) (hz : i.zero = some z) (hsize : i.size = size) (hby : i.bytes = bytes) (hzs : z.cells.size = size) (hsz : 0 < size)
    (v : Value) (n : Nat) (xs : List Value) (hs : a.eval s = v) (hown : w.ownsRow base e size v n xs) (m : Nat) (src : Value) (hx : a.eval x = src) (news : List Value) (hsrc : (∃ c, src = .slice none 0 c ∧ m = 0) ∨ ∃ ad c, src = .slice (some ad) m c ∧ ∀ j u, news[j]? = some u → w.cell? (ad.add j) = some u) (hl : news.length = m * size) (h1 : ∀ u ∈ news, u.oneCell' = true)
    (h63 : n + m ≤ maxLen) (hbytes : (n + m) * bytes ≤ 140737488355328) (hbase : base ≤ w.heap.size)
    (h : ∀ v' w', w'.ownsRow base e size v' (n + m) (xs ++ news) → w.grownBy w' v.ownBlock → (v'.ownBlock = v.ownBlock ∨ v'.ownBlock = some w.heap.size) → K (a.put o.dst v') w') : Oper.wp P o a w K Q := by
  obtain ⟨v', w', hr, h2, h3, h5⟩ := run_app_any (P := P) w base t o.type e i z size bytes ht hi hz hsize hby hzs hsz v n xs hown m src news hsrc hl h1 h63 hbytes hbase
  unfold Oper.wp execOp
  simp only [ho, resolve, invoke, builtin, Sem.run_bind, Sem.run_pure, Result.andThen_ok, List.map_toArray, List.map_cons, List.map_nil, hs, hx, hr]
  exact h v' w' h2 h3 h5
end Go.Proofs.YtalcmhngebobnaaDoor
namespace Go.Proofs.YtalcmhngebobnaaDoor
open Go.RowKit
set_option linter.unusedVariables false
/-- One more is done. -/
def seen (L : Nat → Bool) (i : Nat) : Nat → Bool := fun j => if j = i then true else L j
theorem seen_same (L : Nat → Bool) (i : Nat) : seen L i i = true := if_pos rfl
theorem seen_other {L : Nat → Bool} {i j : Nat} (h : j ≠ i) : seen L i j = L j := if_neg h
section
variable {P : Program} {md : Region.Mode} {ops : Array Oper} {Q : Exit → Act → World → Prop}
theorem wpAny_states {n : Nat} (hn : ops.size = n) (mk : (Nat → Value) → Act) (I : (Nat → Bool) → (Nat → Value) → World → Prop)
    (step : ∀ i, i < n → ∀ L f w, L i = false → (∀ j, Waits md ops i j → L j = true) → (∀ x y, L x = true → Waits md ops x y → L y = true) → I L f w → ∀ K : Act → World → Prop, (∀ v w', I (seen L i) (upd f i v) w' → K (mk (upd f i v)) w') → wpOp P ops Q i K (mk f) w)
    (fin : ∀ L f w, (∀ j, j < n → L j = true) → I L f w → Q .normal (mk f) w)
    (back : ∀ i j, Waits md ops i j → j < i) :
    ∀ (fuel : Nat) (listed : Array Bool) (f : Nat → Value) (w : World), listed.size = n → I (fun j => listed.getD j false) f w →
      (∀ i j, listed.getD i false = true → Waits md ops i j → listed.getD j false = true) → (List.range n).countP (fun j => !listed.getD j false) ≤ fuel → wpAny P md ops Q fuel listed (mk f) w := by
  have empty : ∀ (listed : Array Bool), listed.size = n → Region.ready md ops listed = [] → ∀ j, j < n → listed.getD j false = true := by
    intro listed hs h0
    have hall : ∀ m, m ≤ n → ∀ j, j < m → listed.getD j false = true := by
      intro m
      induction m with
      | zero => intro _ j hj; omega
      | succ m ihm =>
        intro hm j hj
        rcases Nat.lt_or_eq_of_le (Nat.le_of_lt_succ hj) with h | h
        · exact ihm (by omega) j h
        · subst h
          cases hlj : listed.getD j false with
          | true => rfl
          | false =>
            exfalso
            have hj' : j < ops.size := by omega
            have : j ∈ Region.ready md ops listed := mem_ready.2 ⟨by rw [getD_same (by omega)]; exact hlj, ops[j], Array.getElem?_eq_getElem hj', fun e he hb => ihm (by omega) _ (back j e.on ⟨ops[j], Array.getElem?_eq_getElem hj', e, he, hb, rfl⟩)⟩
            rw [h0] at this
            cases this
    exact hall n (Nat.le_refl _)
  intro fuel
  induction fuel with
  | zero =>
    intro listed f w hs hI hd hc
    have hall : ∀ j, j < n → listed.getD j false = true := fun j hj => by
      cases hlj : listed.getD j false with
      | true => rfl
      | false =>
        exfalso
        have : 0 < (List.range n).countP (fun j => !listed.getD j false) := List.countP_pos_iff.2 ⟨j, by simpa using hj, by simp only [hlj, Bool.not_false]⟩
        omega
    refine wpAny_done ?_ (fin _ f w hall hI) 0
    rw [List.eq_nil_iff_forall_not_mem]
    intro j hj
    obtain ⟨h1', o, ho, _⟩ := mem_ready.1 hj
    have hlt : j < n := by
      rcases Nat.lt_or_ge j ops.size with h | h
      · omega
      · rw [Array.getElem?_eq_none h] at ho; cases ho
    rw [getD_same (by omega), hall j hlt] at h1'
    cases h1'
  | succ fuel ih =>
    intro listed f w hs hI hd hc
    refine ⟨fun h0 => fin _ f w (empty listed hs h0) hI, fun i hi => ?_⟩
    obtain ⟨h1, o, ho, h2⟩ := mem_ready.1 hi
    have hlt : i < n := by
      rcases Nat.lt_or_ge i ops.size with h | h
      · omega
      · rw [Array.getElem?_eq_none h] at ho; cases ho
    rw [getD_same (by omega)] at h1
    have h3 : ∀ j, Waits md ops i j → listed.getD j false = true := by
      rintro j ⟨o', ho', e, he, hb, rfl⟩
      obtain rfl : o' = o := Option.some.inj (ho'.symm.trans ho)
      exact h2 e he hb
    refine step i hlt _ f w h1 h3 hd hI _ (fun v w' hI' => ?_)
    refine ih _ (upd f i v) w' (by simpa using hs) ?_ ?_ ?_
    · have e : (fun j => (listed.setIfInBounds i true).getD j false) = seen (fun j => listed.getD j false) i := by
        funext j
        rw [getD_set false (by omega)]
        rfl
      rw [e]; exact hI'
    · intro x y hx hw
      rw [getD_set false (by omega)] at hx ⊢
      by_cases hy : y = i
      · rw [if_pos hy]
      · rw [if_neg hy]
        by_cases hxi : x = i
        · subst hxi; exact h3 y hw
        · rw [if_neg hxi] at hx; exact hd x y hx hw
    · have := countP_less (p := fun j => !listed.getD j false) (q := fun j => !(listed.setIfInBounds i true).getD j false) (l := List.range n) (i := i) (by simpa using hlt)
        (fun j hj => by
          rw [getD_set false (by omega)] at hj
          by_cases h : j = i
          · simp [h] at hj
          · simpa [h] using hj) (by simp only [h1, Bool.not_false]) (by rw [getD_set false (by omega)]; simp)
      omega
/-- A drawn region, whatever its operations do. -/
theorem region_states {id n : Nat} (hm : P.follows .mixedOrders = true) (hn : ops.size = n) (hback : backB .any ops = true) (mk : (Nat → Value) → Act) (I : (Nat → Bool) → (Nat → Value) → World → Prop) (f0 : Nat → Value) (w : World) (h0 : I (fun _ => false) f0 w.drew)
    (step : ∀ i, i < n → ∀ L f w, L i = false → (∀ j, waitsB .any ops i j = true → L j = true) → (∀ x y, L x = true → waitsB .any ops x y = true → L y = true) → I L f w → ∀ K : Act → World → Prop, (∀ v w', I (seen L i) (upd f i v) w' → K (mk (upd f i v)) w') → wpOp P ops Q i K (mk f) w)
    (fin : ∀ L f w, (∀ j, j < n → L j = true) → I L f w → Q .normal (mk f) w) :
    (Code.region id ops true).wp P Q (mk f0) w := by
  have hz : ∀ j, (Array.replicate ops.size false).getD j false = false := fun j => by
    simp only [Array.getD_eq_getD_getElem?, Array.getElem?_replicate]
    split <;> rfl
  refine wp_region_any hm (wpAny_states hn mk I (fun i hi L f w h1 h2 h3 hI => step i hi L f w h1 (fun j hj => h2 j (waits_of hj)) (fun x y hx hw => h3 x y hx (waits_of hw)) hI) fin (back_of hback) _ _ f0 w.drew ?_ ?_ ?_ ?_)
  · simp [hn]
  · have e : (fun j => (Array.replicate ops.size false).getD j false) = fun _ => false := funext hz
    rw [e]; exact h0
  · intro i j hl
    rw [hz i] at hl
    cases hl
  · exact Nat.le_trans List.countP_le_length (by simp [hn])
end
end Go.Proofs.YtalcmhngebobnaaDoor
namespace Go.Proofs.YtalcmhngebobnaaDoor
open Go.RowKit
set_option linter.unusedVariables false
theorem own_apart {w : World} {B e s n B' e' s' n' : Nat} {v v' : Value} {xs xs' : List Value} (h : w.ownsRow B e s v n xs) (h' : w.ownsRow B' e' s' v' n' xs') (he : e ≠ e') : v.ownBlock = none ∨ v.ownBlock ≠ v'.ownBlock := by
  obtain ⟨_, ⟨rfl, _⟩ | ⟨g, cap, cur, rfl, _, hh, _⟩⟩ := h
  · exact .inl rfl
  obtain ⟨_, ⟨rfl, _⟩ | ⟨g', cap', cur', rfl, _, hh', _⟩⟩ := h'
  · exact .inr (by simp [Value.ownBlock])
  · refine .inr (fun e0 => ?_)
    simp only [Value.ownBlock, Option.some.injEq] at e0
    rw [e0, hh'] at hh
    simp only [Option.some.injEq, Obj.cells.injEq] at hh
    exact he hh.2.1.symm
theorem own_blocks {w w' : World} {B e s n : Nat} {v : Value} {xs : List Value} (h : w.ownsRow B e s v n xs) (hk : ∀ y, B ≤ y → (∃ c, w.heap[y]? = some (.cells c e (0, 0))) → w'.heap[y]? = w.heap[y]?) : w'.ownsRow B e s v n xs := by
  obtain ⟨h1, h2 | ⟨g, cap, cur, rfl, hg, hh, h3⟩⟩ := h
  · exact ⟨h1, .inl h2⟩
  · exact ⟨h1, .inr ⟨g, cap, cur, rfl, hg, (hk g hg ⟨cur, hh⟩).trans hh, h3⟩⟩
theorem rows_below {w w' : World} {B e s n : Nat} {v : Value} {xs : List Value} (h : w.ownsRow B e s v n xs) (hb : Below w.heap.size w w') : w'.ownsRow B e s v n xs := own_blocks h (fun y _ ⟨c, hc⟩ => hb.block y (block_lt hc))
/-- Region 8, while it runs: the box of x lies at xb; rows for its lists' copies. -/
structure R8 (xb : Nat) (w0 : World) (x : Nd) (vd va : Value) (L : Nat → Bool) (f : Nat → Value) (w : World) : Prop where
  bel : Below xb w0 w
  box : w.heap[xb]? = some (.cells #[.int .i64 x.k, .int .i64 x.n, .string x.p, .string x.l, .string x.u, .string x.t, (if L 11 then f 7 else vd), (if L 9 then f 3 else va)] 28 (0, 0))
  r0 : L 0 = true → L 3 = false → w.ownsRow xb 35 4 (f 0) 0 []
  a1 : L 1 = true → f 1 = .pointer (some ⟨xb, 7, none⟩)
  l2 : L 2 = true → f 2 = va
  r3 : L 3 = true → w.ownsRow xb 35 4 (f 3) x.ats.length (x.ats.flatMap atC)
  r4 : L 4 = true → L 7 = false → w.ownsRow xb 37 2 (f 4) 0 []
  a5 : L 5 = true → f 5 = .pointer (some ⟨xb, 6, none⟩)
  l6 : L 6 = true → f 6 = vd
  r7 : L 7 = true → w.ownsRow xb 37 2 (f 7) x.ds.length (x.ds.flatMap dcC)
  a8 : L 8 = true → f 8 = .pointer (some ⟨xb, 7, none⟩)
  a10 : L 10 = true → f 10 = .pointer (some ⟨xb, 6, none⟩)
/-- A step that changes nothing that was done before, but what it yields. -/
theorem R8.keep {xb : Nat} {w0 w w' : World} {x : Nd} {vd va : Value} {L : Nat → Bool} {f : Nat → Value} (h : R8 xb w0 x vd va L f w) (i : Nat) (v : Value) (hi : i ≠ 9 ∧ i ≠ 11) (hL : L i = false) (hL9 : i = 3 → L 9 = false) (hL11 : i = 7 → L 11 = false) (hb : Below xb w w') (hbox : w'.heap[xb]? = w.heap[xb]?)
    (rows : ∀ e s u n xs, (e = 35 → i ≠ 3) → (e = 37 → i ≠ 7) → e = 35 ∨ e = 37 → w.ownsRow xb e s u n xs → w'.ownsRow xb e s u n xs)
    (h0 : i = 0 → w'.ownsRow xb 35 4 v 0 []) (h1 : i = 1 → v = .pointer (some ⟨xb, 7, none⟩)) (h2 : i = 2 → v = va) (h3 : i = 3 → w'.ownsRow xb 35 4 v x.ats.length (x.ats.flatMap atC))
    (h4 : i = 4 → w'.ownsRow xb 37 2 v 0 []) (h5 : i = 5 → v = .pointer (some ⟨xb, 6, none⟩)) (h6 : i = 6 → v = vd) (h7 : i = 7 → w'.ownsRow xb 37 2 v x.ds.length (x.ds.flatMap dcC))
    (h8 : i = 8 → v = .pointer (some ⟨xb, 7, none⟩)) (h10 : i = 10 → v = .pointer (some ⟨xb, 6, none⟩)) : R8 xb w0 x vd va (seen L i) (upd f i v) w' := by
  have hs : ∀ j, j ≠ i → seen L i j = L j := fun j hj => seen_other hj
  have hu : ∀ j, j ≠ i → upd f i v j = f j := fun j hj => upd_other hj
  refine ⟨h.bel.trans hb, ?_, ?_, ?_, ?_, ?_, ?_, ?_, ?_, ?_, ?_, ?_⟩
  · rw [hbox, h.box, hs 11 (by omega), hs 9 (by omega)]
    by_cases e3 : i = 3
    · rw [hL9 e3]; by_cases e7 : i = 7
      · omega
      · rw [hu 7 (by omega)]; simp
    · rw [hu 3 (by omega)]
      by_cases e7 : i = 7
      · rw [hL11 e7]; simp
      · rw [hu 7 (by omega)]
  · intro q1 q2
    by_cases e : i = 0
    · subst e; rw [upd_same]; exact h0 rfl
    · rw [hs 0 (by omega)] at q1
      by_cases e3 : i = 3
      · subst e3; rw [seen_same] at q2; cases q2
      · rw [hs 3 (by omega)] at q2; rw [hu 0 (by omega)]
        exact rows _ _ _ _ _ (fun _ => e3) (fun h => absurd h (by decide)) (.inl rfl) (h.r0 q1 q2)
  · intro q
    by_cases e : i = 1
    · subst e; rw [upd_same]; exact h1 rfl
    · rw [hs 1 (by omega)] at q; rw [hu 1 (by omega)]; exact h.a1 q
  · intro q
    by_cases e : i = 2
    · subst e; rw [upd_same]; exact h2 rfl
    · rw [hs 2 (by omega)] at q; rw [hu 2 (by omega)]; exact h.l2 q
  · intro q
    by_cases e : i = 3
    · subst e; rw [upd_same]; exact h3 rfl
    · rw [hs 3 (by omega)] at q; rw [hu 3 (by omega)]; exact rows _ _ _ _ _ (fun _ => e) (fun h => absurd h (by decide)) (.inl rfl) (h.r3 q)
  · intro q1 q2
    by_cases e : i = 4
    · subst e; rw [upd_same]; exact h4 rfl
    · rw [hs 4 (by omega)] at q1
      by_cases e7 : i = 7
      · subst e7; rw [seen_same] at q2; cases q2
      · rw [hs 7 (by omega)] at q2; rw [hu 4 (by omega)]
        exact rows _ _ _ _ _ (fun h => absurd h (by decide)) (fun _ => e7) (.inr rfl) (h.r4 q1 q2)
  · intro q
    by_cases e : i = 5
    · subst e; rw [upd_same]; exact h5 rfl
    · rw [hs 5 (by omega)] at q; rw [hu 5 (by omega)]; exact h.a5 q
  · intro q
    by_cases e : i = 6
    · subst e; rw [upd_same]; exact h6 rfl
    · rw [hs 6 (by omega)] at q; rw [hu 6 (by omega)]; exact h.l6 q
  · intro q
    by_cases e : i = 7
    · subst e; rw [upd_same]; exact h7 rfl
    · rw [hs 7 (by omega)] at q; rw [hu 7 (by omega)]; exact rows _ _ _ _ _ (fun h => absurd h (by decide)) (fun _ => e) (.inr rfl) (h.r7 q)
  · intro q
    by_cases e : i = 8
    · subst e; rw [upd_same]; exact h8 rfl
    · rw [hs 8 (by omega)] at q; rw [hu 8 (by omega)]; exact h.a8 q
  · intro q
    by_cases e : i = 10
    · subst e; rw [upd_same]; exact h10 rfl
    · rw [hs 10 (by omega)] at q; rw [hu 10 (by omega)]; exact h.a10 q
theorem R8.aside {xb : Nat} {w0 w : World} {x : Nd} {vd va : Value} {L : Nat → Bool} {f : Nat → Value} (h : R8 xb w0 x vd va L f w) {e s n c : Nat} {v u : Value} {xs : List Value} (he : e ≠ 28) (ho : w.ownsRow xb e s v n xs) : (w.setCell ⟨xb, c, none⟩ u).ownsRow xb e s v n xs :=
  own_blocks ho (fun y _ ⟨cs, hc⟩ => Below.heap_setCell _ _ _ _ (fun e0 => by
    rw [e0, h.box] at hc
    simp only [Option.some.injEq, Obj.cells.injEq] at hc
    exact he hc.2.1.symm))
theorem R8.store9 {xb : Nat} {w0 w : World} {x : Nd} {vd va : Value} {L : Nat → Bool} {f : Nat → Value} (h : R8 xb w0 x vd va L f w) (v : Value) : R8 xb w0 x vd va (seen L 9) (upd f 9 v) (w.setCell ⟨xb, 7, none⟩ (f 3)) := by
  have hs : ∀ j, j ≠ 9 → seen L 9 j = L j := fun j hj => seen_other hj
  have hu : ∀ j, j ≠ 9 → upd f 9 v j = f j := fun j hj => upd_other hj
  refine ⟨h.bel.setCell (p := ⟨xb, 7, none⟩) (Nat.le_refl _) _, ?_, ?_, ?_, ?_, ?_, ?_, ?_, ?_, ?_, ?_, ?_⟩
  · rw [block_set h.box, hs 11 (by omega), hu 7 (by omega), hu 3 (by omega), seen_same]; simp
  · rw [hs 0 (by omega), hs 3 (by omega), hu 0 (by omega)]; exact fun a b => h.aside (by decide) (h.r0 a b)
  · rw [hs 1 (by omega), hu 1 (by omega)]; exact h.a1
  · rw [hs 2 (by omega), hu 2 (by omega)]; exact h.l2
  · rw [hs 3 (by omega), hu 3 (by omega)]; exact fun a => h.aside (by decide) (h.r3 a)
  · rw [hs 4 (by omega), hs 7 (by omega), hu 4 (by omega)]; exact fun a b => h.aside (by decide) (h.r4 a b)
  · rw [hs 5 (by omega), hu 5 (by omega)]; exact h.a5
  · rw [hs 6 (by omega), hu 6 (by omega)]; exact h.l6
  · rw [hs 7 (by omega), hu 7 (by omega)]; exact fun a => h.aside (by decide) (h.r7 a)
  · rw [hs 8 (by omega), hu 8 (by omega)]; exact h.a8
  · rw [hs 10 (by omega), hu 10 (by omega)]; exact h.a10
theorem R8.store11 {xb : Nat} {w0 w : World} {x : Nd} {vd va : Value} {L : Nat → Bool} {f : Nat → Value} (h : R8 xb w0 x vd va L f w) (v : Value) : R8 xb w0 x vd va (seen L 11) (upd f 11 v) (w.setCell ⟨xb, 6, none⟩ (f 7)) := by
  have hs : ∀ j, j ≠ 11 → seen L 11 j = L j := fun j hj => seen_other hj
  have hu : ∀ j, j ≠ 11 → upd f 11 v j = f j := fun j hj => upd_other hj
  refine ⟨h.bel.setCell (p := ⟨xb, 6, none⟩) (Nat.le_refl _) _, ?_, ?_, ?_, ?_, ?_, ?_, ?_, ?_, ?_, ?_, ?_⟩
  · rw [block_set h.box, hs 9 (by omega), hu 7 (by omega), hu 3 (by omega), seen_same]; simp
  · rw [hs 0 (by omega), hs 3 (by omega), hu 0 (by omega)]; exact fun a b => h.aside (by decide) (h.r0 a b)
  · rw [hs 1 (by omega), hu 1 (by omega)]; exact h.a1
  · rw [hs 2 (by omega), hu 2 (by omega)]; exact h.l2
  · rw [hs 3 (by omega), hu 3 (by omega)]; exact fun a => h.aside (by decide) (h.r3 a)
  · rw [hs 4 (by omega), hs 7 (by omega), hu 4 (by omega)]; exact fun a b => h.aside (by decide) (h.r4 a b)
  · rw [hs 5 (by omega), hu 5 (by omega)]; exact h.a5
  · rw [hs 6 (by omega), hu 6 (by omega)]; exact h.l6
  · rw [hs 7 (by omega), hu 7 (by omega)]; exact fun a => h.aside (by decide) (h.r7 a)
  · rw [hs 8 (by omega), hu 8 (by omega)]; exact h.a8
  · rw [hs 10 (by omega), hu 10 (by omega)]; exact h.a10
theorem ats_one (l : List At) : ∀ u ∈ l.flatMap atC, u.oneCell' = true := fun u hu => by
  obtain ⟨a, _, h⟩ := List.mem_flatMap.1 hu
  unfold atC at h
  simp only [List.mem_cons, List.not_mem_nil, or_false] at h
  rcases h with rfl | rfl | rfl | rfl <;> rfl
theorem dcs_one (l : List Dc) : ∀ u ∈ l.flatMap dcC, u.oneCell' = true := fun u hu => by
  obtain ⟨a, _, h⟩ := List.mem_flatMap.1 hu
  unfold dcC at h
  simp only [List.mem_cons, List.not_mem_nil, or_false] at h
  rcases h with rfl | rfl <;> rfl
theorem own_mono {w : World} {B B' e s n : Nat} {v : Value} {xs : List Value} (h : w.ownsRow B e s v n xs) (hb : B' ≤ B) : w.ownsRow B' e s v n xs := by
  obtain ⟨h1, h2 | ⟨g, cap, cur, e1, hg, h3⟩⟩ := h
  · exact ⟨h1, .inl h2⟩
  · exact ⟨h1, .inr ⟨g, cap, cur, e1, by omega, h3⟩⟩
theorem own_slice {w : World} {B e s n : Nat} {v : Value} {xs : List Value} (h : w.ownsRow B e s v n xs) : ∃ A c, v = .slice A n c := by
  obtain ⟨_, ⟨rfl, rfl⟩ | ⟨g, cap, cur, rfl, _⟩⟩ := h
  · exact ⟨_, _, rfl⟩
  · exact ⟨_, _, rfl⟩
end Go.Proofs.YtalcmhngebobnaaDoor
namespace Go.Proofs.YtalcmhngebobnaaDoor
open Go.RowKit
set_option linter.unusedVariables false
/-- A node of the copy: its lists lie in rows of the call's own. -/
def YOwn (w : World) (B : Nat) (y : Ny) : Prop := w.ownsRow B 37 2 y.d y.x.ds.length (y.x.ds.flatMap dcC) ∧ w.ownsRow B 35 4 y.a y.x.ats.length (y.x.ats.flatMap atC)
theorem YOwn.below {w w' : World} {B : Nat} {y : Ny} (h : YOwn w B y) (hb : Below w.heap.size w w') : YOwn w' B y := ⟨rows_below h.1 hb, rows_below h.2 hb⟩
theorem YOwn.grown {w w' : World} {B B' n : Nat} {y : Ny} {v : Value} {xs : List Value} (h : YOwn w B y) (ho : w.ownsRow B' 28 8 v n xs) (hg : w.grownBy w' v.ownBlock) : YOwn w' B y := ⟨h.1.kept hg (own_apart h.1 ho (by decide)), h.2.kept hg (own_apart h.2 ho (by decide))⟩
theorem sl_of_own {w : World} {B e s n : Nat} {v : Value} {xs : List Value} (h : w.ownsRow B e s v n xs) : SlAt w w.heap.size v n xs := by
  obtain ⟨hl, ⟨rfl, rfl⟩ | ⟨g, cap, cur, rfl, hg, hh, hn, hc, hs, ht⟩⟩ := h
  · refine ⟨none, 0, rfl, Nat.le_refl _, by omega, fun hne => absurd (List.eq_nil_of_length_eq_zero (by simpa using hl)) hne⟩
  · refine ⟨some ⟨g, 0, none⟩, cap, rfl, hn, by unfold maxLen at hc; exact hc, fun _ => ⟨g, 0, rfl, block_lt hh, fun j hj => ?_⟩⟩
    rw [Nat.zero_add, cell_of_row w g j cur e (0, 0) hh]
    have : cur.toList[j]? = xs[j]? := by rw [← ht, List.getElem?_take_of_lt (by rw [hl] at hj; exact hj)]
    rw [Array.getElem?_toList] at this
    rw [this, List.getElem?_eq_getElem hj]
theorem YOwn.at {w : World} {B : Nat} {y : Ny} (h : YOwn w B y) : NyAt w w.heap.size y := ⟨sl_of_own h.1, sl_of_own h.2⟩
/-- What holds when the copy is whole, and the document of it is made. -/
theorem ph_start {w wr w4 : World} {l : List Nd} {ys : List Ny} {v : Value} {k : Nat} (hb : Below w.heap.size w wr) (h4 : Below wr.heap.size wr w4) (ho : wr.ownsRow w.heap.size 28 8 v k (ys.flatMap nyC)) (hy : ∀ y ∈ ys, YOwn wr w.heap.size y) (hys : ys.map (·.x) = l) (hk : ys.length = k) (h0 : 0 < k) :
    ∃ g cap, v = .slice (some ⟨g, 0, none⟩) k cap ∧ k ≤ cap ∧ Ph w w4 wr.heap.size g l w4 := by
  obtain ⟨hl, ⟨_, h⟩ | ⟨g, cap, cur, rfl, hg, hh, hn, hc, hs, ht⟩⟩ := ho
  · omega
  · have hlt := block_lt hh
    refine ⟨g, cap, rfl, hn, hb.trans (h4.mono hb.size), fun y _ _ => rfl, Nat.le_refl _, hg, hlt, h4.size, cur, (h4.block g hlt).trans hh, fun i hi => ?_⟩
    have hil : i < ys.length := by rw [← hys, List.length_map] at hi; exact hi
    have hx : l[i] = ys[i].x := by simp [← hys]
    have hat : ∀ j, j < 8 → cur[i * 8 + j]? = (nyC ys[i])[j]? := fun j hj => by
      have h1 := flat_at (f := nyC) (c := 8) nyC_len ys i j hil hj
      have hlt' : i * 8 + j < k * 8 := by omega
      rw [← h1, ← ht, List.getElem?_take_of_lt hlt', Array.getElem?_toList]
    obtain ⟨hd, ha⟩ := hy _ (List.getElem_mem hil)
    rw [hx]
    obtain ⟨Ad, cd, ed⟩ := own_slice hd
    refine ⟨by rw [hat 5 (by omega)]; rfl, ?_⟩
    obtain ⟨_, ⟨ea, en⟩ | ⟨ga, ca, cura, ea, hga, hha, hna, hca, hsa, _⟩⟩ := ha
    · refine ⟨Ad, none, cd, 0, by rw [hat 6 (by omega)]; show some ys[i].d = _; rw [ed], by rw [hat 7 (by omega), en]; show some ys[i].a = _; rw [ea], by omega, by omega, fun h => by omega⟩
    · refine ⟨Ad, some ⟨ga, 0, none⟩, cd, ca, by rw [hat 6 (by omega)]; show some ys[i].d = _; rw [ed], by rw [hat 7 (by omega)]; show some ys[i].a = _; rw [ea], hna, by unfold maxLen at hca; exact hca, fun _ => ⟨ga, cura, rfl, hga, block_lt hha, (h4.block ga (block_lt hha)).trans hha, by rw [hsa]; exact Nat.mul_le_mul_right 4 hna⟩⟩
/-- Beside that: what is told of a node lies in a box xb and in blocks of its own, behind the document. -/
structure Ph3 (w w4 : World) (Bd g : Nat) (l : List Nd) (xb : Nat) (x : Nd) (vd va : Value) (wr : World) : Prop where
  ph : Ph w w4 Bd g l wr
  hxb : w4.heap.size ≤ xb
  box : wr.heap[xb]? = some (.cells #[.int .i64 x.k, .int .i64 x.n, .string x.p, .string x.l, .string x.u, .string x.t, vd, va] 28 (0, 0))
  atr : 0 < x.ats.length → ∃ gA cs, va = .slice (some ⟨gA, 0, none⟩) x.ats.length x.ats.length ∧ w4.heap.size ≤ gA ∧ wr.heap[gA]? = some (.cells cs 35 (0, 0)) ∧ cs.size = x.ats.length * 4
  dcr : 0 < x.ds.length → ∃ gD cs, vd = .slice (some ⟨gD, 0, none⟩) x.ds.length x.ds.length ∧ w4.heap.size ≤ gD ∧ wr.heap[gD]? = some (.cells cs 37 (0, 0)) ∧ cs.size = x.ds.length * 2
theorem typed_ne {w : World} {z y : Nat} {cs cs' : Array Value} {t t' : TypeId} (h : w.heap[z]? = some (.cells cs t (0, 0))) (h' : w.heap[y]? = some (.cells cs' t' (0, 0))) (ht : t ≠ t') : z ≠ y := fun e => by
  rw [e, h'] at h
  simp only [Option.some.injEq, Obj.cells.injEq] at h
  exact ht h.2.1.symm
theorem Ph3.write {w w4 : World} {Bd g : Nat} {l : List Nd} {xb : Nat} {x : Nd} {vd va : Value} {wr : World} (h : Ph3 w w4 Bd g l xb x vd va wr) {z c : Nat} {cs : Array Value} {t : TypeId} (u : Value) (hz : wr.heap[z]? = some (.cells cs t (0, 0))) (ht : t ≠ 28) (h1 : w.heap.size ≤ z) (h2 : z < Bd ∨ w4.heap.size ≤ z) :
    Ph3 w w4 Bd g l xb x vd va (wr.setCell ⟨z, c, none⟩ u) := by
  have hoth : ∀ y, y ≠ z → (wr.setCell ⟨z, c, none⟩ u).heap[y]? = wr.heap[y]? := fun y hy => Below.heap_setCell _ _ _ _ hy
  have hset := block_set (j := c) (v := u) hz
  obtain ⟨cur, r1, r2⟩ := h.ph.row
  have hzg := typed_ne hz r1 ht
  have hzx := typed_ne hz h.box ht
  refine ⟨h.ph.write u hz h1 h2 (fun e => absurd e hzg), h.hxb, (hoth xb (fun e => hzx e.symm)).trans h.box, fun hp => ?_, fun hp => ?_⟩
  · obtain ⟨gA, ca, e1, e2, e3, e4⟩ := h.atr hp
    by_cases hga : gA = z
    · subst hga
      rw [e3] at hz
      simp only [Option.some.injEq, Obj.cells.injEq] at hz
      obtain ⟨rfl, rfl, _⟩ := hz
      exact ⟨gA, _, e1, e2, hset, by simpa using e4⟩
    · exact ⟨gA, ca, e1, e2, (hoth gA hga).trans e3, e4⟩
  · obtain ⟨gD, ca, e1, e2, e3, e4⟩ := h.dcr hp
    by_cases hga : gD = z
    · subst hga
      rw [e3] at hz
      simp only [Option.some.injEq, Obj.cells.injEq] at hz
      obtain ⟨rfl, rfl, _⟩ := hz
      exact ⟨gD, _, e1, e2, hset, by simpa using e4⟩
    · exact ⟨gD, ca, e1, e2, (hoth gD hga).trans e3, e4⟩
/-- The copy's node k: its two lists' cells, and where an attribute's Value is. -/
theorem Ph.node {w w4 : World} {Bd g : Nat} {l : List Nd} {wr : World} (h : Ph w w4 Bd g l wr) {k : Nat} (hk : k < l.length) : ∃ Ad Aa cd ca, wr.cell? ⟨g, k * 8 + 6, none⟩ = some (.slice Ad l[k].ds.length cd) ∧ wr.cell? ⟨g, k * 8 + 7, none⟩ = some (.slice Aa l[k].ats.length ca) ∧ l[k].ats.length ≤ ca ∧ ca ≤ 9223372036854775807 ∧
    (∃ u, wr.cell? ⟨g, k * 8 + 5, none⟩ = some u) ∧ (∀ j, wr.frozen? ⟨g, j, none⟩ = false) ∧ (∃ cur, wr.heap[g]? = some (.cells cur 28 (0, 0))) ∧
    (0 < l[k].ats.length → ∃ ga cura, Aa = some ⟨ga, 0, none⟩ ∧ w.heap.size ≤ ga ∧ ga < Bd ∧ wr.heap[ga]? = some (.cells cura 35 (0, 0)) ∧ l[k].ats.length * 4 ≤ cura.size) := by
  obtain ⟨cur, r1, r2⟩ := h.row
  obtain ⟨h5, Ad, Aa, cd, ca, h6, h7, h8, h9, h10⟩ := r2 k hk
  refine ⟨Ad, Aa, cd, ca, by rw [cell_of_row wr g _ _ _ _ r1]; exact h6, by rw [cell_of_row wr g _ _ _ _ r1]; exact h7, h8, h9, ?_, fun j => by unfold World.frozen?; rw [r1]; simp, ⟨cur, r1⟩, h10⟩
  obtain ⟨u, hu⟩ := Option.isSome_iff_exists.1 h5
  exact ⟨u, by rw [cell_of_row wr g _ _ _ _ r1]; exact hu⟩
/-- A cell of a block that is there, and may be written. -/
theorem cell_there {w : World} {z j : Nat} {cs : Array Value} {t : TypeId} (h : w.heap[z]? = some (.cells cs t (0, 0))) (hj : j < cs.size) : (∃ u, w.cell? ⟨z, j, none⟩ = some u) ∧ w.frozen? ⟨z, j, none⟩ = false :=
  ⟨⟨cs[j], by rw [cell_of_row w z j _ _ _ h]; exact Array.getElem?_eq_getElem hj⟩, by unfold World.frozen?; rw [h]; simp⟩
end Go.Proofs.YtalcmhngebobnaaDoor
namespace Go.Proofs.YtalcmhngebobnaaDoor
open Go.RowKit
set_option linter.unusedVariables false
set_option maxRecDepth 100000
/-- What holds at the first loop's head. -/
def O1Rel (w : World) (l : List Nd) (own i : Value) (wr : World) : Prop :=
  ∃ (k : Nat) (ys : List Ny), k ≤ l.length ∧ i = .int .i64 k ∧ ys.map (·.x) = l.take k ∧ wr.ownsRow w.heap.size 28 8 own k (ys.flatMap nyC) ∧ (∀ y ∈ ys, YOwn wr w.heap.size y) ∧ Below w.heap.size w wr
/-- What holds at the second loop's head. -/
def O2Rel (w w4 : World) (Bd g : Nat) (l : List Nd) (i : Value) (wr : World) : Prop := ∃ k : Nat, k ≤ l.length ∧ i = .int .i64 k ∧ Ph w w4 Bd g l wr
/-- What holds at the heads of the loops in it. -/
def O3Rel (w w4 : World) (Bd g : Nat) (l : List Nd) (xb : Nat) (x : Nd) (vd va : Value) (n : Nat) (i : Value) (wr : World) : Prop := ∃ k : Nat, k ≤ n ∧ i = .int .i64 k ∧ Ph3 w w4 Bd g l xb x vd va wr
set_option maxHeartbeats 32000000 in
theorem own_law (l : List Nd) (v : Value) (w : World) (hv : NsAt w w.heap.size v l) (hs : ∀ x ∈ l, Sm x) (hW : Wd w) : Calls Tryd.prog 3 #[v] w fun e w' => e = .returned (.bool true) ∧ Below w.heap.size w w' := by
  have HA : Hid (∀ w', Below w.heap.size w w' → Calls Tryd.prog 4 #[] w' fun e w'' => e = .returned (.bool true) ∧ Below w'.heap.size w' w'') := fun w' hb => awake_any w' (hW.later hb)
  have HF : Hid (∀ w', Below w.heap.size w w' → Calls Tryd.prog 5 #[v, .int .i64 20] w' fun e w'' => e = .returned (.bool (fewB l 20)) ∧ w'' = w') := fun w' hb => few_any l 20 v w' (by omega) (hv.later hb)
  have HV := Lib.hid hv
  have HSM := Lib.hid hs
  have HW0 := Lib.hid hW
  obtain ⟨A, cap, rfl, hc1, hc2⟩ := hv.slice
  have hr0 := Below.refl w.heap.size w
  clear hW hv hs
  cases hf : fewB l 20 with
  | false =>
    rw [hf] at HF
    clear hf
    go_enter Tryd.func3, Tryd.ntmps3
    go_wp2_with fail
    refine (HA.out _ hr0).mono ?_
    rintro e w1 ⟨rfl, hb1⟩
    go_wp2_with fail
    refine (HF.out _ hb1).mono ?_
    rintro e w2 ⟨rfl, hw⟩
    rw [hw]
    clear hw
    go_wp2_with fail
    refine (HA.out _ hb1).mono ?_
    rintro e w2 ⟨rfl, hb2⟩
    go_wp2
    go_ret
    exact ⟨rfl, hb1.trans (hb2.mono hb1.size)⟩
  | true =>
    rw [hf] at HF
    have hl : l.length ≤ 20 := by
      unfold fewB at hf
      rw [Bool.and_eq_true, decide_eq_true_eq] at hf
      exact hf.1
    have HFW : Hid (∀ x ∈ l, x.ds.length ≤ 100 ∧ x.ats.length ≤ 100) := by
      intro x hx
      unfold fewB at hf
      rw [Bool.and_eq_true, List.all_eq_true] at hf
      have := hf.2 x hx
      unfold fewN at this
      simp only [Bool.and_eq_true, decide_eq_true_eq] at this
      omega
    have HL := Lib.hid hl
    obtain ⟨m, hmE⟩ : ∃ m, l.length = m := ⟨_, rfl⟩
    have HM := Lib.hid hmE
    rw [hmE] at hl hc1 HV HF ⊢
    clear hf hmE
    go_enter Tryd.func3, Tryd.ntmps3
    go_wp2_with fail
    refine (HA.out _ hr0).mono ?_
    rintro e w1 ⟨rfl, hb1⟩
    go_wp2_with fail
    refine (HF.out _ hb1).mono ?_
    rintro e w2 ⟨rfl, hw⟩
    rw [hw]
    clear hw
    go_wp2_with fail
    go_loopw [3, 22] (O1Rel w l) (fun _ i _ => m - (intOf i).toNat)
    case atStart => exact ⟨0, [], Nat.zero_le _, rfl, by simp, World.ownsRow_nil _ _ _ _, fun (y : Ny) (hy : y ∈ []) => (List.not_mem_nil hy).elim, hb1⟩
    case round =>
      obtain ⟨k, ys, hk, rfl, hys, hown, hyo, hb⟩ := hrel
      rw [HM.out] at hk
      by_cases hlt : k < m
      · have hkl : k < l.length := by rw [HM.out]; exact hlt
        have hvr := HV.out.below hb
        obtain ⟨b, o, cap', e, _, _, hbB, hnd⟩ := hvr.open (by intro h; rw [h] at hkl; simp at hkl)
        simp only [Value.slice.injEq] at e
        obtain ⟨rfl, -, rfl⟩ := e
        obtain ⟨vd, va, d0, d1, d2, d3, d4, d5, d6, d7, hd, ha⟩ := (hnd k hkl).cells
        have HD : Hid (DsAt wr w.heap.size vd l[k].ds) := hd
        have HA' : Hid (AsAt wr w.heap.size va l[k].ats) := ha
        have hfw := HFW.out _ (List.getElem_mem hkl)
        obtain ⟨A1, c1, rfl, hd1, hd2, _⟩ := hd
        obtain ⟨A2, c2, rfl, ha1, ha2, _⟩ := ha
        have hkz : (k : Int) < (m : Int) := by omega
        have HTK : Hid (l.take (k + 1) = l.take k ++ [l[k]]) := by show _ = _; rw [List.take_add_one, List.getElem?_eq_getElem hkl]; rfl
        generalize l[k] = x at *
        have HO := Lib.hid hown
        have HYO := Lib.hid hyo
        have HYS := Lib.hid hys
        clear hnd hvr hown hyo hys
        go_upto_region 8 with fail
        obtain ⟨xb, hxb⟩ : ∃ xb, wr.heap.size = xb := ⟨_, rfl⟩
        obtain ⟨w0, hw0⟩ : ∃ w0, wr.alloc (Obj.cells #[.int .i64 x.k, .int .i64 x.n, .string x.p, .string x.l, .string x.u, .string x.t, .slice A1 x.ds.length c1, .slice A2 x.ats.length c2] 28) = w0 := ⟨_, rfl⟩
        have hbx0 : Below xb wr w0 := by rw [← hw0, ← hxb]; exact (Below.refl _ _).alloc (Nat.le_refl _) _
        have hbox0 : w0.heap[xb]? = some (.cells #[.int .i64 x.k, .int .i64 x.n, .string x.p, .string x.l, .string x.u, .string x.t, .slice A1 x.ds.length c1, .slice A2 x.ats.length c2] 28 (0, 0)) := by rw [← hw0, ← hxb]; exact heap_alloc_last wr _
        have HXB := Lib.hid hxb
        rw [hw0, hxb]
        clear hw0 hxb
        go_cut [] (fun wx => ∃ v7 v3, wx.heap[xb]? = some (.cells #[.int .i64 x.k, .int .i64 x.n, .string x.p, .string x.l, .string x.u, .string x.t, v7, v3] 28 (0, 0)) ∧ wx.ownsRow xb 35 4 v3 x.ats.length (x.ats.flatMap atC) ∧ wx.ownsRow xb 37 2 v7 x.ds.length (x.ds.flatMap dcC) ∧ Below xb w0 wx)
        case first =>
          refine region_states (n := 12) (by kernel_rfl) rfl (by kernel_rfl) (fun f => { tmps := #[.slice (some ⟨b, o, none⟩) m cap, undef, .bool false, u3, .int .i64 k, .pointer (some ⟨xb, 0, none⟩), undef, undef, undef, undef, undef, undef, .bool true, .bool false, .bool false, .slice (some ⟨b, o, none⟩) m cap, .bool true, .bool false, .bool false, undef, .slice (some ⟨b, o, none⟩) m cap, .int .i64 m, .int .i64 k, .bool true, .int .i64 k, .slice (some ⟨b, o, none⟩) m cap, .int .i64 k, .pointer (some ⟨b, o + k * 8, none⟩), .agg #[.int .i64 x.k, .int .i64 x.n, .string x.p, .string x.l, .string x.u, .string x.t, .slice A1 x.ds.length c1, .slice A2 x.ats.length c2], f 0, f 1, f 2, f 3, f 4, f 5, f 6, f 7, f 8, f 10, u39, u40, u41, u42, u43, undef, undef, undef, undef, undef, undef, undef, undef, undef, undef, undef, undef, undef, undef, undef, undef, undef, undef, undef, undef, undef, undef, undef, undef, undef, undef, undef, undef, undef, undef, undef, undef, undef, undef, undef, undef, undef, undef, undef, undef, undef, undef, undef, undef, undef, undef, undef, undef, undef, undef, undef, undef, undef, undef, undef, undef, undef, undef, undef, undef, undef, undef, undef, undef], defers := [] }) (R8 xb w0 x (.slice A1 x.ds.length c1) (.slice A2 x.ats.length c2)) (fun i => if i = 0 then u29 else if i = 1 then u30 else if i = 2 then u31 else if i = 3 then u32 else if i = 4 then u33 else if i = 5 then u34 else if i = 6 then u35 else if i = 7 then u36 else if i = 8 then u37 else u38) w0 ⟨(Below.refl _ _).drew, hbox0, fun h => (by cases h), fun h => (by cases h), fun h => (by cases h), fun h => (by cases h), fun h => (by cases h), fun h => (by cases h), fun h => (by cases h), fun h => (by cases h), fun h => (by cases h), fun h => (by cases h)⟩ ?step ?fin
          case step =>
            intro i hi L f y hLi hLw hLc hI K hK
            match i, hi with
            | 0, _ =>
              have hlt : xb < y.heap.size := block_lt hI.box
              have HN := Lib.hid (hI.keep (w' := y.alloc (Obj.cells #[] 35)) 0 (Value.slice (some ⟨y.heap.size, 0, none⟩) 0 0) (by decide) hLi (fun h => absurd h (by decide)) (fun h => absurd h (by decide)) ((Below.refl _ _).alloc (Nat.le_of_lt hlt) _) (by rw [((Below.refl y.heap.size y).alloc (Nat.le_refl _) _).block xb hlt]) (fun _ _ _ _ _ _ _ _ h => h.alloc _) (fun _ => ⟨rfl, .inr ⟨y.heap.size, 0, #[], rfl, Nat.le_of_lt hlt, heap_alloc_last _ _, Nat.le_refl _, Nat.zero_le _, rfl, rfl⟩⟩) (fun h => absurd h (by decide)) (fun h => absurd h (by decide)) (fun h => absurd h (by decide)) (fun h => absurd h (by decide)) (fun h => absurd h (by decide)) (fun h => absurd h (by decide)) (fun h => absurd h (by decide)) (fun h => absurd h (by decide)) (fun h => absurd h (by decide)))
              clear hI hLw hLc
              refine wpOp_one rfl rfl ?_
              try dsimp only
              go_simp
              refine K_eq (hK (Value.slice (some ⟨y.heap.size, 0, none⟩) 0 0) _ HN.out) ?_
              simp [upd]
            | 1, _ =>
              have HN := Lib.hid (hI.keep (w' := y) 1 (.pointer (some ⟨xb, 7, none⟩)) (by decide) hLi (fun h => absurd h (by decide)) (fun h => absurd h (by decide)) (Below.refl _ _) rfl (fun _ _ _ _ _ _ _ _ h => h) (fun h => absurd h (by decide)) (fun _ => rfl) (fun h => absurd h (by decide)) (fun h => absurd h (by decide)) (fun h => absurd h (by decide)) (fun h => absurd h (by decide)) (fun h => absurd h (by decide)) (fun h => absurd h (by decide)) (fun h => absurd h (by decide)) (fun h => absurd h (by decide)))
              clear hI hLw hLc
              refine wpOp_one rfl rfl ?_
              try dsimp only
              go_simp
              refine K_eq (hK (.pointer (some ⟨xb, 7, none⟩)) y HN.out) ?_
              simp [upd]
            | 2, _ =>
              have nl : L 9 = false := by
                cases h : L 9 with
                | false => rfl
                | true => rw [hLc 3 2 (hLc 9 3 h (by kernel_rfl)) (by kernel_rfl)] at hLi; cases hLi
              have ea : f 1 = .pointer (some ⟨xb, 7, none⟩) := hI.a1 (hLw 1 (by kernel_rfl))
              have hcell : y.cell? ⟨xb, 7, none⟩ = some (.slice A2 x.ats.length c2) := by rw [cell_of_row y xb 7 _ _ _ hI.box]; simp [nl]
              have HN := Lib.hid (hI.keep (w' := y) 2 (.slice A2 x.ats.length c2) (by decide) hLi (fun h => absurd h (by decide)) (fun h => absurd h (by decide)) (Below.refl _ _) rfl (fun _ _ _ _ _ _ _ _ h => h) (fun h => absurd h (by decide)) (fun h => absurd h (by decide)) (fun _ => rfl) (fun h => absurd h (by decide)) (fun h => absurd h (by decide)) (fun h => absurd h (by decide)) (fun h => absurd h (by decide)) (fun h => absurd h (by decide)) (fun h => absurd h (by decide)) (fun h => absurd h (by decide)))
              clear hI hLw hLc nl
              refine wpOp_one rfl rfl ?_
              try dsimp only
              go_simp
              refine K_eq (hK (.slice A2 x.ats.length c2) y HN.out) ?_
              simp [upd, ea]
            | 3, _ =>
              have n3 : L 9 = false := by
                cases h : L 9 with
                | false => rfl
                | true => rw [hLc 9 3 h (by kernel_rfl)] at hLi; cases hLi
              have hrow := hI.r0 (hLw 0 (by kernel_rfl)) hLi
              have el : f 2 = .slice A2 x.ats.length c2 := hI.l2 (hLw 2 (by kernel_rfl))
              have hsl := HA'.out
              have hb0 : Below xb wr y := hbx0.trans hI.bel
              have hsl' := SlAt.below hsl (hb0.mono (by rw [← HXB.out]; exact hb.size))
              obtain ⟨i0, hi0, hz0, hz1, hz2⟩ := info_parts acopies_anyInfo
              have hltx : xb < y.heap.size := block_lt hI.box
              refine wpOp_one rfl rfl ?_
              refine oper_app_any (P := Tryd.prog) (.tmp 29) (.tmp 31) 26 rfl xb 35 i0 _ 4 _ Tryd.underlying26 hi0 hz0 hz1 hz2 rfl (by omega) (f 0) 0 [] rfl hrow _ (f 2) rfl _ (by rw [el]; exact src_of_sl (k := 4) hsl' (by decide) (flat_length (f := atC) (c := 4) (fun _ => rfl) _)) (flat_length (f := atC) (c := 4) (fun _ => rfl) _) (ats_one _) (by unfold maxLen; omega) (by omega) (Nat.le_of_lt hltx) ?_
              intro v' w' hown' hgr hat
              rw [Nat.zero_add, List.nil_append] at hown'
              have hne : (f 0).ownBlock ≠ some xb := fun e0 => by
                obtain ⟨_, ⟨e1, _⟩ | ⟨g, cap, cur, e1, hg, hh, _⟩⟩ := hrow
                · rw [e1] at e0; simp [Value.ownBlock] at e0
                · rw [e1] at e0
                  simp only [Value.ownBlock, Option.some.injEq] at e0
                  rw [e0, hI.box] at hh
                  simp at hh
              have hbl : Below xb y w' := (Below.refl xb y).grown hgr (Nat.le_of_lt hltx) (fun k hk => (hrow.lt k hk).1)
              have HN := hI.keep (w' := w') 3 v' (by decide) hLi (fun _ => n3) (fun h => absurd h (by decide)) hbl (hgr.block xb hltx (fun e0 => hne e0.symm)) (fun e s u n xs q1 q2 q3 ho => by
                rcases q3 with rfl | rfl
                · exact absurd rfl (q1 rfl)
                · exact ho.kept hgr (own_apart ho hrow (by decide))) (fun h => absurd h (by decide)) (fun h => absurd h (by decide)) (fun h => absurd h (by decide)) (fun _ => hown') (fun h => absurd h (by decide)) (fun h => absurd h (by decide)) (fun h => absurd h (by decide)) (fun h => absurd h (by decide)) (fun h => absurd h (by decide)) (fun h => absurd h (by decide))
              refine K_eq (hK v' w' HN) ?_
              simp [upd, Act.put]
            | 4, _ =>
              have hlt : xb < y.heap.size := block_lt hI.box
              have HN := Lib.hid (hI.keep (w' := y.alloc (Obj.cells #[] 37)) 4 (Value.slice (some ⟨y.heap.size, 0, none⟩) 0 0) (by decide) hLi (fun h => absurd h (by decide)) (fun h => absurd h (by decide)) ((Below.refl _ _).alloc (Nat.le_of_lt hlt) _) (by rw [((Below.refl y.heap.size y).alloc (Nat.le_refl _) _).block xb hlt]) (fun _ _ _ _ _ _ _ _ h => h.alloc _) (fun h => absurd h (by decide)) (fun h => absurd h (by decide)) (fun h => absurd h (by decide)) (fun h => absurd h (by decide)) (fun _ => ⟨rfl, .inr ⟨y.heap.size, 0, #[], rfl, Nat.le_of_lt hlt, heap_alloc_last _ _, Nat.le_refl _, Nat.zero_le _, rfl, rfl⟩⟩) (fun h => absurd h (by decide)) (fun h => absurd h (by decide)) (fun h => absurd h (by decide)) (fun h => absurd h (by decide)) (fun h => absurd h (by decide)))
              clear hI hLw hLc
              refine wpOp_one rfl rfl ?_
              try dsimp only
              go_simp
              refine K_eq (hK (Value.slice (some ⟨y.heap.size, 0, none⟩) 0 0) _ HN.out) ?_
              simp [upd]
            | 5, _ =>
              have HN := Lib.hid (hI.keep (w' := y) 5 (.pointer (some ⟨xb, 6, none⟩)) (by decide) hLi (fun h => absurd h (by decide)) (fun h => absurd h (by decide)) (Below.refl _ _) rfl (fun _ _ _ _ _ _ _ _ h => h) (fun h => absurd h (by decide)) (fun h => absurd h (by decide)) (fun h => absurd h (by decide)) (fun h => absurd h (by decide)) (fun h => absurd h (by decide)) (fun _ => rfl) (fun h => absurd h (by decide)) (fun h => absurd h (by decide)) (fun h => absurd h (by decide)) (fun h => absurd h (by decide)))
              clear hI hLw hLc
              refine wpOp_one rfl rfl ?_
              try dsimp only
              go_simp
              refine K_eq (hK (.pointer (some ⟨xb, 6, none⟩)) y HN.out) ?_
              simp [upd]
            | 6, _ =>
              have nl : L 11 = false := by
                cases h : L 11 with
                | false => rfl
                | true => rw [hLc 7 6 (hLc 11 7 h (by kernel_rfl)) (by kernel_rfl)] at hLi; cases hLi
              have ea : f 5 = .pointer (some ⟨xb, 6, none⟩) := hI.a5 (hLw 5 (by kernel_rfl))
              have hcell : y.cell? ⟨xb, 6, none⟩ = some (.slice A1 x.ds.length c1) := by rw [cell_of_row y xb 6 _ _ _ hI.box]; simp [nl]
              have HN := Lib.hid (hI.keep (w' := y) 6 (.slice A1 x.ds.length c1) (by decide) hLi (fun h => absurd h (by decide)) (fun h => absurd h (by decide)) (Below.refl _ _) rfl (fun _ _ _ _ _ _ _ _ h => h) (fun h => absurd h (by decide)) (fun h => absurd h (by decide)) (fun h => absurd h (by decide)) (fun h => absurd h (by decide)) (fun h => absurd h (by decide)) (fun h => absurd h (by decide)) (fun _ => rfl) (fun h => absurd h (by decide)) (fun h => absurd h (by decide)) (fun h => absurd h (by decide)))
              clear hI hLw hLc nl
              refine wpOp_one rfl rfl ?_
              try dsimp only
              go_simp
              refine K_eq (hK (.slice A1 x.ds.length c1) y HN.out) ?_
              simp [upd, ea]
            | 7, _ =>
              have n3 : L 11 = false := by
                cases h : L 11 with
                | false => rfl
                | true => rw [hLc 11 7 h (by kernel_rfl)] at hLi; cases hLi
              have hrow := hI.r4 (hLw 4 (by kernel_rfl)) hLi
              have el : f 6 = .slice A1 x.ds.length c1 := hI.l6 (hLw 6 (by kernel_rfl))
              have hsl := HD.out
              have hb0 : Below xb wr y := hbx0.trans hI.bel
              have hsl' := SlAt.below hsl (hb0.mono (by rw [← HXB.out]; exact hb.size))
              obtain ⟨i0, hi0, hz0, hz1, hz2⟩ := info_parts dcopies_anyInfo
              have hltx : xb < y.heap.size := block_lt hI.box
              refine wpOp_one rfl rfl ?_
              refine oper_app_any (P := Tryd.prog) (.tmp 33) (.tmp 35) 25 rfl xb 37 i0 _ 2 _ Tryd.underlying25 hi0 hz0 hz1 hz2 rfl (by omega) (f 4) 0 [] rfl hrow _ (f 6) rfl _ (by rw [el]; exact src_of_sl (k := 2) hsl' (by decide) (flat_length (f := dcC) (c := 2) (fun _ => rfl) _)) (flat_length (f := dcC) (c := 2) (fun _ => rfl) _) (dcs_one _) (by unfold maxLen; omega) (by omega) (Nat.le_of_lt hltx) ?_
              intro v' w' hown' hgr hat
              rw [Nat.zero_add, List.nil_append] at hown'
              have hne : (f 4).ownBlock ≠ some xb := fun e0 => by
                obtain ⟨_, ⟨e1, _⟩ | ⟨g, cap, cur, e1, hg, hh, _⟩⟩ := hrow
                · rw [e1] at e0; simp [Value.ownBlock] at e0
                · rw [e1] at e0
                  simp only [Value.ownBlock, Option.some.injEq] at e0
                  rw [e0, hI.box] at hh
                  simp at hh
              have hbl : Below xb y w' := (Below.refl xb y).grown hgr (Nat.le_of_lt hltx) (fun k hk => (hrow.lt k hk).1)
              have HN := hI.keep (w' := w') 7 v' (by decide) hLi (fun h => absurd h (by decide)) (fun _ => n3) hbl (hgr.block xb hltx (fun e0 => hne e0.symm)) (fun e s u n xs q1 q2 q3 ho => by
                rcases q3 with rfl | rfl
                · exact ho.kept hgr (own_apart ho hrow (by decide))
                · exact absurd rfl (q2 rfl)) (fun h => absurd h (by decide)) (fun h => absurd h (by decide)) (fun h => absurd h (by decide)) (fun h => absurd h (by decide)) (fun h => absurd h (by decide)) (fun h => absurd h (by decide)) (fun h => absurd h (by decide)) (fun _ => hown') (fun h => absurd h (by decide)) (fun h => absurd h (by decide))
              refine K_eq (hK v' w' HN) ?_
              simp [upd, Act.put]
            | 8, _ =>
              have HN := Lib.hid (hI.keep (w' := y) 8 (.pointer (some ⟨xb, 7, none⟩)) (by decide) hLi (fun h => absurd h (by decide)) (fun h => absurd h (by decide)) (Below.refl _ _) rfl (fun _ _ _ _ _ _ _ _ h => h) (fun h => absurd h (by decide)) (fun h => absurd h (by decide)) (fun h => absurd h (by decide)) (fun h => absurd h (by decide)) (fun h => absurd h (by decide)) (fun h => absurd h (by decide)) (fun h => absurd h (by decide)) (fun h => absurd h (by decide)) (fun _ => rfl) (fun h => absurd h (by decide)))
              clear hI hLw hLc
              refine wpOp_one rfl rfl ?_
              try dsimp only
              go_simp
              refine K_eq (hK (.pointer (some ⟨xb, 7, none⟩)) y HN.out) ?_
              simp [upd]
            | 9, _ =>
              have ea : f 8 = .pointer (some ⟨xb, 7, none⟩) := hI.a8 (hLw 8 (by kernel_rfl))
              have hrow := hI.r3 (hLw 3 (by kernel_rfl))
              have hcell : ∃ u, y.cell? ⟨xb, 7, none⟩ = some u := ⟨_, by rw [cell_of_row y xb 7 _ _ _ hI.box]; rfl⟩
              obtain ⟨u, hcell⟩ := hcell
              have hfz : y.frozen? ⟨xb, 7, none⟩ = false := by unfold World.frozen?; rw [hI.box]; simp
              obtain ⟨A3, c3, e3⟩ := own_slice hrow
              have HN := Lib.hid (hI.store9 undef)
              rw [e3] at HN
              clear hI hLw hLc hrow
              refine wpOp_one rfl rfl ?_
              try dsimp only
              go_simp
              refine K_eq (hK undef _ HN.out) ?_
              simp [upd, e3, ea]
            | 10, _ =>
              have HN := Lib.hid (hI.keep (w' := y) 10 (.pointer (some ⟨xb, 6, none⟩)) (by decide) hLi (fun h => absurd h (by decide)) (fun h => absurd h (by decide)) (Below.refl _ _) rfl (fun _ _ _ _ _ _ _ _ h => h) (fun h => absurd h (by decide)) (fun h => absurd h (by decide)) (fun h => absurd h (by decide)) (fun h => absurd h (by decide)) (fun h => absurd h (by decide)) (fun h => absurd h (by decide)) (fun h => absurd h (by decide)) (fun h => absurd h (by decide)) (fun h => absurd h (by decide)) (fun _ => rfl))
              clear hI hLw hLc
              refine wpOp_one rfl rfl ?_
              try dsimp only
              go_simp
              refine K_eq (hK (.pointer (some ⟨xb, 6, none⟩)) y HN.out) ?_
              simp [upd]
            | 11, _ =>
              have ea : f 10 = .pointer (some ⟨xb, 6, none⟩) := hI.a10 (hLw 10 (by kernel_rfl))
              have hrow := hI.r7 (hLw 7 (by kernel_rfl))
              have hcell : ∃ u, y.cell? ⟨xb, 6, none⟩ = some u := ⟨_, by rw [cell_of_row y xb 6 _ _ _ hI.box]; rfl⟩
              obtain ⟨u, hcell⟩ := hcell
              have hfz : y.frozen? ⟨xb, 6, none⟩ = false := by unfold World.frozen?; rw [hI.box]; simp
              obtain ⟨A3, c3, e3⟩ := own_slice hrow
              have HN := Lib.hid (hI.store11 undef)
              rw [e3] at HN
              clear hI hLw hLc hrow
              refine wpOp_one rfl rfl ?_
              try dsimp only
              go_simp
              refine K_eq (hK undef _ HN.out) ?_
              simp [upd, e3, ea]
            | i + 12, hi => omega
          case fin =>
            intro L f y hL hI
            have hb9 := hL 9 (by omega)
            have hb11 := hL 11 (by omega)
            have hbx := hI.box
            rw [hb9, hb11] at hbx
            have HF9 := Lib.hid hbx
            have HF1 := Lib.hid (hI.r3 (hL 3 (by omega)))
            have HF2 := Lib.hid (hI.r7 (hL 7 (by omega)))
            have HF3 := Lib.hid hI.bel
            clear hbx hI hL hb9 hb11
            try dsimp only
            go_wp2_with fail
            go_meet
            exact ⟨_, _, HF9.out, HF1.out, HF2.out, HF3.out⟩
        case rest =>
          obtain ⟨v7, v3, hbx, hr3, hr7, hbw⟩ := hcut
          obtain ⟨A4, c4, rfl⟩ := own_slice hr3
          obtain ⟨A3, c3, rfl⟩ := own_slice hr7
          have hxw : Below w.heap.size w wc := hb.trans ((hbx0.trans hbw).mono (by rw [← HXB.out]; exact hb.size))
          have g0 : wc.cell? ⟨xb, 0, none⟩ = some (.int .i64 x.k) := by rw [cell_of_row wc xb 0 _ _ _ hbx]; rfl
          have g1 : wc.cell? ⟨xb, 1, none⟩ = some (.int .i64 x.n) := by rw [cell_of_row wc xb 1 _ _ _ hbx]; rfl
          have g2 : wc.cell? ⟨xb, 2, none⟩ = some (.string x.p) := by rw [cell_of_row wc xb 2 _ _ _ hbx]; rfl
          have g3 : wc.cell? ⟨xb, 3, none⟩ = some (.string x.l) := by rw [cell_of_row wc xb 3 _ _ _ hbx]; rfl
          have g4 : wc.cell? ⟨xb, 4, none⟩ = some (.string x.u) := by rw [cell_of_row wc xb 4 _ _ _ hbx]; rfl
          have g5 : wc.cell? ⟨xb, 5, none⟩ = some (.string x.t) := by rw [cell_of_row wc xb 5 _ _ _ hbx]; rfl
          have g6 : wc.cell? ⟨xb, 6, none⟩ = some (.slice A3 x.ds.length c3) := by rw [cell_of_row wc xb 6 _ _ _ hbx]; rfl
          have g7 : wc.cell? ⟨xb, 7, none⟩ = some (.slice A4 x.ats.length c4) := by rw [cell_of_row wc xb 7 _ _ _ hbx]; rfl
          obtain ⟨yn, hyn⟩ : ∃ yn : Ny, yn = ⟨x, .slice A3 x.ds.length c3, .slice A4 x.ats.length c4⟩ := ⟨_, rfl⟩
          have HYN : Hid (YOwn wc w.heap.size yn) := by
            show YOwn _ _ _
            rw [hyn]
            exact ⟨own_mono hr7 (by rw [← HXB.out]; exact hb.size), own_mono hr3 (by rw [← HXB.out]; exact hb.size)⟩
          have hwx : Below wr.heap.size wr wc := by rw [HXB.out]; exact hbx0.trans hbw
          have HOW : Hid (wc.ownsRow w.heap.size 28 8 u3 k (ys.flatMap nyC)) := rows_below HO.out hwx
          have HYW : Hid (∀ y ∈ ys, YOwn wc w.heap.size y) := fun y hy => (HYO.out y hy).below hwx
          have HNC : Hid ([yn].flatMap nyC = [.int .i64 x.k, .int .i64 x.n, .string x.p, .string x.l, .string x.u, .string x.t, .slice A3 x.ds.length c3, .slice A4 x.ats.length c4]) := by
            show _ = _
            rw [hyn]; rfl
          have HNX : Hid (yn.x = x) := by show _ = _; rw [hyn]
          have hxw' := Lib.hid hxw
          clear hbx hr3 hr7 hbw hyn hxw hwx
          have HC1 : Hid (∀ j u, ([yn].flatMap nyC)[j]? = some u → (wc.alloc (Obj.cells #[.int .i64 x.k, .int .i64 x.n, .string x.p, .string x.l, .string x.u, .string x.t, .slice A3 x.ds.length c3, .slice A4 x.ats.length c4] 28)).cell? ((⟨wc.heap.size, 0, none⟩ : Addr).add j) = some u) := fun j u hu => by
            rw [HNC.out] at hu
            exact World.news_of_block (heap_alloc_last wc (Obj.cells #[.int .i64 x.k, .int .i64 x.n, .string x.p, .string x.l, .string x.u, .string x.t, .slice A3 x.ds.length c3, .slice A4 x.ats.length c4] 28)) j u hu
          have HO1 : Hid (∀ u ∈ [yn].flatMap nyC, u.oneCell' = true) := rows_one (fun y hy => by rw [List.mem_singleton.1 hy]; exact HYN.out.at)
          go_wp2_with (first
            | (at_builtin; refine app_ny rfl (.tmp 39) (.tmp 41) rfl w.heap.size u3 k ys rfl (HOW.out.alloc _) ⟨wc.heap.size, 0, none⟩ 1 1 [yn] rfl rfl HC1.out HO1.out (by omega) (by have := hxw'.out.size; simp; omega) ?_; intro v1 wa hown1 hgrow1 hat1)
            | fail)
          have HR : Hid (O1Rel w l v1 (.int .i64 ((k + 1 : Nat) : Int)) wa) := by
            have hx1 : Below w.heap.size w wa := (hxw'.out.alloc hxw'.out.size _).grown hgrow1 (by have := hxw'.out.size; simp; omega) (fun q hq => (HOW.out.lt q hq).1)
            refine ⟨k + 1, ys ++ [yn], hkl, rfl, ?_, hown1, fun y hy => ?_, hx1⟩
            · rw [List.map_append, HYS.out, HTK.out, List.map_cons, List.map_nil, HNX.out]
            · rcases List.mem_append.1 hy with h | h
              · exact ((HYW.out y h).below ((Below.refl _ _).alloc (Nat.le_refl _) _)).grown (HOW.out.alloc _) hgrow1
              · rw [List.mem_singleton.1 h]
                exact (HYN.out.below ((Below.refl _ _).alloc (Nat.le_refl _) _)).grown (HOW.out.alloc _) hgrow1
          clear hown1 hgrow1 hat1
          go_wp2
          go_roundw
          case rel => exact (show Value.int .i64 ((k + 1 : Nat) : Int) = _ by go_num) ▸ HR.out
          case measure => simp [intOf]; omega
      · have hkn : k = m := by omega
        subst hkn
        have hkz : ¬ (k : Int) < (k : Int) := by omega
        have hys' : ys.map (·.x) = l := by rw [hys, List.take_of_length_le (by rw [HM.out]; exact Nat.le_refl _)]
        have hyl : ys.length = k := by rw [← HM.out, ← hys', List.length_map]
        have hNs : NsAt wr wr.heap.size u3 l := by
          rcases Nat.eq_zero_or_pos k with h0 | h0
          · subst h0
            obtain rfl : ys = [] := List.eq_nil_of_length_eq_zero hyl
            have hl0 : l = [] := by rw [← hys']; rfl
            obtain ⟨_, ⟨rfl, _⟩ | ⟨g, cap', cur, rfl, _, _, _, hcm, _⟩⟩ := hown
            · exact ⟨none, 0, by rw [hl0]; rfl, by rw [hl0]; exact Nat.le_refl _, by omega, fun h => absurd hl0 h⟩
            · exact ⟨_, cap', by rw [hl0]; rfl, by rw [hl0]; exact Nat.zero_le _, by unfold maxLen at hcm; exact hcm, fun h => absurd hl0 h⟩
          · have h := ns_of_own hown hyl (by omega) h0 (fun y hy => (hyo y hy).at)
            rw [hys'] at h
            exact h
        have HOF := Lib.hid (of_any l u3 wr hNs (by rw [HM.out]; omega) HSM.out (HW0.out.later hb))
        obtain ⟨Au, cu, rfl⟩ := own_slice hown
        have HO := Lib.hid hown
        have HYO := Lib.hid hyo
        have HYS := Lib.hid hys'
        have HYL := Lib.hid hyl
        clear hNs hown hyo hys hys' hyl
        go_wp2_with fail
        refine HOF.out.mono ?_
        rintro e w4 ⟨ho, hb4⟩
        have hbw4 := hb.trans (hb4.mono hb.size)
        clear HOF
        rcases ho with ⟨_, rfl⟩ | ⟨_, _, rfl⟩ | ⟨hfo, _, d, rfl, hd⟩
        · go_wp2
          go_ret
          exact ⟨rfl, hbw4⟩
        · go_wp2
          go_ret
          exact ⟨rfl, hbw4⟩
        · have hne := (formed_hung hfo).1
          have h0 : 0 < k := by rw [← HM.out]; exact List.length_pos_iff.2 hne
          obtain ⟨g, capg, eg, hkc, hph⟩ := ph_start hb hb4 HO.out HYO.out HYS.out HYL.out h0
          simp only [Value.slice.injEq] at eg
          obtain ⟨rfl, -, rfl⟩ := eg
          have HPH := Lib.hid hph
          have HD := Lib.hid hd
          obtain ⟨Bd, hBd⟩ : ∃ Bd, wr.heap.size = Bd := ⟨_, rfl⟩
          rw [hBd] at HPH HD
          clear hph hd HO HYO HYS HYL hne h0 hb4 hb hBd
          go_wp2_with fail
          go_loopw [55] (O2Rel w w4 Bd g l) (fun i _ => k - (intOf i).toNat)
          case atStart => exact ⟨0, Nat.zero_le _, rfl, HPH.out⟩
          case round =>
            obtain ⟨q, hq, rfl, hp⟩ := hrel
            have HP := Lib.hid hp
            clear hp
            rw [HM.out] at hq
            by_cases hlt : q < k
            · have hql : q < l.length := by rw [HM.out]; exact hlt
              have hqz : (q : Int) < (k : Int) := by omega
              have HDN := Lib.hid (node_doc q wr (HD.out.stays HP.out.doc) (by rw [HM.out]; omega) HSM.out hql)
              have hdn : l[q].ds.length ≤ 2000000 := (HSM.out _ (List.getElem_mem hql)).nd
              have HNODE : Hid (∀ wn, Ph w w4 Bd g l wn → _) := fun wn hwn => hwn.node hql
              generalize l[q] = x at *
              go_wp2_with fail
              refine HDN.out.mono ?_
              rintro e w5 ⟨vd, va, rfl, hod, hoa, hb5⟩
              obtain ⟨A3, c3, rfl⟩ := OwnSl.form hod
              obtain ⟨A4, c4, rfl⟩ := OwnSl.form hoa
              go_upto_region 18 with fail
              obtain ⟨xb, hxb⟩ : ∃ xb, w5.heap.size = xb := ⟨_, rfl⟩
              obtain ⟨w6, hw6⟩ : ∃ w6, w5.alloc (Obj.cells #[.int .i64 x.k, .int .i64 x.n, .string x.p, .string x.l, .string x.u, .string x.t, .slice A3 x.ds.length c3, .slice A4 x.ats.length c4] 28) = w6 := ⟨_, rfl⟩
              have HS4 := Lib.hid HP.out.size
              have hb6 : Below wr.heap.size wr w6 := by rw [← hw6]; exact hb5.alloc hb5.size _
              have h5le : w5.heap.size ≤ w6.heap.size := by rw [← hw6]; simp
              have H63 : Hid (Ph3 w w4 Bd g l xb x (.slice A3 x.ds.length c3) (.slice A4 x.ats.length c4) w6) := by
                have hbb : Below w5.heap.size w5 w6 := by rw [← hw6]; exact (Below.refl _ _).alloc (Nat.le_refl _) _
                refine ⟨HP.out.later hb6, by have := hb5.size; have := HS4.out; omega, by rw [← hw6, ← hxb]; exact heap_alloc_last w5 _, fun hp => ?_, fun hp => ?_⟩
                · rcases hoa with ⟨h, _⟩ | ⟨gA, e1, e2, e3⟩
                  · omega
                  · exact ⟨gA, _, e1, by have := HS4.out; omega, (hbb.block gA (block_lt e3)).trans e3, by simp [flat_length (f := atC) (c := 4) (fun _ => rfl)]⟩
                · rcases hod with ⟨h, _⟩ | ⟨gD, e1, e2, e3⟩
                  · omega
                  · exact ⟨gD, _, e1, by have := HS4.out; omega, (hbb.block gD (block_lt e3)).trans e3, by simp [flat_length (f := dcC) (c := 2) (fun _ => rfl)]⟩
              rw [hw6, hxb]
              have hx4 : w4.heap.size ≤ xb := by have := hb5.size; have := HS4.out; omega
              clear hw6 hxb hod hoa hb5 hb6 h5le
              obtain ⟨Ad, Aa, cd, ca, n6, n7, hca, hca2, ⟨u5, n5⟩, hfz, ⟨cur, hrow⟩, _⟩ := HNODE.out w6 H63.out.ph
              have HB7 : Hid (Ph3 w w4 Bd g l xb x (.slice A3 x.ds.length c3) (.slice A4 x.ats.length c4) (w6.setCell ⟨g, q * 8 + 5, none⟩ (.string ⟨#[99, 104, 97, 110, 103, 101, 100]⟩))) := by
                have hne : xb ≠ g := by have := H63.out.ph.g2; have := H63.out.ph.bd; omega
                refine ⟨H63.out.ph.write _ hrow H63.out.ph.g1 (.inl H63.out.ph.g2) (fun _ => ⟨q, rfl⟩), hx4, (Below.heap_setCell _ _ _ _ hne).trans H63.out.box, fun hp => ?_, fun hp => ?_⟩
                · obtain ⟨gA, cs, e1, e2, e3, e4⟩ := H63.out.atr hp
                  have hne' : gA ≠ g := by have := H63.out.ph.g2; have := H63.out.ph.bd; omega
                  exact ⟨gA, cs, e1, e2, (Below.heap_setCell _ _ _ _ hne').trans e3, e4⟩
                · obtain ⟨gA, cs, e1, e2, e3, e4⟩ := H63.out.dcr hp
                  have hne' : gA ≠ g := by have := H63.out.ph.g2; have := H63.out.ph.bd; omega
                  exact ⟨gA, cs, e1, e2, (Below.heap_setCell _ _ _ _ hne').trans e3, e4⟩
              clear hrow
              go_upto_region 19 with fail
              obtain ⟨w7, hw7⟩ : ∃ w7, w6.setCell ⟨g, q * 8 + 5, none⟩ (.string ⟨#[99, 104, 97, 110, 103, 101, 100]⟩) = w7 := ⟨_, rfl⟩
              rw [hw7] at HB7 ⊢
              clear hw7 n5 n6 n7 hfz hca hca2
              obtain ⟨Ad, Aa, cd, ca, n6, n7, hca, hca2, ⟨u5, n5⟩, hfz, ⟨cur, hrow⟩, hatA⟩ := HNODE.out w7 HB7.out.ph
              clear hrow hatA
              go_wp2_with fail
              go_loopw [71] (O3Rel w w4 Bd g l xb x (.slice A3 x.ds.length c3) (.slice A4 x.ats.length c4) x.ats.length) (fun i _ => x.ats.length - (intOf i).toNat)
              case atStart => exact ⟨0, Nat.zero_le _, rfl, HB7.out⟩
              case round =>
                obtain ⟨i, hi, rfl, hp3⟩ := hrel
                have H3 := Lib.hid hp3
                clear hp3 n5 n6 n7 hfz hca hca2
                by_cases hil : i < x.ats.length
                · have hiz : (i : Int) < (x.ats.length : Int) := by omega
                  have h0n : 0 < x.ats.length := by omega
                  obtain ⟨Ad, Aa, cd, ca, n6, n7, hca, hca2, _, _, _, hatA⟩ := HNODE.out wr H3.out.ph
                  obtain ⟨ga, cura, rfl, ha1, ha2, ha3, ha4⟩ := hatA h0n
                  obtain ⟨⟨ua, hac⟩, haf⟩ := cell_there ha3 (show i * 4 + 3 < cura.size by omega)
                  have HC3 : Hid (Ph3 w w4 Bd g l xb x (.slice A3 x.ds.length c3) (.slice A4 x.ats.length c4) (wr.setCell ⟨ga, i * 4 + 3, none⟩ (.string ⟨#[99, 104, 97, 110, 103, 101, 100]⟩))) := H3.out.write _ ha3 (by decide) ha1 (.inl ha2)
                  clear ha3 ha4
                  go_upto_region 23 with fail
                  obtain ⟨w8, hw8⟩ : ∃ w8, wr.setCell ⟨ga, i * 4 + 3, none⟩ (.string ⟨#[99, 104, 97, 110, 103, 101, 100]⟩) = w8 := ⟨_, rfl⟩
                  rw [hw8] at HC3 ⊢
                  clear hw8 hac haf n6 n7
                  obtain ⟨gA, cs, eA, hA1, hA2, hA3⟩ := HC3.out.atr h0n
                  simp only [Value.slice.injEq] at eA
                  obtain ⟨rfl, -, rfl⟩ := eA
                  have b7 : w8.cell? ⟨xb, 7, none⟩ = some (.slice (some ⟨gA, 0, none⟩) x.ats.length x.ats.length) := by rw [cell_of_row w8 xb 7 _ _ _ HC3.out.box]; rfl
                  obtain ⟨⟨ub, hbc⟩, hbf⟩ := cell_there hA2 (show i * 4 + 3 < cs.size by omega)
                  have HE3 : Hid (Ph3 w w4 Bd g l xb x (.slice A3 x.ds.length c3) (.slice (some ⟨gA, 0, none⟩) x.ats.length x.ats.length) (w8.setCell ⟨gA, i * 4 + 3, none⟩ (.string ⟨#[99, 104, 97, 110, 103, 101, 100]⟩))) := HC3.out.write _ hA2 (by decide) (by have := H3.out.ph.low.size; have := H3.out.ph.g1; have := H3.out.ph.g2; have := H3.out.ph.bd; omega) (.inr hA1)
                  clear hA2 hA3
                  go_wp2
                  go_roundw
                  case rel => exact ⟨i + 1, hil, by go_num, HE3.out⟩
                  case measure => simp [intOf]; omega
                · have hin : i = x.ats.length := by omega
                  have hiz : ¬ (i : Int) < (x.ats.length : Int) := by omega
                  obtain ⟨Ad, Aa, cd, ca, n6, n7, _, _, _, _, _, _⟩ := HNODE.out wr H3.out.ph
                  go_wp2_with fail
                  go_loopw [94] (O3Rel w w4 Bd g l xb x (.slice A3 x.ds.length c3) (.slice A4 x.ats.length c4) x.ds.length) (fun i _ => x.ds.length - (intOf i).toNat)
                  case atStart => exact ⟨0, Nat.zero_le _, rfl, H3.out⟩
                  case round =>
                    obtain ⟨j, hj, rfl, hp3⟩ := hrel
                    have H4 := Lib.hid hp3
                    clear hp3 n6 n7
                    by_cases hjl : j < x.ds.length
                    · have hjz : (j : Int) < (x.ds.length : Int) := by omega
                      have h0d : 0 < x.ds.length := by omega
                      obtain ⟨gD, cs, eD, hD1, hD2, hD3⟩ := H4.out.dcr h0d
                      simp only [Value.slice.injEq] at eD
                      obtain ⟨rfl, -, rfl⟩ := eD
                      have b6 : wr.cell? ⟨xb, 6, none⟩ = some (.slice (some ⟨gD, 0, none⟩) x.ds.length x.ds.length) := by rw [cell_of_row wr xb 6 _ _ _ H4.out.box]; rfl
                      obtain ⟨⟨ub, hbc⟩, hbf⟩ := cell_there hD2 (show j * 2 + 1 < cs.size by omega)
                      have HE4 : Hid (Ph3 w w4 Bd g l xb x (.slice (some ⟨gD, 0, none⟩) x.ds.length x.ds.length) (.slice A4 x.ats.length c4) (wr.setCell ⟨gD, j * 2 + 1, none⟩ (.string ⟨#[99, 104, 97, 110, 103, 101, 100]⟩))) := H4.out.write _ hD2 (by decide) (by have := H4.out.ph.low.size; have := H4.out.ph.g1; have := H4.out.ph.g2; have := H4.out.ph.bd; omega) (.inr hD1)
                      clear hD2 hD3
                      go_wp2
                      go_roundw
                      case rel => exact ⟨j + 1, hjl, by go_num, HE4.out⟩
                      case measure => simp [intOf]; omega
                    · have hjz : ¬ (j : Int) < (x.ds.length : Int) := by omega
                      go_wp2
                      go_roundw
                      case rel => exact ⟨q + 1, hql, by go_num, H4.out.ph⟩
                      case measure => simp [intOf]; omega
            · have hqk : q = k := by omega
              subst hqk
              have hqz : ¬ (q : Int) < (q : Int) := by omega
              have HND := Lib.hid (nodes_doc wr (HD.out.stays HP.out.doc) (by rw [HM.out]; omega) HSM.out)
              have HSA : Hid (∀ v1 w', Below wr.heap.size wr w' → NsOwn w' wr.heap.size v1 l → Calls Tryd.prog 8 #[v1, .slice A q cap] w' fun e w'' => e = .returned (.bool true) ∧ Below w'.heap.size w' w'') := fun v1 w' hb' ho => same_any l v1 _ w' (ho.at (by rw [HM.out]; omega) HSM.out) (HV.out.later (HP.out.low.trans (hb'.mono HP.out.low.size)))
              have HLOW := Lib.hid HP.out.low
              go_wp2_with fail
              refine HND.out.mono ?_
              rintro e w5 ⟨v', rfl, ho, hb5⟩
              have HO5 := Lib.hid ho
              obtain ⟨A5, c5, rfl⟩ := ho.form
              clear ho
              go_wp2_with fail
              refine (HSA.out _ _ hb5 HO5.out).mono ?_
              rintro e w6 ⟨rfl, hb6⟩
              go_wp2
              go_ret
              exact ⟨rfl, HLOW.out.trans ((hb5.trans (hb6.mono hb5.size)).mono HLOW.out.size)⟩
end Go.Proofs.YtalcmhngebobnaaDoor
