/-
  What is declared by the elements that aren't ended yet: how doc.scope lies in memory, and what it tells. Conditions: none.
-/
import Derived.Test.YtalcmhngebobnaaDoorDTwice
import Derived.Test.YtalcmhngebobnaaDoorDForm2
import Derived.Deep.AppendLies
namespace Go.Proofs.YtalcmhngebobnaaDoor
open Go.RowKit Go.Maps Go.WideMaps
set_option linter.unusedVariables false
set_option maxRecDepth 100000
/-- How many are open up to the nearest declaration of a prefix; the nearest stands first. -/
def nrS : List Dc → List UInt8 → Nat
  | [], _ => 0
  | d :: S, s => if d.p.data.toList = s then S.length + 1 else nrS S s
/-- What the list of them holds. -/
def cellsS : List Dc → List Value
  | [] => []
  | d :: S => cellsS S ++ [.string d.u, .int .i64 (nrS S d.p.data.toList : Nat)]
theorem cellsS_length : ∀ S, (cellsS S).length = S.length * 2
  | [] => rfl
  | d :: S => by rw [cellsS, List.length_append, cellsS_length S]; simp; omega
theorem nrS_le : ∀ S s, nrS S s ≤ S.length
  | [], _ => Nat.le_refl _
  | d :: S, s => by
    rw [nrS]
    split
    · exact Nat.le_refl _
    · have := nrS_le S s; simp; omega
/-- What a prefix is declared as. -/
def findS (S : List Dc) (s : List UInt8) : Option ByteArray := (S.find? (fun d => decide (d.p.data.toList = s))).map (·.u)
theorem find_none : ∀ {S s}, findS S s = none ↔ nrS S s = 0
  | [], s => by simp [findS, nrS]
  | d :: S, s => by
    by_cases h : d.p.data.toList = s
    · simp [findS, nrS, h]
    · have := find_none (S := S) (s := s)
      simp [findS, nrS, h] at this ⊢
      exact this
theorem find_some : ∀ {S s z}, findS S s = some z → ∃ k, nrS S s = k + 1 ∧ (cellsS S)[k * 2]? = some (.string z)
  | [], s, z, h => by simp [findS] at h
  | d :: S, s, z, h => by
    by_cases hd : d.p.data.toList = s
    · simp [findS, hd] at h
      refine ⟨S.length, by rw [nrS, if_pos hd], ?_⟩
      rw [cellsS, List.getElem?_append_right (by rw [cellsS_length]; exact Nat.le_refl _), cellsS_length, Nat.sub_self, ← h]
      rfl
    · have h' : findS S s = some z := by simpa [findS, hd] using h
      obtain ⟨k, h1, h2⟩ := find_some h'
      refine ⟨k, by rw [nrS, if_neg hd, h1], ?_⟩
      have := nrS_le S s
      rw [cellsS, List.getElem?_append_left (by rw [cellsS_length]; omega)]
      exact h2
/-- The scope as it lies in memory: S is open, the nearest first; and another block x, which holds O, is none of its own. -/
structure ScA (w : World) (B sb mb N x : Nat) (O : Obj) (S : List Dc) (v : Value) (D : DataW Unit) : Prop where
  c0 : w.cell? ⟨sb, 0, none⟩ = some v
  c1 : w.cell? ⟨sb, 1, none⟩ = some (.map (some mb))
  f0 : w.frozen? ⟨sb, 0, none⟩ = false
  own : w.ownsRow B 72 2 v S.length (cellsS S)
  map : w.ownsMap Tryd.prog 9 (plainElem Tryd.prog 3) mb N D
  look : ∀ s, D.atKey (.string s) (.lit (.int .i64 0)) = .lit (.int .i64 (nrS S s : Nat))
  ne : sb ≠ mb
  n1 : v.ownBlock ≠ some sb
  n2 : v.ownBlock ≠ some mb
  b1 : B ≤ sb
  b2 : B ≤ mb
  xs : x ≠ sb
  xm : x ≠ mb
  xv : v.ownBlock ≠ some x
  xk : w.heap[x]? = some O
def Sc (w : World) (B sb mb N x : Nat) (O : Obj) (S : List Dc) : Prop := ∃ v D, ScA w B sb mb N x O S v D
theorem ScA.lt {w : World} {B sb mb N x : Nat} {O : Obj} {S : List Dc} {v : Value} {D : DataW Unit} (h : ScA w B sb mb N x O S v D) : sb < w.heap.size := World.block_lt_of_cell? w ⟨sb, 0, none⟩ h.c0
theorem ownsRow_same {w w' : World} {B e k n : Nat} {v : Value} {xs : List Value} (h : w.ownsRow B e k v n xs) (hb : ∀ g, v.ownBlock = some g → w'.heap[g]? = w.heap[g]?) : w'.ownsRow B e k v n xs := by
  obtain ⟨hl, h | ⟨g, cap, cur, rfl, hg, hh, hr⟩⟩ := h
  · exact ⟨hl, .inl h⟩
  · exact ⟨hl, .inr ⟨g, cap, cur, rfl, hg, (hb g rfl).trans hh, hr⟩⟩
theorem ownsMap_same {w w' : World} {k b n : Nat} {R : Value → Option (DataW Unit × List MemPlace)} {D : DataW Unit} (h : w.ownsMap Tryd.prog k R b n D) (hb : w'.heap[b]? = w.heap[b]?) : w'.ownsMap Tryd.prog k R b n D := by
  obtain ⟨es, clock, h1, h2⟩ := h
  exact ⟨es, clock, hb.trans h1, h2⟩
theorem own_lt {w : World} {B e n : Nat} {v : Value} {xs : List Value} {k : Nat} (h : w.ownsRow B e k v n xs) {g : Nat} (hg : v.ownBlock = some g) : B ≤ g ∧ g < w.heap.size := by
  obtain ⟨hl, h | ⟨g', cap, cur, rfl, hb, hh, hr⟩⟩ := h
  · obtain ⟨rfl, _⟩ := h
    simp [Value.ownBlock] at hg
  · simp [Value.ownBlock] at hg
    subst hg
    refine ⟨hb, ?_⟩
    rcases Nat.lt_or_ge g' w.heap.size with hlt | hge
    · exact hlt
    · rw [Array.getElem?_eq_none hge] at hh; cases hh
theorem block_lt {w : World} {x : Nat} {O : Obj} (h : w.heap[x]? = some O) : x < w.heap.size := by
  rcases Nat.lt_or_ge x w.heap.size with hlt | hge
  · exact hlt
  · rw [Array.getElem?_eq_none hge] at h; cases h
/-- All stays where these blocks stay. -/
theorem ScA.same {w w' : World} {B sb mb N x : Nat} {O : Obj} {S : List Dc} {v : Value} {D : DataW Unit} (h : ScA w B sb mb N x O S v D) (hb : ∀ g, g < w.heap.size → w'.heap[g]? = w.heap[g]?) : ScA w' B sb mb N x O S v D :=
  ⟨(World.cell?_of_block (w := w) (hb _ h.lt)).trans h.c0, (World.cell?_of_block (w := w) (hb _ h.lt)).trans h.c1, (World.frozen?_of_block (w := w) (hb _ h.lt)).trans h.f0,
   ownsRow_same h.own (fun g hg => hb g (own_lt h.own hg).2), ownsMap_same h.map (hb _ h.map.lt), h.look, h.ne, h.n1, h.n2, h.b1, h.b2, h.xs, h.xm, h.xv, (hb _ (block_lt h.xk)).trans h.xk⟩
theorem ScA.later {w w' : World} {B sb mb N x : Nat} {O : Obj} {S : List Dc} {v : Value} {D : DataW Unit} (h : ScA w B sb mb N x O S v D) (hb : Below w.heap.size w w') : ScA w' B sb mb N x O S v D := h.same hb.block
theorem Sc.later {w w' : World} {B sb mb N x : Nat} {O : Obj} {S : List Dc} (h : Sc w B sb mb N x O S) (hb : Below w.heap.size w w') : Sc w' B sb mb N x O S := by
  obtain ⟨v, D, h⟩ := h
  exact ⟨v, D, h.later hb⟩
/-- Another block aside. -/
theorem Sc.aside {w : World} {B sb mb N x y : Nat} {O Q : Obj} {S : List Dc} (h : Sc w B sb mb N x O S) (h1 : y ≠ sb) (h2 : y ≠ mb) (h3 : ∀ v D, ScA w B sb mb N x O S v D → v.ownBlock ≠ some y) (h4 : w.heap[y]? = some Q) : Sc w B sb mb N y Q S := by
  obtain ⟨v, D, hA⟩ := h
  exact ⟨v, D, hA.c0, hA.c1, hA.f0, hA.own, hA.map, hA.look, hA.ne, hA.n1, hA.n2, hA.b1, hA.b2, h1, h2, h3 v D hA, h4⟩
theorem Sc.held {w : World} {B sb mb N x : Nat} {O : Obj} {S : List Dc} (h : Sc w B sb mb N x O S) : w.heap[x]? = some O := by
  obtain ⟨v, D, hA⟩ := h
  exact hA.xk
/-- One more. -/
theorem look_push {D : DataW Unit} {S : List Dc} (hD : IsMap D) (h : ∀ s, D.atKey (.string s) (.lit (.int .i64 0)) = .lit (.int .i64 (nrS S s : Nat))) (d : Dc) :
    ∀ s, (D.put (.string d.p.data.toList) (.lit (.int .i64 ((S.length + 1 : Nat) : Int)))).atKey (.string s) (.lit (.int .i64 0)) = .lit (.int .i64 (nrS (d :: S) s : Nat)) := fun s => by
  by_cases e : d.p.data.toList = s
  · rw [← e, atKey_put_same (k := .string d.p.data.toList) hD trivial, nrS, if_pos rfl]
  · rw [atKey_put_other (fun h' => e (by injection h' with h'; exact h'.symm)), h, nrS, if_neg e]
/-- One less. -/
theorem look_pop {D : DataW Unit} {S : List Dc} {d : Dc} (hD : IsMap D) (h : ∀ s, D.atKey (.string s) (.lit (.int .i64 0)) = .lit (.int .i64 (nrS (d :: S) s : Nat))) :
    ∀ s, (D.put (.string d.p.data.toList) (.lit (.int .i64 (nrS S d.p.data.toList : Nat)))).atKey (.string s) (.lit (.int .i64 0)) = .lit (.int .i64 (nrS S s : Nat)) := fun s => by
  by_cases e : d.p.data.toList = s
  · rw [← e, atKey_put_same (k := .string d.p.data.toList) hD trivial]
  · rw [atKey_put_other (fun h' => e (by injection h' with h'; exact h'.symm)), h, nrS, if_neg e]
/-- What is looked up. -/
theorem ScA.lookup {w : World} {B sb mb N x : Nat} {O : Obj} {S : List Dc} {v : Value} {D : DataW Unit} (h : ScA w B sb mb N x O S v D) (P : ByteArray) (hP : P.size ≤ 2000000) :
    (Instr.lookup 57 (.map (some mb)) (.string P) false).run Tryd.prog w = .ok (.int .i64 (nrS S P.data.toList : Nat)) w := by
  obtain ⟨c, hrun, hat, _⟩ := h.map.lookup_int lawS Tryd.underlying57 Tryd.underlying3 (zeroI w) (keyS P hP)
  rw [h.look] at hat
  simp at hat
  rw [hrun, hat]
theorem declInfo : (Tryd.prog.info? 72).map (fun i => (i.zero, i.size, i.bytes)) = some (some (.agg #[.string ⟨#[]⟩, .int .i64 0]), 2, 24) := by kernel_rfl
end Go.Proofs.YtalcmhngebobnaaDoor
