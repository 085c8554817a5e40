/-
  Nodes, declarations and attributes as plain things, and how they lie in memory. Conditions: none.
-/
import Derived.Test.YtalcmhngebobnaaDoorOwn
namespace Go.Proofs.YtalcmhngebobnaaDoor
open Go.RowKit
set_option linter.unusedVariables false
/-- A declaration. -/
structure Dc where
  p : ByteArray
  u : ByteArray
/-- An attribute. -/
structure At where
  p : ByteArray
  l : ByteArray
  u : ByteArray
  v : ByteArray
/-- A node. -/
structure Nd where
  k : Int
  n : Int
  p : ByteArray
  l : ByteArray
  u : ByteArray
  t : ByteArray
  ds : List Dc
  ats : List At
def dcC (d : Dc) : List Value := [.string d.p, .string d.u]
def atC (a : At) : List Value := [.string a.p, .string a.l, .string a.u, .string a.v]
/-- A slice of so many things, whose cells these are. -/
def SlAt (w : World) (B : Nat) (v : Value) (n : Nat) (xs : List Value) : Prop :=
  ∃ A cap, v = .slice A n cap ∧ n ≤ cap ∧ cap ≤ 9223372036854775807 ∧ Lies w B A xs
def DsAt (w : World) (B : Nat) (v : Value) (ds : List Dc) : Prop := SlAt w B v ds.length (ds.flatMap dcC)
def AsAt (w : World) (B : Nat) (v : Value) (as' : List At) : Prop := SlAt w B v as'.length (as'.flatMap atC)
/-- A node's cells. -/
def ndC (x : Nd) (vd va : Value) : List Value := [.int .i64 x.k, .int .i64 x.n, .string x.p, .string x.l, .string x.u, .string x.t, vd, va]
/-- A node as a value. -/
def NdV (w : World) (B : Nat) (v : Value) (x : Nd) : Prop :=
  ∃ vd va, v = .agg #[.int .i64 x.k, .int .i64 x.n, .string x.p, .string x.l, .string x.u, .string x.t, vd, va] ∧ DsAt w B vd x.ds ∧ AsAt w B va x.ats
/-- A node in memory. -/
def NdM (w : World) (B : Nat) (b o : Nat) (x : Nd) : Prop :=
  ∃ vd va, (∀ j (hj : j < 8), w.cell? ⟨b, o + j, none⟩ = some ((ndC x vd va)[j]'hj)) ∧ DsAt w B vd x.ds ∧ AsAt w B va x.ats
/-- A list of nodes. -/
def NsAt (w : World) (B : Nat) (v : Value) (l : List Nd) : Prop :=
  ∃ A cap, v = .slice A l.length cap ∧ l.length ≤ cap ∧ cap ≤ 9223372036854775807 ∧ (l ≠ [] → ∃ b o, A = some ⟨b, o, none⟩ ∧ b < B ∧ ∀ i (hi : i < l.length), NdM w B b (o + i * 8) l[i])
theorem SlAt.below {w w' : World} {B : Nat} {v : Value} {n : Nat} {xs : List Value} (h : SlAt w B v n xs) (hb : Below B w w') : SlAt w' B v n xs := by
  obtain ⟨A, cap, e, h1, h2, h3⟩ := h
  exact ⟨A, cap, e, h1, h2, h3.below hb⟩
theorem SlAt.mono {w : World} {B B' : Nat} {v : Value} {n : Nat} {xs : List Value} (h : SlAt w B v n xs) (hb : B ≤ B') : SlAt w B' v n xs := by
  obtain ⟨A, cap, e, h1, h2, h3⟩ := h
  exact ⟨A, cap, e, h1, h2, h3.mono hb⟩
theorem NdV.below {w w' : World} {B : Nat} {v : Value} {x : Nd} (h : NdV w B v x) (hb : Below B w w') : NdV w' B v x := by
  obtain ⟨vd, va, e, h1, h2⟩ := h
  exact ⟨vd, va, e, SlAt.below h1 hb, SlAt.below h2 hb⟩
theorem NdV.mono {w : World} {B B' : Nat} {v : Value} {x : Nd} (h : NdV w B v x) (hb : B ≤ B') : NdV w B' v x := by
  obtain ⟨vd, va, e, h1, h2⟩ := h
  exact ⟨vd, va, e, SlAt.mono h1 hb, SlAt.mono h2 hb⟩
theorem NdM.below {w w' : World} {B b o : Nat} {x : Nd} (hbB : b < B) (h : NdM w B b o x) (hb : Below B w w') : NdM w' B b o x := by
  obtain ⟨vd, va, e, h1, h2⟩ := h
  exact ⟨vd, va, fun j hj => (hb.cell (p := ⟨b, o + j, none⟩) hbB).trans (e j hj), SlAt.below h1 hb, SlAt.below h2 hb⟩
theorem NsAt.below {w w' : World} {B : Nat} {v : Value} {l : List Nd} (h : NsAt w B v l) (hb : Below B w w') : NsAt w' B v l := by
  obtain ⟨A, cap, e, h1, h2, h3⟩ := h
  refine ⟨A, cap, e, h1, h2, fun hl => ?_⟩
  obtain ⟨b, o, e', hbB, hi⟩ := h3 hl
  exact ⟨b, o, e', hbB, fun i h => (hi i h).below hbB hb⟩
theorem NsAt.mono {w : World} {B B' : Nat} {v : Value} {l : List Nd} (h : NsAt w B v l) (hb : B ≤ B') : NsAt w B' v l := by
  obtain ⟨A, cap, e, h1, h2, h3⟩ := h
  refine ⟨A, cap, e, h1, h2, fun hl => ?_⟩
  obtain ⟨b, o, e', hbB, hi⟩ := h3 hl
  refine ⟨b, o, e', by omega, fun i h => ?_⟩
  obtain ⟨vd, va, c, h1, h2⟩ := hi i h
  exact ⟨vd, va, c, SlAt.mono h1 hb, SlAt.mono h2 hb⟩
/-- What lies in w, lies so in all that comes later. -/
theorem SlAt.later {w w' : World} {v : Value} {n : Nat} {xs : List Value} (h : SlAt w w.heap.size v n xs) (hb : Below w.heap.size w w') : SlAt w' w'.heap.size v n xs := (h.below hb).mono hb.size
theorem NdV.later {w w' : World} {v : Value} {x : Nd} (h : NdV w w.heap.size v x) (hb : Below w.heap.size w w') : NdV w' w'.heap.size v x := (h.below hb).mono hb.size
theorem NsAt.later {w w' : World} {v : Value} {l : List Nd} (h : NsAt w w.heap.size v l) (hb : Below w.heap.size w w') : NsAt w' w'.heap.size v l := (h.below hb).mono hb.size
/-- A node's eight cells, one by one. -/
theorem NdM.cells {w : World} {B b o : Nat} {x : Nd} (h : NdM w B b o x) : ∃ vd va, w.cell? ⟨b, o, none⟩ = some (.int .i64 x.k) ∧ w.cell? ⟨b, o + 1, none⟩ = some (.int .i64 x.n) ∧ w.cell? ⟨b, o + 2, none⟩ = some (.string x.p) ∧
    w.cell? ⟨b, o + 3, none⟩ = some (.string x.l) ∧ w.cell? ⟨b, o + 4, none⟩ = some (.string x.u) ∧ w.cell? ⟨b, o + 5, none⟩ = some (.string x.t) ∧ w.cell? ⟨b, o + 6, none⟩ = some vd ∧ w.cell? ⟨b, o + 7, none⟩ = some va ∧ DsAt w B vd x.ds ∧ AsAt w B va x.ats := by
  obtain ⟨vd, va, c, h1, h2⟩ := h
  exact ⟨vd, va, c 0 (by omega), c 1 (by omega), c 2 (by omega), c 3 (by omega), c 4 (by omega), c 5 (by omega), c 6 (by omega), c 7 (by omega), h1, h2⟩
/-- The list's slice, where there is a node. -/
theorem NsAt.open {w : World} {B : Nat} {v : Value} {l : List Nd} (h : NsAt w B v l) (hl : l ≠ []) : ∃ b o cap, v = .slice (some ⟨b, o, none⟩) l.length cap ∧ l.length ≤ cap ∧ cap ≤ 9223372036854775807 ∧ b < B ∧ ∀ i (hi : i < l.length), NdM w B b (o + i * 8) l[i] := by
  obtain ⟨A, cap, e, h1, h2, h3⟩ := h
  obtain ⟨b, o, rfl, hbB, hi⟩ := h3 hl
  exact ⟨b, o, cap, e, h1, h2, hbB, hi⟩
theorem NsAt.slice {w : World} {B : Nat} {v : Value} {l : List Nd} (h : NsAt w B v l) : ∃ A cap, v = .slice A l.length cap ∧ l.length ≤ cap ∧ cap ≤ 9223372036854775807 := by
  obtain ⟨A, cap, e, h1, h2, _⟩ := h
  exact ⟨A, cap, e, h1, h2⟩
end Go.Proofs.YtalcmhngebobnaaDoor
