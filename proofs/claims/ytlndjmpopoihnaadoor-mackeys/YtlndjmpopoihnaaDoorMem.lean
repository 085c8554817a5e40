/-
  Blocks that are known whole, and what becomes of them; lists of cells. Conditions: none.
-/
import Derived.Test.YtlndjmpopoihnaaDoorWord
import Derived.Below
import Derived.Laws.Rows
import Derived.Laws.AppendOwn
import Derived.Laws.OwnMore
import Derived.Deep.Draws
namespace Go.Proofs.YtlndjmpopoihnaaDoor
open Go.RowKit
/-- The cells of bytes. -/
def u8c (l : List UInt8) : List Value := l.map fun b => .int .u8 (v8 b)
/-- The cells of words. -/
def u32c (l : List UInt32) : List Value := l.map fun x => .int .u32 (u x)
theorem u8c_length (l : List UInt8) : (u8c l).length = l.length := by simp [u8c]
theorem u32c_length (l : List UInt32) : (u32c l).length = l.length := by simp [u32c]
theorem u8c_one (l : List UInt8) : (u8c l).toArray.all (·.oneCell') = true := by simp [u8c, Value.oneCell']
theorem u32c_one (l : List UInt32) : (u32c l).toArray.all (·.oneCell') = true := by simp [u32c, Value.oneCell']
theorem u8c_append (a b : List UInt8) : u8c (a ++ b) = u8c a ++ u8c b := by simp [u8c]
theorem u32c_append (a b : List UInt32) : u32c (a ++ b) = u32c a ++ u32c b := by simp [u32c]
theorem u8c_at {l : List UInt8} {i : Nat} (h : i < l.length) : (u8c l)[i]? = some (.int .u8 (v8 (l.getD i 0))) := by
  simp [u8c, List.getElem?_map, List.getElem?_eq_getElem h, List.getD_eq_getElem?_getD]
theorem u32c_at {l : List UInt32} {i : Nat} (h : i < l.length) : (u32c l)[i]? = some (.int .u32 (u (l.getD i 0))) := by
  simp [u32c, List.getElem?_map, List.getElem?_eq_getElem h, List.getD_eq_getElem?_getD]
/-- Block g is just these cells, and none is frozen. -/
def Holds (w : World) (g : Nat) (t : TypeId) (l : List Value) : Prop := w.heap[g]? = some (.cells l.toArray t (0, 0))
section
variable {w w' : World} {g : Nat} {t : TypeId} {l : List Value}
theorem Holds.lt (h : Holds w g t l) : g < w.heap.size := by
  rcases Nat.lt_or_ge g w.heap.size with hlt | hge
  · exact hlt
  · unfold Holds at h; rw [Array.getElem?_eq_none hge] at h; cases h
theorem Holds.cell (h : Holds w g t l) (i : Nat) : w.cell? ⟨g, i, none⟩ = l[i]? := by
  rw [cell_of_row w g i _ t (0, 0) h, List.getElem?_toArray]
theorem Holds.soft (h : Holds w g t l) (i : Nat) : w.frozen? ⟨g, i, none⟩ = false := frozen_of_row w g i _ t h
theorem Holds.fresh (w : World) (t : TypeId) (l : List Value) : Holds (w.alloc (.cells l.toArray t)) w.heap.size t l := heap_alloc_new w _
theorem Holds.alloc (h : Holds w g t l) (o : Obj) : Holds (w.alloc o) g t l := (heap_alloc_old w o g h.lt).trans h
theorem Holds.put (h : Holds w g t l) (i : Nat) (v : Value) : Holds (w.setCell ⟨g, i, none⟩ v) g t (l.set i v) := by
  unfold Holds
  rw [heap_setCell_same w g i _ t v h, List.setIfInBounds_toArray]
theorem Holds.far (h : Holds w g t l) {p : Addr} (hp : g ≠ p.block) (v : Value) : Holds (w.setCell p v) g t l := (heap_setCell_other w p g v hp).trans h
theorem Holds.row (h : Holds w g t l) (m : List Value) : Holds (w.setRow g m.toArray) g t m := setRow_heap w g _ _ t _ h
theorem Holds.rowFar (h : Holds w g t l) {r : Nat} (hr : g ≠ r) (m : Array Value) : Holds (w.setRow r m) g t l := (setRow_other w r g m hr).trans h
theorem Holds.drewN (h : Holds w g t l) (n : Nat) : Holds (w.drewN n) g t l := h
theorem Holds.drew (h : Holds w g t l) : Holds w.drew g t l := h
theorem Holds.below {B : Nat} (h : Holds w g t l) (hb : Below B w w') (hg : g < B) : Holds w' g t l := (hb.block g hg).trans h
theorem Holds.grown {r : Option Nat} (h : Holds w g t l) (hb : w.grownBy w' r) (hg : some g ≠ r) : Holds w' g t l := (hb.block g h.lt hg).trans h
end
section
variable {a w w' : World} {g : Nat}
theorem one_refl (w : World) (r : Option Nat) : w.grownBy w r := ⟨rfl, rfl, rfl, Nat.le_refl _, fun _ _ _ => rfl⟩
theorem one_alloc {r : Option Nat} (h : a.grownBy w r) (o : Obj) : a.grownBy (w.alloc o) r :=
  ⟨h.os, h.tape, h.output, Nat.le_trans h.size (by simp), fun i hi hn => (heap_alloc_old w o i (Nat.lt_of_lt_of_le hi h.size)).trans (h.block i hi hn)⟩
theorem one_put (h : a.grownBy w (some g)) {p : Addr} (hp : p.block = g ∨ a.heap.size ≤ p.block) (v : Value) : a.grownBy (w.setCell p v) (some g) :=
  ⟨h.os, h.tape, h.output, by simpa [World.setCell] using h.size, fun i hi hn => (heap_setCell_other w p i v (by
    rintro rfl
    rcases hp with hp | hp
    · exact hn (by rw [hp])
    · omega)).trans (h.block i hi hn)⟩
theorem one_row (h : a.grownBy w (some g)) {r : Nat} (hp : r = g ∨ a.heap.size ≤ r) (m : Array Value) : a.grownBy (w.setRow r m) (some g) :=
  ⟨h.os, h.tape, h.output, by simpa using h.size, fun i hi hn => (setRow_other w r i m (by
    rintro rfl
    rcases hp with hp | hp
    · exact hn (by rw [hp])
    · omega)).trans (h.block i hi hn)⟩
theorem below_row {B r : Nat} (h : Below B a w) (hB : B ≤ r) (m : Array Value) : Below B a (w.setRow r m) :=
  h.trans ⟨rfl, rfl, rfl, by simp, fun i hi => setRow_other w r i m (by omega)⟩
theorem one_drewN {r : Option Nat} (h : a.grownBy w r) (n : Nat) : a.grownBy (w.drewN n) r := ⟨h.os, h.tape, h.output, h.size, h.block⟩
theorem one_below {r : Option Nat} (h : a.grownBy w r) (hb : Below w.heap.size w w') : a.grownBy w' r :=
  ⟨hb.os.trans h.os, hb.tape.trans h.tape, hb.output.trans h.output, Nat.le_trans h.size hb.size, fun i hi hn => (hb.block i (Nat.lt_of_lt_of_le hi h.size)).trans (h.block i hi hn)⟩
theorem one_trans {r : Option Nat} (h : a.grownBy w r) (hb : w.grownBy w' r) : a.grownBy w' r :=
  ⟨hb.os.trans h.os, hb.tape.trans h.tape, hb.output.trans h.output, Nat.le_trans h.size hb.size, fun i hi hn => (hb.block i (Nat.lt_of_lt_of_le hi h.size) hn).trans (h.block i hi hn)⟩
theorem below_one {B : Nat} (h : w.grownBy w' (some g)) (hB : B ≤ g) (hs : B ≤ w.heap.size) : Below B w w' :=
  ⟨h.os, h.tape, h.output, h.size, fun i hi => h.block i (by omega) (fun e => by injection e; omega)⟩
theorem below_drewN {B : Nat} (h : Below B a w) (n : Nat) : Below B a (w.drewN n) := ⟨h.os, h.tape, h.output, h.size, h.block⟩
end
theorem index_agg {P : Program} {t e : TypeId} {n : Nat} (ht : P.underlying t = some (.array n e)) (ha : ∀ w, (isAgg e).run P w = .ok false w) (hs : ∀ w, (sizeOf e).run P w = .ok 1 w) {cs : Array Value} {i : Nat} {v : Value} (hi : i < n) (hv : cs[i]? = some v) (w : World) :
    (Instr.index t (.agg cs) (.int .i64 (i : Int))).run P w = .ok v w := by
  have h0 : (0 : Int) ≤ (i : Int) ∧ (i : Int) < (n : Int) := by omega
  simp [Instr.index, asIntOf, run_underlying ht, part, ha, hs, hv, h0]
  intro h; omega
theorem take_set {α : Type} (l : List α) (k : Nat) (v : α) (h : k < l.length) : (l.set k v).take (k + 1) = l.take k ++ [v] := by
  rw [List.take_succ_eq_append_getElem (by simpa using h), List.take_set_of_le (Nat.le_refl _)]
  simp
end Go.Proofs.YtlndjmpopoihnaaDoor
