/-
  Blocks that are known whole, bytes and parts that lie in memory, bytes that a call gathers by append. Conditions: there are not too many.
-/
import Derived.Test.YthadagnebnakhaaProg
import Derived.ProofKit
import Derived.Below
import Derived.WalkKit
import Derived.WalkLawsBesides
import Derived.OwnWalk
import Derived.Lib.Hide
import Derived.Laws.Rows
import Derived.Laws.AppendOwn
import Derived.Laws.AppendOwnNone
import Derived.Laws.OwnMore
import Derived.Laws.IdiomStrings
import Derived.Laws.BitsLemmas
import Derived.Laws.BitsAllLaws
import Derived.Laws.Shifts
import Derived.Deep.Draws
import Derived.Deep.QuietTactic
import Derived.BigQuiet
import Derived.Deep.MidRow
import Derived.Deep.WholeRow
namespace Go.Proofs.Ythadagnebnakhaa
open Go.RowKit
set_option linter.unusedVariables false
/-- A byte's number. -/
def v8 (b : UInt8) : Int := (b.toNat : Int)
theorem v8_lo (x : UInt8) : 0 ≤ v8 x := by unfold v8; omega
theorem v8_hi (x : UInt8) : v8 x < 256 := by unfold v8; have := x.toNat_lt; omega
theorem v8_inj {x y : UInt8} : v8 x = v8 y ↔ x = y := by
  unfold v8
  rw [← UInt8.toNat_inj]; omega
/-- The cells of bytes. -/
def u8c (l : List UInt8) : List Value := l.map fun b => .int .u8 (v8 b)
theorem u8c_length (l : List UInt8) : (u8c l).length = l.length := by simp [u8c]
theorem u8c_one (l : List UInt8) : (u8c l).toArray.all (·.oneCell') = true := by simp [u8c, Value.oneCell']
theorem u8c_append (a b : List UInt8) : u8c (a ++ b) = u8c a ++ u8c b := by simp [u8c]
theorem u8c_at {l : List UInt8} {i : Nat} (h : i < l.length) : (u8c l)[i]? = some (.int .u8 (v8 (l.getD i 0))) := by
  simp [u8c, List.getElem?_map, List.getElem?_eq_getElem h, List.getD_eq_getElem?_getD]
/-- Block g is just these cells, and none is frozen. -/
def Holds (w : World) (g : Nat) (t : TypeId) (l : List Value) : Prop := w.heap[g]? = some (.cells l.toArray t (0, 0))
section
variable {w w' : World} {g : Nat} {t : TypeId} {l : List Value}
theorem Holds.lt (h : Holds w g t l) : g < w.heap.size := by
  rcases Nat.lt_or_ge g w.heap.size with hlt | hge
  · exact hlt
  · unfold Holds at h; rw [Array.getElem?_eq_none hge] at h; cases h
theorem Holds.cell (h : Holds w g t l) (i : Nat) : w.cell? ⟨g, i, none⟩ = l[i]? := by
  rw [cell_of_row w g i _ t (0, 0) h, List.getElem?_toArray]
theorem Holds.soft (h : Holds w g t l) (i : Nat) : w.frozen? ⟨g, i, none⟩ = false := frozen_of_row w g i _ t h
theorem Holds.fresh (w : World) (t : TypeId) (l : List Value) : Holds (w.alloc (.cells l.toArray t)) w.heap.size t l := heap_alloc_new w _
theorem Holds.alloc (h : Holds w g t l) (o : Obj) : Holds (w.alloc o) g t l := (Below.heap_alloc _ _ _ h.lt).trans h
theorem Holds.put (h : Holds w g t l) (i : Nat) (v : Value) : Holds (w.setCell ⟨g, i, none⟩ v) g t (l.set i v) := by
  unfold Holds
  rw [heap_setCell_same w g i _ t v h, List.setIfInBounds_toArray]
theorem Holds.far (h : Holds w g t l) {p : Addr} (hp : g ≠ p.block) (v : Value) : Holds (w.setCell p v) g t l := (heap_setCell_other w p g v hp).trans h
theorem Holds.row (h : Holds w g t l) (m : List Value) : Holds (w.setRow g m.toArray) g t m := setRow_heap w g _ _ t _ h
theorem Holds.rowFar (h : Holds w g t l) {r : Nat} (hr : g ≠ r) (m : Array Value) : Holds (w.setRow r m) g t l := (setRow_other w r g m hr).trans h
theorem Holds.drewN (h : Holds w g t l) (n : Nat) : Holds (w.drewN n) g t l := h
theorem Holds.drew (h : Holds w g t l) : Holds w.drew g t l := h
theorem Holds.below {B : Nat} (h : Holds w g t l) (hb : Below B w w') (hg : g < B) : Holds w' g t l := (hb.block g hg).trans h
theorem Holds.grown {r : Option Nat} (h : Holds w g t l) (hb : w.grownBy w' r) (hg : some g ≠ r) : Holds w' g t l := (hb.block g h.lt hg).trans h
end
section
variable {a w w' : World} {g : Nat}
theorem one_refl (w : World) (r : Option Nat) : w.grownBy w r := ⟨rfl, rfl, rfl, Nat.le_refl _, fun _ _ _ => rfl⟩
theorem one_alloc {r : Option Nat} (h : a.grownBy w r) (o : Obj) : a.grownBy (w.alloc o) r :=
  ⟨h.os, h.tape, h.output, Nat.le_trans h.size (by simp), fun i hi hn => (Below.heap_alloc _ _ _ (Nat.lt_of_lt_of_le hi h.size)).trans (h.block i hi hn)⟩
theorem one_put (h : a.grownBy w (some g)) {p : Addr} (hp : p.block = g ∨ a.heap.size ≤ p.block) (v : Value) : a.grownBy (w.setCell p v) (some g) :=
  ⟨h.os, h.tape, h.output, by simpa [World.setCell] using h.size, fun i hi hn => (heap_setCell_other w p i v (by
    rintro rfl
    rcases hp with hp | hp
    · exact hn (by rw [hp])
    · omega)).trans (h.block i hi hn)⟩
theorem one_row (h : a.grownBy w (some g)) {r : Nat} (hp : r = g ∨ a.heap.size ≤ r) (m : Array Value) : a.grownBy (w.setRow r m) (some g) :=
  ⟨h.os, h.tape, h.output, by simpa using h.size, fun i hi hn => (setRow_other w r i m (by
    rintro rfl
    rcases hp with hp | hp
    · exact hn (by rw [hp])
    · omega)).trans (h.block i hi hn)⟩
theorem below_row {B r : Nat} (h : Below B a w) (hB : B ≤ r) (m : Array Value) : Below B a (w.setRow r m) :=
  h.trans ⟨rfl, rfl, rfl, by simp, fun i hi => setRow_other w r i m (by omega)⟩
theorem one_drewN {r : Option Nat} (h : a.grownBy w r) (n : Nat) : a.grownBy (w.drewN n) r := ⟨h.os, h.tape, h.output, h.size, h.block⟩
theorem one_below {r : Option Nat} (h : a.grownBy w r) (hb : Below w.heap.size w w') : a.grownBy w' r :=
  ⟨hb.os.trans h.os, hb.tape.trans h.tape, hb.output.trans h.output, Nat.le_trans h.size hb.size, fun i hi hn => (hb.block i (Nat.lt_of_lt_of_le hi h.size)).trans (h.block i hi hn)⟩
theorem one_trans {r : Option Nat} (h : a.grownBy w r) (hb : w.grownBy w' r) : a.grownBy w' r :=
  ⟨hb.os.trans h.os, hb.tape.trans h.tape, hb.output.trans h.output, Nat.le_trans h.size hb.size, fun i hi hn => (hb.block i (Nat.lt_of_lt_of_le hi h.size) hn).trans (h.block i hi hn)⟩
theorem below_one {B : Nat} (h : w.grownBy w' (some g)) (hB : B ≤ g) (hs : B ≤ w.heap.size) : Below B w w' :=
  ⟨h.os, h.tape, h.output, h.size, fun i hi => h.block i (by omega) (fun e => by injection e; omega)⟩
theorem below_drewN {B : Nat} (h : Below B a w) (n : Nat) : Below B a (w.drewN n) := ⟨h.os, h.tape, h.output, h.size, h.block⟩
end
theorem range_keep {w w' : World} {b o : Nat} {cs : List Value} (h : w.rangeAt b o cs) (hb : w'.heap[b]? = w.heap[b]?) : w'.rangeAt b o cs := fun j v hv => by
  have := h j v hv
  rw [← this]
  exact World.cell?_of_block hb
theorem Addr_add_none (b o j : Nat) : (⟨b, o, none⟩ : Addr).add j = ⟨b, o + j, none⟩ := by unfold Addr.add; split <;> simp_all
theorem byteInfo : (Try.prog.info? 5).map (fun i => (i.zero, i.size, i.bytes)) = some (some (.int .u8 0), 1, 1) := by kernel_rfl
/-- These bytes lie there (where there are any). -/
def Lies (w : World) (A : Option Addr) (l : List UInt8) : Prop := l ≠ [] → ∃ b o, A = some ⟨b, o, none⟩ ∧ b < w.heap.size ∧ w.rangeAt b o (u8c l)
theorem Lies.below {w w' : World} {A : Option Addr} {l : List UInt8} {B : Nat} (h : Lies w A l) (hb : Below B w w') (hB : w.heap.size ≤ B) : Lies w' A l := fun hl => by
  obtain ⟨b, o, e, hlt, hr⟩ := h hl
  exact ⟨b, o, e, Nat.lt_of_lt_of_le hlt hb.size, range_keep hr (hb.block b (by omega))⟩
/-- A part: where it lies, its bytes, its room. -/
structure Part where
  at_ : Option Addr
  l : List UInt8
  cap : Nat
def Part.val (p : Part) : Value := .slice p.at_ p.l.length p.cap
def Part.lies (w : World) (p : Part) : Prop := p.l.length ≤ p.cap ∧ p.cap ≤ 9223372036854775807 ∧ (p.l ≠ [] → ∃ b o, p.at_ = some ⟨b, o, none⟩ ∧ b < w.heap.size ∧ w.rangeAt b o (u8c p.l))
/-- All bytes of parts. -/
def allOf (ps : List Part) : List UInt8 := ps.flatMap (·.l)
def PartsAt (w : World) (A : Option Addr) (ps : List Part) : Prop := ps ≠ [] → ∃ b o, A = some ⟨b, o, none⟩ ∧ b < w.heap.size ∧ w.rangeAt b o (ps.map Part.val)
theorem Part.lies.later {w w' : World} {p : Part} (h : p.lies w) (hb : Below w.heap.size w w') : p.lies w' := ⟨h.1, h.2.1, fun hl => by
  obtain ⟨b, o, e, hlt, hr⟩ := h.2.2 hl
  exact ⟨b, o, e, Nat.lt_of_lt_of_le hlt hb.size, range_keep hr (hb.block b hlt)⟩⟩
theorem own_ge {w : World} {B e n : Nat} {v : Value} {xs : List Value} (h : w.ownsRow B e 1 v n xs) (g : Nat) (hg : v.ownBlock = some g) : B ≤ g := by
  obtain ⟨_, h | ⟨g', cap, cur, rfl, hg', _⟩⟩ := h
  · obtain ⟨rfl, _⟩ := h
    simp [Value.ownBlock] at hg
  · simp [Value.ownBlock] at hg; omega
/-- What such a slice looks like. -/
theorem own_form {w : World} {B e n : Nat} {v : Value} {l : List UInt8} (h : w.ownsRow B e 1 v n (u8c l)) :
    ∃ A cap, v = .slice A n cap ∧ n ≤ cap ∧ cap ≤ 9223372036854775807 ∧ (A = none → cap = 0) ∧ (l ≠ [] → ∃ b o, A = some ⟨b, o, none⟩ ∧ B ≤ b ∧ b < w.heap.size ∧ w.rangeAt b o (u8c l)) := by
  obtain ⟨hl, h | ⟨g, cap, cur, rfl, hg, hh, hn, hc, hs, ht⟩⟩ := h
  · obtain ⟨rfl, rfl⟩ := h
    refine ⟨none, 0, rfl, Nat.le_refl _, by omega, fun _ => rfl, fun hne => ?_⟩
    rw [u8c_length] at hl
    exact absurd (List.eq_nil_of_length_eq_zero (by simpa using hl)) hne
  · have hlt : g < w.heap.size := by
      rcases Nat.lt_or_ge g w.heap.size with hlt | hge
      · exact hlt
      · rw [Array.getElem?_eq_none hge] at hh; cases hh
    refine ⟨some ⟨g, 0, none⟩, cap, rfl, hn, by unfold maxLen at hc; exact hc, (fun h => by cases h), fun _ => ⟨g, 0, rfl, hg, hlt, fun j v hv => ?_⟩⟩
    rw [Nat.zero_add, cell_of_row w g j cur e (0, 0) hh, ← hv, ← ht]
    have hj : j < n := by
      have := (List.getElem?_eq_some_iff.1 hv).1
      omega
    rw [Nat.mul_one, List.getElem?_take_of_lt hj, Array.getElem?_toList]
theorem conv_at {w : World} {b o : Nat} {bs : List UInt8} (c : Nat) (h : w.rangeAt b o (u8c bs)) : (convert 22 9 (.slice (some ⟨b, o, none⟩) bs.length c)).run Try.prog w = .ok (.string ⟨bs.toArray⟩) w :=
  run_convert_bytes_back w 22 9 5 ⟨b, o, none⟩ c bs Try.underlying22 Try.underlying5 Try.underlying9 (fun j hj => by
    have e : (⟨b, o, none⟩ : Addr).add j = ⟨b, o + j, none⟩ := by unfold Addr.add; split <;> simp_all
    rw [e, h j _ (u8c_at hj)]
    simp [v8, List.getD_eq_getElem?_getD, List.getElem?_eq_getElem hj])
/-- append of bytes that lie at any address, as an operation. -/
theorem app_wp {w : World} {o : Oper} {a : Act} {K : Act → World → Prop} {Q : Exit → Act → World → Prop} (s x : Operand)
    (ho : o.op = .call { callee := .builtin .append, args := #[s, x], argTypes := #[22, 22] }) (B : Nat) (l : List UInt8) (v : Value) (hs : a.eval s = v) (hown : w.ownsRow B 5 1 v l.length (u8c l)) (hB : B ≤ w.heap.size)
    (A : Option Addr) (m c : Nat) (y : List UInt8) (hx : a.eval x = .slice A m c) (hm : y.length = m) (hA : A = none → c = 0) (hl : Lies w A y) (hn : l.length + m ≤ 1000000000000)
    (h : ∀ v' w', w'.ownsRow B 5 1 v' (l ++ y).length (u8c (l ++ y)) → w.grownBy w' v.ownBlock → K (a.put o.dst v') w') : o.wp Try.prog a w K Q := by
  obtain ⟨i0, hi, hz0, hz1, hz2⟩ := info_parts byteInfo
  by_cases hy : y = []
  · subst hy
    obtain rfl : m = 0 := by simpa using hm.symm
    cases A with
    | none =>
      rw [hA rfl] at hx
      have hrun := run_append_owned_none (P := Try.prog) (w := w) B 22 o.type 5 i0 1 Try.underlying22 hi v l.length (u8c l) hown
      unfold Oper.wp
      simp [execOp, ho, resolve, invoke, builtin, hs, hx, hrun, Result.andThen]
      exact h v w (by simpa using hown) (one_refl w _)
    | some ad =>
      refine wp_append_own w s x 22 ho B 5 i0 (.int .u8 0) 1 1 Try.underlying22 hi hz0 hz1 hz2 rfl (by omega) v l.length (u8c l) hs hown ad 0 c [] hx (by simp) (fun j u hu => by simp at hu) (fun u hu => by cases hu) (by unfold maxLen; omega) (by omega) hB fun v' w' h2 h3 _ => h v' w' (by simpa using h2) h3
  · obtain ⟨b, o', rfl, _, hr⟩ := hl hy
    refine wp_append_own w s x 22 ho B 5 i0 (.int .u8 0) 1 1 Try.underlying22 hi hz0 hz1 hz2 rfl (by omega) v l.length (u8c l) hs hown ⟨b, o', none⟩ m c (u8c y) hx (by rw [u8c_length, hm]; omega) (fun j u hu => by rw [Addr_add_none]; exact hr j u hu) (fun u hu => by simp [u8c] at hu; obtain ⟨z, _, rfl⟩ := hu; rfl) (by unfold maxLen; omega) (by omega) hB fun v' w' h2 h3 _ => h v' w' ?_ h3
    rw [List.length_append, hm, u8c_append]; exact h2
theorem app_list {w : World} {ops : Array Oper} {rest : List Oper} {o : Oper} {a : Act} {Q : Exit → Act → World → Prop} (hgd : o.guard = none) (s x : Operand)
    (ho : o.op = .call { callee := .builtin .append, args := #[s, x], argTypes := #[22, 22] }) (B : Nat) (l : List UInt8) (v : Value) (hs : a.eval s = v) (hown : w.ownsRow B 5 1 v l.length (u8c l)) (hB : B ≤ w.heap.size)
    (A : Option Addr) (m c : Nat) (y : List UInt8) (hx : a.eval x = .slice A m c) (hm : y.length = m) (hA : A = none → c = 0) (hl : Lies w A y) (hn : l.length + m ≤ 1000000000000)
    (h : ∀ v' w', w'.ownsRow B 5 1 v' (l ++ y).length (u8c (l ++ y)) → w.grownBy w' v.ownBlock → wpList Try.prog ops Q rest (a.put o.dst v') w') : wpList Try.prog ops Q (o :: rest) a w :=
  wpList_plain hgd fun _ hK => app_wp s x ho B l v hs hown hB A m c y hx hm hA hl hn fun v' w' h2 h3 => hK _ _ (h v' w' h2 h3)
/-- A slice that has just been laid is the call's own. -/
theorem own_new (w : World) (l : List UInt8) (hl : l.length ≤ 1000) : (w.alloc (.cells (u8c l).toArray 5)).ownsRow w.heap.size 5 1 (.slice (some ⟨w.heap.size, 0, none⟩) l.length l.length) l.length (u8c l) := by
  refine ⟨by rw [u8c_length]; omega, .inr ⟨w.heap.size, l.length, (u8c l).toArray, rfl, Nat.le_refl _, heap_alloc_last _ _, Nat.le_refl _, ?_, ?_, ?_⟩⟩
  · unfold maxLen; omega
  · rw [List.size_toArray, u8c_length, Nat.mul_one]
  · rw [Nat.mul_one, List.take_of_length_le (by rw [u8c_length]; exact Nat.le_refl _)]
/-- What the call's own bytes look like to others. -/
theorem own_lies {w : World} {B n : Nat} {v : Value} {l : List UInt8} (h : w.ownsRow B 5 1 v n (u8c l)) : ∃ A cap, v = .slice A l.length cap ∧ l.length ≤ cap ∧ cap ≤ 9223372036854775807 ∧ (A = none → cap = 0) ∧ Lies w A l := by
  obtain ⟨A, cap, rfl, h1, h2, h3, h4⟩ := own_form h
  have hn : l.length = n := by have := h.1; rwa [u8c_length, Nat.mul_one] at this
  rw [hn]
  refine ⟨A, cap, rfl, h1, h2, h3, fun hl => ?_⟩
  obtain ⟨b, o, e, _, hlt, hr⟩ := h4 hl
  exact ⟨b, o, e, hlt, hr⟩
theorem own_at {w : World} {B n k : Nat} {v : Value} {l : List UInt8} (h : w.ownsRow B 5 1 v n (u8c l)) (hk : l.length = k) : ∃ A cap, v = .slice A k cap ∧ Lies w A l := by
  obtain ⟨A, cap, e, _, _, _, hl⟩ := own_lies h
  exact ⟨A, cap, by rw [e, hk], hl⟩
theorem own_full {w : World} {B n k : Nat} {v : Value} {l : List UInt8} (h : w.ownsRow B 5 1 v n (u8c l)) (hk : l.length = k) : ∃ A cap, v = .slice A k cap ∧ k ≤ cap ∧ cap ≤ 9223372036854775807 ∧ (A = none → cap = 0) ∧ Lies w A l := by
  obtain ⟨A, cap, e, h1, h2, h3, hl⟩ := own_lies h
  exact ⟨A, cap, by rw [e, hk], by omega, h2, h3, hl⟩
theorem below_own {B n : Nat} {w w' : World} {v : Value} {xs : List Value} (h : w.ownsRow B 5 1 v n xs) (hg : w.grownBy w' v.ownBlock) (hB : B ≤ w.heap.size) : Below B w w' :=
  ⟨hg.os, hg.tape, hg.output, hg.size, fun i hi => hg.block i (by omega) (fun e => by have := own_ge h i e.symm; omega)⟩
theorem conv_lies {w : World} {A : Option Addr} {bs : List UInt8} (c : Nat) (h : Lies w A bs) : (convert 22 9 (.slice A bs.length c)).run Try.prog w = .ok (.string ⟨bs.toArray⟩) w := by
  by_cases hb : bs = []
  · subst hb
    rw [run_convert_bytes_string w 22 9 5 _ _ c Try.underlying22 Try.underlying5 Try.underlying9]
    cases A <;> simp [Conv.bytesToString, loadCells]
    all_goals rfl
  · obtain ⟨b, o, rfl, _, hr⟩ := h hb
    exact conv_at c hr
end Go.Proofs.Ythadagnebnakhaa
