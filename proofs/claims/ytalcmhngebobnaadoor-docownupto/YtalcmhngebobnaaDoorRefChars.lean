/-
  The document's own answer for all characters of bytes. Conditions: the bytes lie where the slice says; there are not too many.
-/
import Derived.Test.YtalcmhngebobnaaDoorFirst
import Derived.Deep.LoopGhost
namespace Go.Proofs.YtalcmhngebobnaaDoor
open Go.RowKit
set_option linter.unusedVariables false
theorem runeInfo : (Tryd.prog.info? 21).map (fun i => (i.zero, i.size, i.bytes)) = some (some (.int .i32 0), 1, 4) := by kernel_rfl
/-- What is answered: the characters, or nothing and false. -/
def CharsAns (bs : List UInt8) (B : Nat) (e : Ending) (w' : World) : Prop :=
  (∃ l v, l.all chB = true ∧ bs = encBs l ∧ e = .returned (.tuple #[v, .bool true]) ∧ w'.ownsRow B 21 1 v l.length (i32s l)) ∨ (Lib.validD bs = false ∧ e = .returned (.tuple #[.slice none 0 0, .bool false]))
/-- What holds at each round's head. -/
def RC (w : World) (bs : List UInt8) (gk : Nat) (s0 s4 : Value) (wx : World) : Prop :=
  Below w.heap.size w wx ∧ ∃ (A : Option Addr) (cap : Nat) (ts : List UInt8) (dn : List Int), s0 = .slice A ts.length cap ∧ Lies wx w.heap.size A (u8c ts) ∧ ts.length ≤ cap ∧ cap ≤ 9223372036854775807 ∧
    dn.all chB = true ∧ bs = encBs dn ++ ts ∧ wx.ownsRow w.heap.size 21 1 s4 dn.length (i32s dn) ∧ ts.length < gk
theorem own_below {w w' : World} {B e n m : Nat} {v : Value} {xs : List Value} (h : w.ownsRow B e m v n xs) (hb : Below w.heap.size w w') : w'.ownsRow B e m v n xs := by
  obtain ⟨hl, h | ⟨g, cap, cur, rfl, hg, hh, hn, hc, hs, ht⟩⟩ := h
  · exact ⟨hl, .inl h⟩
  · refine ⟨hl, .inr ⟨g, cap, cur, rfl, hg, ?_, hn, hc, hs, ht⟩⟩
    have hlt : g < w.heap.size := by
      rcases Nat.lt_or_ge g w.heap.size with hlt | hge
      · exact hlt
      · rw [Array.getElem?_eq_none hge] at hh; cases hh
    rw [hb.block g hlt]
    exact hh
theorem encBs_long (l : List Int) : l.length ≤ (encBs l).length := by
  induction l with
  | nil => simp
  | cons r l ih =>
    have := encB_pos r
    rw [encBs_cons, List.length_append, List.length_cons]
    omega
theorem not_valid {bs ts : List UInt8} {dn : List Int} (hd : dn.all chB = true) (hb : bs = encBs dn ++ ts) (hn : ¬ Begins ts) (h0 : 0 < ts.length) : Lib.validD bs = false := by
  rw [hb, valid_encs dn hd]
  cases hv : Lib.validD ts with
  | false => rfl
  | true =>
    obtain ⟨l, hl, e⟩ := (valid_iff ts).1 hv
    match l, hl, e with
    | [], _, e => rw [e] at h0; simp [encBs] at h0
    | r :: l, hl, e =>
      rw [List.all_cons, Bool.and_eq_true] at hl
      exact absurd ⟨r, encBs l, hl.1, e⟩ hn
theorem rc_next {w wr w1 : World} {bs ts rest : List UInt8} {dn : List Int} {g cap b o n : Nat} {r : Int} {v v1 : Value} {O : Obj} {A : Option Addr} (hb : Below w.heap.size w wr) (hbB : b < w.heap.size) (hg : (wr.alloc O).grownBy w1 v.ownBlock)
    (hc : ∀ j (hj : j < ts.length), wr.cell? ⟨b, o + j, none⟩ = some (.int .u8 (ts[j].toNat : Int))) (hd : dn.all chB = true) (hbs : bs = encBs dn ++ ts) (hr : chB r = true) (hts : ts = encB r ++ rest)
    (hown : wr.ownsRow w.heap.size 21 1 v dn.length (i32s dn)) (h1 : w1.ownsRow w.heap.size 21 1 v1 (dn.length + 1) (i32s dn ++ [.int .i32 r])) (hk : (encB r).length = n) (hcap : ts.length ≤ cap) (hcm : cap ≤ 9223372036854775807)
    (hA : n < cap → A = some ⟨b, o + n, none⟩) (hgk : ts.length < g + 1) :
    RC w bs g (.slice A (ts.length - n) (cap - n)) v1 w1 := by
  have hbr : Below w.heap.size wr w1 := by
    refine ((Below.refl _ wr).alloc hb.size O).grown hg (by have := hb.size; simp; omega) ?_
    intro g' hg'
    exact ((own_form hown).choose_spec.choose_spec.2.2.2.2 g' hg').1
  have hbe : Below w.heap.size w w1 := hb.trans hbr
  have hl : ts.length = n + rest.length := by rw [hts, List.length_append, hk]
  have hp := encB_pos r
  have hdrop : ts.drop n = rest := by rw [hts, ← hk, List.drop_left]
  refine ⟨hbe, A, cap - n, rest, dn ++ [r], by rw [hl]; simp, ?_, by omega, by omega, by rw [List.all_append, hd]; simp [hr], by rw [hbs, hts, encBs_append]; simp [encBs], by rw [List.length_append]; simpa [i32s] using h1, by omega⟩
  intro hne
  have hrl : 0 < rest.length := by
    rcases Nat.eq_zero_or_pos rest.length with h | h
    · rw [List.eq_nil_of_length_eq_zero h] at hne; exact absurd rfl hne
    · exact h
  rw [hA (by omega)]
  have := cells_drop n hc
  rw [hdrop] at this
  exact (lies_of (w := wr) hbB this).below hbr hne
end Go.Proofs.YtalcmhngebobnaaDoor
