/-
  A row of bytes that a call owns, read as bytes; bytes turned into a string. Conditions: none.
-/
import Derived.Test.YtalcmhngebobnaaDoorEnc
import Derived.Test.YtalcmhngebobnaaDoorValidParts
import Derived.Laws.IdiomStrings
namespace Go.Proofs.YtalcmhngebobnaaDoor
open Go.RowKit
theorem u8s_enc {r : Int} (h : chB r = true) : u8s (encZ r) = u8c (encB r) := by
  unfold u8s u8c encB
  rw [List.map_map]
  apply List.map_congr_left
  intro x hx
  obtain ⟨h0, h1⟩ := encZ_byte h x hx
  simp only [Function.comp]
  rw [byte_of h0 h1, Int.toNat_of_nonneg h0]
theorem u8c_append (a b : List UInt8) : u8c (a ++ b) = u8c a ++ u8c b := by simp [u8c]
theorem u8s_encs : ∀ {l : List Int}, l.all chB = true → u8s (encs l) = u8c (encBs l)
  | [], _ => rfl
  | r :: l, h => by
    rw [List.all_cons, Bool.and_eq_true] at h
    have e1 : encs (r :: l) = encZ r ++ encs l := by simp [encs]
    rw [e1, encBs_cons, u8s_append, u8c_append, u8s_enc h.1, u8s_encs h.2]
theorem encs_length (l : List Int) : (encs l).length = (encBs l).length := by
  induction l with
  | nil => rfl
  | cons r l ih =>
    have e1 : encs (r :: l) = encZ r ++ encs l := by simp [encs]
    rw [e1, encBs_cons, List.length_append, List.length_append, ih, encB_length]
theorem own_form {w : World} {B e n : Nat} {v : Value} {xs : List Value} (h : w.ownsRow B e 1 v n xs) :
    ∃ A cap, v = .slice A n cap ∧ n ≤ cap ∧ cap ≤ 9223372036854775807 ∧ Lies w w.heap.size A xs ∧ (∀ g, v.ownBlock = some g → B ≤ g ∧ g < w.heap.size) := by
  obtain ⟨hl, h | ⟨g, cap, cur, rfl, hg, hh, hn, hc, hs, ht⟩⟩ := h
  · obtain ⟨rfl, rfl⟩ := h
    refine ⟨none, 0, rfl, Nat.le_refl _, by omega, fun hne => ?_, fun g hg => by simp [Value.ownBlock] at hg⟩
    exact absurd (List.eq_nil_of_length_eq_zero (by simpa using hl)) hne
  · have hlt : g < w.heap.size := by
      rcases Nat.lt_or_ge g w.heap.size with hlt | hge
      · exact hlt
      · rw [Array.getElem?_eq_none hge] at hh; cases hh
    refine ⟨some ⟨g, 0, none⟩, cap, rfl, hn, by unfold maxLen at hc; exact hc, fun _ => ⟨g, 0, rfl, hlt, fun j hj => ?_⟩, fun g' hg' => by simp [Value.ownBlock] at hg'; omega⟩
    rw [Nat.zero_add, cell_of_row w g j cur e (0, 0) hh]
    have : cur.toList[j]? = xs[j]? := by
      rw [← ht, List.getElem?_take_of_lt (by rw [hl] at hj; exact hj)]
    rw [Array.getElem?_toList] at this
    rw [this, List.getElem?_eq_getElem hj]
theorem conv_lies {w : World} {B : Nat} {A : Option Addr} {bs : List UInt8} (c : Nat) (h : Lies w B A (u8c bs)) : (convert 67 9 (.slice A bs.length c)).run Tryd.prog w = .ok (.string ⟨bs.toArray⟩) w := by
  rcases Nat.eq_zero_or_pos bs.length with h0 | h0
  · have : bs = [] := List.eq_nil_of_length_eq_zero h0
    subst this
    rw [run_convert_bytes_string w 67 9 5 _ _ c Tryd.underlying67 Tryd.underlying5 Tryd.underlying9]
    cases A <;> simp [Conv.bytesToString, loadCells]
    all_goals rfl
  · obtain ⟨b, o, rfl, _, hc⟩ := lies_cells h h0
    exact run_convert_bytes_back w 67 9 5 ⟨b, o, none⟩ c bs Tryd.underlying67 Tryd.underlying5 Tryd.underlying9 (fun j hj => by
      have := hc j hj
      rcases Nat.eq_zero_or_pos j with h | h
      · subst h; simpa [Addr.add] using this
      · simp only [Addr.add]; rw [if_neg (by omega)]; exact this)
end Go.Proofs.YtalcmhngebobnaaDoor
