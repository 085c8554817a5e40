/-
  Texts that may stand in a document; comments, targets, prefixes, declarations and attributes by themselves. Conditions: the tables lie as they are laid, internal/bytealg.MaxLen holds some number; the texts are not too long.
-/
import Derived.Test.YtalcmhngebobnaaDoorText
import Derived.Test.YtalcmhngebobnaaDoorNRef
import Derived.Test.YtalcmhngebobnaaDoorDShelf
import Derived.Test.YtalcmhngebobnaaDoorDFold
import Derived.Test.YtalcmhngebobnaaDoorDMem
namespace Go.Proofs.YtalcmhngebobnaaDoor
open Go.RowKit
set_option linter.unusedVariables false
set_option maxRecDepth 100000
/-- What the walks ask of the world. -/
structure Wd (w : World) : Prop where
  tabs : NTabs w
  max : HasMax w
  fold : Folds w
theorem Folds.lt {w : World} (h : Folds w) : 2 < w.heap.size := by
  have h1 := h (120, 88) (by simp)
  rcases Nat.lt_or_ge 2 w.heap.size with hlt | hge
  · exact hlt
  · rw [World.cell?, Array.getElem?_eq_none hge] at h1; cases h1
theorem Wd.later {w w' : World} (h : Wd w) (hb : Below w.heap.size w w') : Wd w' :=
  ⟨h.tabs.below h.tabs.five hb, h.max.below h.max.lt hb, fun p hp => (hb.cell (p := ⟨2, p.1, none⟩) h.fold.lt).trans (h.fold p hp)⟩
/-- Characters that may stand in a document, all of them. -/
def txt (s : List UInt8) : Prop := ∃ l : List Int, l.all chB = true ∧ l.all xmlB = true ∧ s = encBs l
theorem txt_encs {l : List Int} (hl : l.all chB = true) : txt (encBs l) ↔ l.all xmlB = true := by
  constructor
  · rintro ⟨k, h1, h2, e⟩
    rwa [encBs_inj hl h1 e]
  · intro h
    exact ⟨l, hl, h, rfl⟩
theorem txt_not {s : List UInt8} (h : Lib.validD s = false) : ¬ txt s := by
  rintro ⟨l, h1, _, e⟩
  have := (valid_iff s).2 ⟨l, h1, e⟩
  rw [h] at this; cases this
open Classical in
/-- Is it text? -/
noncomputable def txtB (s : List UInt8) : Bool := decide (txt s)
theorem txtB_iff {s : List UInt8} : txtB s = true ↔ txt s := by simp [txtB]
theorem text_txt {s : List UInt8} {e : Ending} (h : TextAns s e) : e = .returned (.bool (txtB s)) := by
  rcases h with ⟨l, h1, rfl, rfl⟩ | ⟨h1, rfl⟩
  · congr 2
    rw [Bool.eq_iff_iff, txtB_iff, txt_encs h1]
  · congr 2
    cases ht : txtB s with
    | false => rfl
    | true => exact absurd (txtB_iff.1 ht) (txt_not h1)
/-- The same, of a text that is held as such. -/
noncomputable def tx (S : ByteArray) : Bool := txtB S.data.toList
noncomputable def nmS (S : ByteArray) : Bool := nmB S.data.toList
/-- Is a text these bytes? -/
def eqL (S : ByteArray) (l : List UInt8) : Bool := S.toList == l
theorem eqL_iff {S : ByteArray} {l : List UInt8} : eqL S l = true ↔ S.data.toList = l := by simp [eqL, Lib.toList_data]
theorem eqL_val {S : ByteArray} {l : List UInt8} {b : Bool} (h : eqL S l = b) : (S.toList == l) = b := h
theorem empty_val {S : ByteArray} {b : Bool} (h : eqL S [] = b) : (S.toList == []) = b ∧ S.toList.isEmpty = b := ⟨h, by rw [← h]; unfold eqL; cases S.toList <;> rfl⟩
set_option maxHeartbeats 1000000 in
theorem isText_any (S : ByteArray) (hlen : S.size ≤ 2000000) (w : World) (hW : Wd w) : Calls Tryd.prog 33 #[.string S] w fun e w' => e = .returned (.bool (tx S)) ∧ Below w.heap.size w w' := by
  obtain ⟨c, W, hcv, hcell, hsz, hbW, hc1, hc2⟩ := conv_text S (by omega) w
  have HTX : Hid (Calls Tryd.prog 47 #[.slice (some ⟨w.heap.size, 0, none⟩) S.size c] W fun e w' => e = .returned (.bool (tx S)) ∧ Below W.heap.size W w') := by
    have h := text_any (some ⟨w.heap.size, 0, none⟩) c S.data.toList W (hW.later hbW).tabs.u (lies_of hsz hcell) (by rw [← ba_size]; exact hc1) hc2 (by rw [← ba_size]; omega)
    rw [← ba_size] at h
    exact h.mono fun e w' ⟨h1, h2⟩ => ⟨text_txt h1, h2⟩
  clear hcell hsz hc1 hc2 hW
  generalize tx S = B at *
  go_enter Tryd.func33, Tryd.ntmps33
  go_wp2_with fail
  refine HTX.out.mono ?_
  rintro e w1 ⟨rfl, hb1⟩
  go_wp2
  go_ret
  exact ⟨rfl, hbW.trans (hb1.mono hbW.size)⟩
/-- Is a prefix "", or a name? -/
noncomputable def prefB (S : ByteArray) : Bool := eqL S [] || nmS S
set_option maxHeartbeats 1000000 in
theorem prefix_any (S : ByteArray) (hlen : S.size ≤ 2000000) (w : World) (hW : Wd w) : Calls Tryd.prog 42 #[.string S] w fun e w' => e = .returned (.bool (prefB S)) ∧ Below w.heap.size w w' := by
  have HN : Hid (Calls Tryd.prog 41 #[.string S] w fun e w' => e = .returned (.bool (nmS S)) ∧ Below w.heap.size w w') := is_any S hlen w hW.tabs
  clear hW
  unfold prefB
  cases h0 : eqL S [] with
  | true =>
    obtain ⟨t1, t2⟩ := empty_val h0
    go_enter Tryd.func42, Tryd.ntmps42
    go_wp2
    go_ret
    exact ⟨rfl, Below.refl _ _⟩
  | false =>
    obtain ⟨t1, t2⟩ := empty_val h0
    generalize nmS S = B at *
    go_enter Tryd.func42, Tryd.ntmps42
    go_wp2_with fail
    refine HN.out.mono ?_
    rintro e w1 ⟨rfl, hb1⟩
    go_wp2
    go_ret
    exact ⟨by simp, hb1⟩
end Go.Proofs.YtalcmhngebobnaaDoor
