/-
  Whether a text is somewhere in another one, or at its end: strings.Contains and strings.HasSuffix. Conditions: internal/bytealg.MaxLen holds some number; the text is not too long.
-/
import Derived.Test.YtalcmhngebobnaaDoorNText
import Derived.Shelf.Strings.Search2
import Derived.Shelf.Strings.Prefix
namespace Go.Proofs.YtalcmhngebobnaaDoor
open Go.RowKit Go.Shelf
set_option linter.unusedVariables false
/-- Where the library's functions and types lie in this program. -/
def ren : Ren := {
  f := fun x => match x with | 219 => 63 | 217 => 68 | 225 => 69 | 224 => 70 | 267 => 71 | 266 => 72 | 314 => 73 | 100 => 49 | 207 => 59 | n => n
  t := fun x => match x with | 9 => 9 | 3 => 3 | 4 => 4 | 5 => 5 | 46 => 92 | 146 => 111 | 51 => 105 | n => n
  g := fun x => match x with | 1 => 7 | n => n }
theorem lays : Lays.n219 Tryd.prog ren := { mixed := rfl, f217 := Tryd.func68.trans (congrArg some rfl), f219 := Tryd.func63.trans (congrArg some rfl), f224 := Tryd.func70.trans (congrArg some rfl), f225 := Tryd.func69.trans (congrArg some rfl), f266 := Tryd.func72.trans (congrArg some rfl), f267 := Tryd.func71.trans (congrArg some rfl), f314 := Tryd.func73.trans (congrArg some rfl), t3 := Tryd.underlying3, a3 := Tryd.isAgg3, z3 := Tryd.sizeOf3, v3 := Tryd.zeroValue3, t4 := Tryd.underlying4, a4 := Tryd.isAgg4, z4 := Tryd.sizeOf4, v4 := Tryd.zeroValue4, t5 := Tryd.underlying5, a5 := Tryd.isAgg5, z5 := Tryd.sizeOf5, v5 := Tryd.zeroValue5, t9 := Tryd.underlying9, a9 := Tryd.isAgg9, z9 := Tryd.sizeOf9, v9 := Tryd.zeroValue9, t46 := Tryd.underlying92, a46 := Tryd.isAgg92, z46 := Tryd.sizeOf92, v46 := Tryd.zeroValue92, t51 := Tryd.underlying105, a51 := Tryd.isAgg105, z51 := Tryd.sizeOf105, v51 := Tryd.zeroValue105, t146 := Tryd.underlying111, a146 := Tryd.isAgg111, z146 := Tryd.sizeOf111, v146 := Tryd.zeroValue111, g1 := by kernel_rfl }
theorem laysS : Lays.n100 Tryd.prog ren := { mixed := rfl, f100 := Tryd.func49.trans (congrArg some rfl), f207 := Tryd.func59.trans (congrArg some rfl), t3 := Tryd.underlying3, a3 := Tryd.isAgg3, z3 := Tryd.sizeOf3, v3 := Tryd.zeroValue3, t4 := Tryd.underlying4, a4 := Tryd.isAgg4, z4 := Tryd.sizeOf4, v4 := Tryd.zeroValue4, t9 := Tryd.underlying9, a9 := Tryd.isAgg9, z9 := Tryd.sizeOf9, v9 := Tryd.zeroValue9 }
/-- internal/bytealg.MaxLen holds some number. -/
def HasMax (w : World) : Prop := ∃ m, w.cell? ⟨7, 0, none⟩ = some (.int .i64 m)
theorem HasMax.below {w w' : World} {B : Nat} (h : HasMax w) (hB : 7 < B) (hb : Below B w w') : HasMax w' := by
  obtain ⟨m, hm⟩ := h
  exact ⟨m, (hb.cell (p := ⟨7, 0, none⟩) hB).trans hm⟩
theorem HasMax.lt {w : World} (h : HasMax w) : 7 < w.heap.size := by
  obtain ⟨m, hm⟩ := h
  unfold World.cell? at hm
  rcases Nat.lt_or_ge 7 w.heap.size with h | h
  · exact h
  · rw [Array.getElem?_eq_none h] at hm; simp at hm
/-- Is a text in another one? -/
def Ins (s t : List UInt8) : Prop := ∃ a b, s = a ++ (t ++ b)
open Classical in
noncomputable def insB (s t : List UInt8) : Bool := decide (Ins s t)
theorem insB_iff {s t : List UInt8} : insB s t = true ↔ Ins s t := by simp [insB]
theorem ins_cons {c : UInt8} {l t : List UInt8} : Ins (c :: l) t ↔ t.isPrefixOf (c :: l) = true ∨ Ins l t := by
  constructor
  · rintro ⟨a, b, e⟩
    cases a with
    | nil =>
      rw [List.nil_append] at e
      rw [e]; left; simp
    | cons x a =>
      injection e with _ e
      exact .inr ⟨a, b, e⟩
  · rintro (h | ⟨a, b, e⟩)
    · rw [List.isPrefixOf_iff_prefix] at h
      obtain ⟨x, h⟩ := h
      exact ⟨[], x, h.symm⟩
    · exact ⟨c :: a, b, by rw [e]; rfl⟩
theorem index_iff : ∀ (s t : List UInt8), 0 ≤ Lib.index s t ↔ Ins s t
  | [], t => by
    rw [Lib.index]
    constructor
    · intro h
      cases t with
      | nil => exact ⟨[], [], rfl⟩
      | cons x t => exact absurd h (by simp)
    · rintro ⟨a, b, e⟩
      have h := congrArg List.length e
      simp only [List.length_append, List.length_nil] at h
      have : t = [] := List.eq_nil_of_length_eq_zero (by omega)
      rw [this]; simp
  | c :: l, t => by
    rw [ins_cons, Lib.index]
    have ih := index_iff l t
    have hge := Lib.index_ge l t
    split
    · next h => exact ⟨fun _ => .inl h, fun _ => Int.le_refl _⟩
    · next h =>
      split
      · next h2 =>
        rw [beq_iff_eq] at h2
        constructor
        · intro h3; omega
        · rintro (h3 | h3)
          · exact absurd h3 h
          · have := ih.2 h3; omega
      · next h2 =>
        rw [beq_iff_eq] at h2
        exact ⟨fun _ => .inr (ih.1 (by omega)), fun _ => by omega⟩
theorem insB_index (s t : List UInt8) : decide (0 ≤ Lib.index s t) = insB s t := by
  unfold insB
  exact decide_eq_decide.2 (index_iff s t)
theorem lindex_any (S T : ByteArray) (w : World) (hm : HasMax w) (hs : S.size ≤ 2000000) : Calls Tryd.prog 63 #[.string S, .string T] w fun e w' => e = .returned (.int .i64 (Lib.index S.data.toList T.data.toList)) ∧ w' = w := by
  obtain ⟨m, hm⟩ := hm
  exact Any.stringslite_Index lays S T m w (by omega) hm
set_option maxHeartbeats 1000000 in
theorem sindex_any (S T : ByteArray) (w : World) (hm : HasMax w) (hs : S.size ≤ 2000000) : Calls Tryd.prog 58 #[.string S, .string T] w fun e w' => e = .returned (.int .i64 (Lib.index S.data.toList T.data.toList)) ∧ w' = w := by
  have HI := Lib.hid (lindex_any S T w hm hs)
  generalize Lib.index S.data.toList T.data.toList = z at *
  clear hm
  go_enter Tryd.func58, Tryd.ntmps58
  go_wp2_with fail
  refine HI.out.mono ?_
  rintro e w' ⟨rfl, hw⟩
  rw [hw]
  go_wp2
  go_ret
  exact ⟨rfl, rfl⟩
set_option maxHeartbeats 1000000 in
theorem contains_any (S T : ByteArray) (w : World) (hm : HasMax w) (hs : S.size ≤ 2000000) : Calls Tryd.prog 48 #[.string S, .string T] w fun e w' => e = .returned (.bool (insB S.data.toList T.data.toList)) ∧ w' = w := by
  have HI := Lib.hid (sindex_any S T w hm hs)
  rw [← insB_index]
  generalize Lib.index S.data.toList T.data.toList = z at *
  clear hm
  go_enter Tryd.func48, Tryd.ntmps48
  go_wp2_with fail
  refine HI.out.mono ?_
  rintro e w' ⟨rfl, hw⟩
  rw [hw]
  go_wp2
  go_ret
  exact ⟨rfl, rfl⟩
theorem suffix_any (S T : ByteArray) (w : World) (hs : S.size ≤ 2000000) : Calls Tryd.prog 49 #[.string S, .string T] w fun e w' => e = .returned (.bool (Lib.hasSuffix S.data.toList T.data.toList)) ∧ w' = w :=
  Any.strings_HasSuffix laysS S T w (by omega)
end Go.Proofs.YtalcmhngebobnaaDoor
