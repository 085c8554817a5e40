/-
  Whether the three bytes that end a part are somewhere in a text: strings.Contains. Conditions: internal/bytealg.MaxLen holds some number; the text is not too long.
-/
import Derived.Test.YtmbmobjlmbjkpaaDoorCText
import Derived.Test.YtmbmobjlmbjkpaaDoorCPureP
import Derived.Shelf.Strings.Search2
namespace Go.Proofs.YtmbmobjlmbjkpaaDoor
open Go.RowKit Go.Shelf
set_option linter.unusedVariables false
/-- Where the library's functions and types lie in this program. -/
def ren : Ren := {
  f := fun x => match x with | 219 => 27 | 217 => 37 | 225 => 38 | 224 => 39 | 267 => 40 | 266 => 47 | 314 => 48 | n => n
  t := fun x => match x with | 9 => 9 | 3 => 3 | 4 => 4 | 5 => 5 | 46 => 51 | 146 => 56 | 51 => 33 | n => n
  g := fun x => match x with | 1 => 0 | n => n }
theorem lays : Lays.n219 Tryd.prog ren := { mixed := rfl, f217 := Tryd.func37.trans (congrArg some rfl), f219 := Tryd.func27.trans (congrArg some rfl), f224 := Tryd.func39.trans (congrArg some rfl), f225 := Tryd.func38.trans (congrArg some rfl), f266 := Tryd.func47.trans (congrArg some rfl), f267 := Tryd.func40.trans (congrArg some rfl), f314 := Tryd.func48.trans (congrArg some rfl), t3 := Tryd.underlying3, a3 := Tryd.isAgg3, z3 := Tryd.sizeOf3, v3 := Tryd.zeroValue3, t4 := Tryd.underlying4, a4 := Tryd.isAgg4, z4 := Tryd.sizeOf4, v4 := Tryd.zeroValue4, t5 := Tryd.underlying5, a5 := Tryd.isAgg5, z5 := Tryd.sizeOf5, v5 := Tryd.zeroValue5, t9 := Tryd.underlying9, a9 := Tryd.isAgg9, z9 := Tryd.sizeOf9, v9 := Tryd.zeroValue9, t46 := Tryd.underlying51, a46 := Tryd.isAgg51, z46 := Tryd.sizeOf51, v46 := Tryd.zeroValue51, t51 := Tryd.underlying33, a51 := Tryd.isAgg33, z51 := Tryd.sizeOf33, v51 := Tryd.zeroValue33, t146 := Tryd.underlying56, a146 := Tryd.isAgg56, z146 := Tryd.sizeOf56, v146 := Tryd.zeroValue56, g1 := by kernel_rfl }
/-- internal/bytealg.MaxLen holds some number. -/
def HasMax (w : World) : Prop := ∃ m, w.cell? ⟨0, 0, none⟩ = some (.int .i64 m)
theorem HasMax.below {w w' : World} {B : Nat} (h : HasMax w) (hB : 0 < B) (hb : Below B w w') : HasMax w' := by
  obtain ⟨m, hm⟩ := h
  exact ⟨m, (hb.cell (p := ⟨0, 0, none⟩) hB).trans hm⟩
theorem index_ends (S : ByteArray) (w : World) (hm : HasMax w) (hs : S.size ≤ 1000000) : Calls Tryd.prog 27 #[.string S, .string ⟨#[93, 93, 62]⟩] w fun e w' => e = .returned (.int .i64 (Lib.index S.data.toList [93, 93, 62])) ∧ w' = w := by
  obtain ⟨m, hm⟩ := hm
  exact Any.stringslite_Index lays S ⟨#[93, 93, 62]⟩ m w (by omega) hm
open Classical in
/-- Are they there? -/
noncomputable def endsB (s : List UInt8) : Bool := decide (ends s)
theorem ends_cons (c : UInt8) (l : List UInt8) : ends (c :: l) ↔ [93, 93, 62].isPrefixOf (c :: l) = true ∨ ends l := by
  constructor
  · rintro ⟨a, b, e⟩
    cases a with
    | nil =>
      rw [List.nil_append] at e
      rw [e]; left; simp
    | cons x a =>
      injection e with _ e
      exact .inr ⟨a, b, e⟩
  · rintro (h | ⟨a, b, e⟩)
    · rw [List.isPrefixOf_iff_prefix] at h
      obtain ⟨t, h⟩ := h
      exact ⟨[], t, h.symm⟩
    · exact ⟨c :: a, b, by rw [e]; rfl⟩
theorem ends_nil : ¬ ends [] := by
  rintro ⟨a, b, e⟩
  cases a <;> cases e
theorem index_iff : ∀ (s : List UInt8), 0 ≤ Lib.index s [93, 93, 62] ↔ ends s
  | [] => by
    constructor
    · intro h; exact absurd h (by decide)
    · intro h; exact absurd h ends_nil
  | c :: l => by
    rw [ends_cons, Lib.index]
    have ih := index_iff l
    have hge := Lib.index_ge l [93, 93, 62]
    split
    · next h => exact ⟨fun _ => .inl h, fun _ => Int.le_refl _⟩
    · next h =>
      split
      · next h2 =>
        rw [beq_iff_eq] at h2
        constructor
        · intro h3; omega
        · rintro (h3 | h3)
          · exact absurd h3 h
          · have := ih.2 h3; omega
      · next h2 =>
        rw [beq_iff_eq] at h2
        exact ⟨fun _ => .inr (ih.1 (by omega)), fun _ => by omega⟩
theorem endsB_index (s : List UInt8) : decide (0 ≤ Lib.index s [93, 93, 62]) = endsB s := by
  unfold endsB
  exact decide_eq_decide.2 (index_iff s)
set_option maxHeartbeats 1000000 in
theorem sindex_ends (S : ByteArray) (w : World) (hm : HasMax w) (hs : S.size ≤ 1000000) : Calls Tryd.prog 21 #[.string S, .string ⟨#[93, 93, 62]⟩] w fun e w' => e = .returned (.int .i64 (Lib.index S.data.toList [93, 93, 62])) ∧ w' = w := by
  have HI := Lib.hid (index_ends S w hm hs)
  generalize Lib.index S.data.toList [93, 93, 62] = z at *
  clear hm
  go_enter Tryd.func21, Tryd.ntmps21
  go_wp2_with fail
  refine HI.out.mono ?_
  rintro e w' ⟨rfl, hw⟩
  rw [hw]
  go_wp2
  go_ret
  exact ⟨rfl, rfl⟩
set_option maxHeartbeats 1000000 in
theorem has_ends (S : ByteArray) (w : World) (hm : HasMax w) (hs : S.size ≤ 1000000) : Calls Tryd.prog 16 #[.string S, .string ⟨#[93, 93, 62]⟩] w fun e w' => e = .returned (.bool (endsB S.data.toList)) ∧ w' = w := by
  have HI := Lib.hid (sindex_ends S w hm hs)
  rw [← endsB_index]
  generalize Lib.index S.data.toList [93, 93, 62] = z at *
  clear hm
  go_enter Tryd.func16, Tryd.ntmps16
  go_wp2_with fail
  refine HI.out.mono ?_
  rintro e w' ⟨rfl, hw⟩
  rw [hw]
  go_wp2
  go_ret
  exact ⟨rfl, rfl⟩
end Go.Proofs.YtmbmobjlmbjkpaaDoor
