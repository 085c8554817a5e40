/-
  From what a row lists of the program's tables to what the walks ask of the world; the row's start. Conditions: the tables lie as they are listed.
-/
import Derived.Test.YthgffefdgjglmaaDoorNAwake
import Derived.Test.YthgffefdgjglmaaDoorRows
import Derived.Lib.LaidU8
import Derived.PinnedBridge
import Derived.ProofKit
import Derived.Lay
import Derived.MakeChecks
namespace Go.Proofs.YthgffefdgjglmaaDoor
open Go.ChangeShapes Go.WideShapes Go.ChangeAt Go.RowKit
theorem own : ownKnob Tryd.prog.godebug = none := by kernel_rfl
theorem laidOut : laidOutB Tryd.prog = true := by kernel_rfl
def laidL : List (String × DataW Unit) := [("unicode/utf8.acceptRanges", Rows.laid_unicode_utf8_acceptRanges), ("apostille/name.beginnings", Rows.laid_apostille_name_beginnings), ("apostille/name.followers", Rows.laid_apostille_name_followers), ("unicode/utf8.first", Rows.laid_unicode_utf8_first)]
theorem gFirst : Tryd.prog.globalNamed "unicode/utf8.first" = some 3 := by kernel_rfl
theorem gAccept : Tryd.prog.globalNamed "unicode/utf8.acceptRanges" = some 4 := by kernel_rfl
theorem gBeg : Tryd.prog.globalNamed "apostille/name.beginnings" = some 0 := by kernel_rfl
theorem gFol : Tryd.prog.globalNamed "apostille/name.followers" = some 1 := by kernel_rfl
theorem tFirst : (Tryd.prog.globals[3]?).map (·.type) = some 56 := by kernel_rfl
theorem tAccept : (Tryd.prog.globals[4]?).map (·.type) = some 59 := by kernel_rfl
theorem tBeg : (Tryd.prog.globals[0]?).map (·.type) = some 40 := by kernel_rfl
theorem tFol : (Tryd.prog.globals[1]?).map (·.type) = some 42 := by kernel_rfl
theorem c5 : Tryd.prog.cellsOf 5 = 1 := by kernel_rfl
theorem c256 : Tryd.prog.cellsOf 56 = 256 := by kernel_rfl
theorem cRange : Tryd.prog.cellsOf 58 = 2 := by kernel_rfl
theorem c21 : Tryd.prog.cellsOf 21 = 1 := by kernel_rfl
theorem cSpan : Tryd.prog.cellsOf 39 = 2 := by kernel_rfl
def spans (t : List (Int × Int)) : DataW Unit := .agg (t.map fun p => .agg ([p.1, p.2].map fun z => .lit (.int .i32 z)))
theorem accept_eq : (Rows.laid_unicode_utf8_acceptRanges : DataW Unit) = Lib.acceptData := by kernel_rfl
theorem beg_eq : (Rows.laid_apostille_name_beginnings : DataW Unit) = spans begT := by kernel_rfl
theorem fol_eq : (Rows.laid_apostille_name_followers : DataW Unit) = spans folT := by kernel_rfl
theorem flat_at : ∀ (t : List (Int × Int)) (i : Nat), (flat t)[2 * i]? = t[i]?.map (fun p => Value.int .i32 p.1) ∧ (flat t)[2 * i + 1]? = t[i]?.map (fun p => Value.int .i32 p.2)
  | [], i => by simp [flat]
  | p :: t, 0 => by simp [flat]
  | p :: t, i + 1 => by
    have h := flat_at t i
    have e : flat (p :: t) = .int .i32 p.1 :: .int .i32 p.2 :: flat t := rfl
    rw [e, show 2 * (i + 1) = 2 * i + 1 + 1 from rfl, List.getElem?_cons_succ, List.getElem?_cons_succ, List.getElem?_cons_succ, List.getElem?_cons_succ, List.getElem?_cons_succ]
    exact h
theorem flat_len (t : List (Int × Int)) : (flat t).length = 2 * t.length := by
  induction t with
  | nil => rfl
  | cons p t ih =>
    have e : flat (p :: t) = .int .i32 p.1 :: .int .i32 p.2 :: flat t := rfl
    rw [e, List.length_cons, List.length_cons, ih, List.length_cons]; omega
theorem spans_of {W : World} {t : List (Int × Int)} {G T : Nat} {nm : String} (h : Lib.VarReads Tryd.prog W nm (spans t)) (hG : Tryd.prog.globalNamed nm = some G) (hT : (Tryd.prog.globals[G]?).map (·.type) = some T)
    (hu : Tryd.prog.underlying T = some (.array t.length 39)) : ∀ j v, (flat t).toArray[j]? = some v → W.cell? ⟨G, j, none⟩ = some v := by
  obtain ⟨g, ty, cs, fuel, p, hg, hty, hvar, hd⟩ := h
  obtain rfl := Option.some.inj (hG.symm.trans hg)
  obtain rfl := Option.some.inj (hT.symm.trans hty)
  intro j v hv
  rw [List.getElem?_toArray] at hv
  have hj : j < 2 * t.length := by rw [← flat_len]; exact (List.getElem?_eq_some_iff.1 hv).1
  obtain ⟨fuel', d, q, hdi, he⟩ := Lib.array_elem hu hd (j / 2) (by omega)
  have hp : t[j / 2]? = some t[j / 2] := List.getElem?_eq_getElem (by omega)
  rw [List.getElem?_map, hp, Option.map_some, Option.some.injEq] at hdi
  subst hdi
  rw [cSpan] at he
  have hcs := Lib.ints_of_struct Tryd.underlying39 (fun j f hj => by
    match j, hj with
    | 0, hj => simp at hj; subst hj; exact ⟨Tryd.underlying21, rfl, c21⟩
    | 1, hj => simp at hj; subst hj; exact ⟨Tryd.underlying21, rfl, c21⟩
    | j + 2, hj => simp at hj) (by rw [cSpan]; rfl) he
  have e0 := congrArg (·[0]?) hcs
  have e1 := congrArg (·[1]?) hcs
  simp only [List.getElem?_take, List.getElem?_drop] at e0 e1
  rw [World.var?_cell hg hvar j, ← Array.getElem?_toList]
  obtain ⟨f0, f1⟩ := flat_at t (j / 2)
  rw [hp] at f0 f1
  rcases (show j = 2 * (j / 2) ∨ j = 2 * (j / 2) + 1 by omega) with e | e
  · rw [e] at hv ⊢
    rw [f0] at hv
    rw [← hv]
    simpa [Nat.mul_comm] using e0
  · rw [e] at hv ⊢
    rw [f1] at hv
    rw [← hv]
    simpa [Nat.mul_comm] using e1
theorem tabs_of_laid {W : World} (hL : laidMetH Tryd.prog laidL W) : NTabs W := by
  rw [MakeChecks.laidMetH_plain _ _ _ (by kernel_rfl)] at hL
  have h4 : Lib.VarReads Tryd.prog W "unicode/utf8.acceptRanges" Lib.acceptData := accept_eq ▸ Lib.laidMet.reads hL (.head _)
  have hb : Lib.VarReads Tryd.prog W "apostille/name.beginnings" (spans begT) := beg_eq ▸ Lib.laidMet.reads hL (.tail _ (.head _))
  have hf : Lib.VarReads Tryd.prog W "apostille/name.followers" (spans folT) := fol_eq ▸ Lib.laidMet.reads hL (.tail _ (.tail _ (.head _)))
  have h3 : Lib.VarReads Tryd.prog W "unicode/utf8.first" Lib.firstData := Pinned.utf8First_eq ▸ Lib.laidMet.reads hL (.tail _ (.tail _ (.tail _ (.head _))))
  refine ⟨⟨fun c hc => ?_, fun i hi => ?_⟩, spans_of hb gBeg tBeg Tryd.underlying40, spans_of hf gFol tFol Tryd.underlying42⟩
  · obtain ⟨g, t, cs, fuel, p, hg, hty, hvar, hd⟩ := h3
    obtain rfl := Option.some.inj (gFirst.symm.trans hg)
    obtain rfl := Option.some.inj (tFirst.symm.trans hty)
    have hcs := Lib.cells_of_tab Tryd.underlying56 Tryd.underlying5 c5 c256 hd
    have := World.var?_cell hg hvar c
    rw [this, ← Array.getElem?_toList, hcs]
    simp [Lib.firstTab, hc]
  · obtain ⟨g, t, cs, fuel, p, hg, hty, hvar, hd⟩ := h4
    obtain rfl := Option.some.inj (gAccept.symm.trans hg)
    obtain rfl := Option.some.inj (tAccept.symm.trans hty)
    obtain ⟨fuel', d, q, hdi, he⟩ := Lib.array_elem Tryd.underlying59 hd i hi
    simp only [List.getElem?_map, List.getElem?_range hi, Option.map_some, Option.some.injEq] at hdi
    subst hdi
    rw [cRange] at he
    have hcs := Lib.ints_of_struct Tryd.underlying58 (fun j f hj => by
      match j, hj with
      | 0, hj => simp at hj; subst hj; exact ⟨Tryd.underlying5, rfl, c5⟩
      | 1, hj => simp at hj; subst hj; exact ⟨Tryd.underlying5, rfl, c5⟩
      | j + 2, hj => simp at hj) (by rw [cRange]; rfl) he
    have e0 := congrArg (·[0]?) hcs
    have e1 := congrArg (·[1]?) hcs
    simp only [List.getElem?_take, List.getElem?_drop] at e0 e1
    constructor
    · rw [World.var?_cell hg hvar (2 * i), ← Array.getElem?_toList]
      simpa [Nat.mul_comm] using e0
    · rw [World.var?_cell hg hvar (2 * i + 1), ← Array.getElem?_toList]
      simpa [Nat.mul_comm] using e1
theorem start_met (os : Os) (args : Array Value) : laidMetH Tryd.prog laidL ((World.laidAll Tryd.prog os laidL).forCall (fun _ _ => 0) ⟨#[], args, []⟩).memory := by
  rw [MakeChecks.laidMetH_plain _ _ _ (by kernel_rfl)]; exact laidMet_laidAll _ (by kernel_rfl) (by kernel_rfl)
end Go.Proofs.YthgffefdgjglmaaDoor
