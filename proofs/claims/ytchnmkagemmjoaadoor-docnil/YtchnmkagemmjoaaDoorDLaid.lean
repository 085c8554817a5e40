/-
  From what a row lists of the tables, and from the world's shape, to what the walks ask of the world; the row's start. Conditions: the tables lie as they are listed.
-/
import Derived.Test.YtchnmkagemmjoaaDoorDText
import Derived.Test.YtchnmkagemmjoaaDoorDTwice
import Derived.Test.YtchnmkagemmjoaaDoorRows
import Derived.Lib.LaidU8
import Derived.PinnedBridge
import Derived.ProofKit
import Derived.Lay
import Derived.MakeChecks
import Derived.Shelf.Vars
import Derived.SizedLaws
namespace Go.Proofs.YtchnmkagemmjoaaDoor
open Go.ChangeShapes Go.WideShapes Go.ChangeAt Go.RowKit
set_option maxRecDepth 100000
theorem own : ownKnob Tryd.prog.godebug = none := by kernel_rfl
def laidL : List (String × DataW Unit) := [("unicode/utf8.acceptRanges", Rows.laid_unicode_utf8_acceptRanges), ("unicode.asciiFold", Rows.laid_unicode_asciiFold), ("unicode.caseOrbit", Rows.laid_unicode_caseOrbit), ("apostille/name.beginnings", Rows.laid_apostille_name_beginnings), ("apostille/name.followers", Rows.laid_apostille_name_followers), ("unicode.CaseRanges", Rows.laid_unicode_CaseRanges), ("unicode/utf8.first", Rows.laid_unicode_utf8_first)]
theorem gFirst : Tryd.prog.globalNamed "unicode/utf8.first" = some 5 := by kernel_rfl
theorem gAccept : Tryd.prog.globalNamed "unicode/utf8.acceptRanges" = some 6 := by kernel_rfl
theorem gBeg : Tryd.prog.globalNamed "apostille/name.beginnings" = some 0 := by kernel_rfl
theorem gFol : Tryd.prog.globalNamed "apostille/name.followers" = some 1 := by kernel_rfl
theorem tFirst : (Tryd.prog.globals[5]?).map (·.type) = some 115 := by kernel_rfl
theorem tAccept : (Tryd.prog.globals[6]?).map (·.type) = some 118 := by kernel_rfl
theorem tBeg : (Tryd.prog.globals[0]?).map (·.type) = some 102 := by kernel_rfl
theorem tFol : (Tryd.prog.globals[1]?).map (·.type) = some 103 := by kernel_rfl
theorem c5 : Tryd.prog.cellsOf 5 = 1 := by kernel_rfl
theorem c256 : Tryd.prog.cellsOf 115 = 256 := by kernel_rfl
theorem cRange : Tryd.prog.cellsOf 117 = 2 := by kernel_rfl
theorem c21 : Tryd.prog.cellsOf 21 = 1 := by kernel_rfl
theorem cSpan : Tryd.prog.cellsOf 101 = 2 := by kernel_rfl
def spans (t : List (Int × Int)) : DataW Unit := .agg (t.map fun p => .agg ([p.1, p.2].map fun z => .lit (.int .i32 z)))
theorem accept_eq : (Rows.laid_unicode_utf8_acceptRanges : DataW Unit) = Lib.acceptData := by kernel_rfl
theorem beg_eq : (Rows.laid_apostille_name_beginnings : DataW Unit) = spans begT := by kernel_rfl
theorem fol_eq : (Rows.laid_apostille_name_followers : DataW Unit) = spans folT := by kernel_rfl
theorem sflat_at : ∀ (t : List (Int × Int)) (i : Nat), (flat t)[2 * i]? = t[i]?.map (fun p => Value.int .i32 p.1) ∧ (flat t)[2 * i + 1]? = t[i]?.map (fun p => Value.int .i32 p.2)
  | [], i => by simp [flat]
  | p :: t, 0 => by simp [flat]
  | p :: t, i + 1 => by
    have h := sflat_at t i
    have e : flat (p :: t) = .int .i32 p.1 :: .int .i32 p.2 :: flat t := rfl
    rw [e, show 2 * (i + 1) = 2 * i + 1 + 1 from rfl, List.getElem?_cons_succ, List.getElem?_cons_succ, List.getElem?_cons_succ, List.getElem?_cons_succ, List.getElem?_cons_succ]
    exact h
theorem flat_len (t : List (Int × Int)) : (flat t).length = 2 * t.length := by
  induction t with
  | nil => rfl
  | cons p t ih =>
    have e : flat (p :: t) = .int .i32 p.1 :: .int .i32 p.2 :: flat t := rfl
    rw [e, List.length_cons, List.length_cons, ih, List.length_cons]; omega
theorem spans_of {W : World} {t : List (Int × Int)} {G T : Nat} {nm : String} (h : Lib.VarReads Tryd.prog W nm (spans t)) (hG : Tryd.prog.globalNamed nm = some G) (hT : (Tryd.prog.globals[G]?).map (·.type) = some T)
    (hu : Tryd.prog.underlying T = some (.array t.length 101)) : ∀ j v, (flat t).toArray[j]? = some v → W.cell? ⟨G, j, none⟩ = some v := by
  obtain ⟨g, ty, cs, fuel, p, hg, hty, hvar, hd⟩ := h
  obtain rfl := Option.some.inj (hG.symm.trans hg)
  obtain rfl := Option.some.inj (hT.symm.trans hty)
  intro j v hv
  rw [List.getElem?_toArray] at hv
  have hj : j < 2 * t.length := by rw [← flat_len]; exact (List.getElem?_eq_some_iff.1 hv).1
  obtain ⟨fuel', d, q, hdi, he⟩ := Lib.array_elem hu hd (j / 2) (by omega)
  have hp : t[j / 2]? = some t[j / 2] := List.getElem?_eq_getElem (by omega)
  rw [List.getElem?_map, hp, Option.map_some, Option.some.injEq] at hdi
  subst hdi
  rw [cSpan] at he
  have hcs := Lib.ints_of_struct Tryd.underlying101 (fun j f hj => by
    match j, hj with
    | 0, hj => simp at hj; subst hj; exact ⟨Tryd.underlying21, rfl, c21⟩
    | 1, hj => simp at hj; subst hj; exact ⟨Tryd.underlying21, rfl, c21⟩
    | j + 2, hj => simp at hj) (by rw [cSpan]; rfl) he
  have e0 := congrArg (·[0]?) hcs
  have e1 := congrArg (·[1]?) hcs
  simp only [List.getElem?_take, List.getElem?_drop] at e0 e1
  rw [World.var?_cell hg hvar j, ← Array.getElem?_toList]
  obtain ⟨f0, f1⟩ := sflat_at t (j / 2)
  rw [hp] at f0 f1
  rcases (show j = 2 * (j / 2) ∨ j = 2 * (j / 2) + 1 by omega) with e | e
  · rw [e] at hv ⊢
    rw [f0] at hv
    rw [← hv]
    simpa [Nat.mul_comm] using e0
  · rw [e] at hv ⊢
    rw [f1] at hv
    rw [← hv]
    simpa [Nat.mul_comm] using e1
theorem tabs_of_laid {W : World} (hL : laidMetH Tryd.prog laidL W) : NTabs W := by
  rw [MakeChecks.laidMetH_plain _ _ _ (by kernel_rfl)] at hL
  have h4 : Lib.VarReads Tryd.prog W "unicode/utf8.acceptRanges" Lib.acceptData := accept_eq ▸ Lib.laidMet.reads hL (.head _)
  have hb : Lib.VarReads Tryd.prog W "apostille/name.beginnings" (spans begT) := beg_eq ▸ Lib.laidMet.reads hL (.tail _ (.tail _ (.tail _ (.head _))))
  have hf : Lib.VarReads Tryd.prog W "apostille/name.followers" (spans folT) := fol_eq ▸ Lib.laidMet.reads hL (.tail _ (.tail _ (.tail _ (.tail _ (.head _)))))
  have h3 : Lib.VarReads Tryd.prog W "unicode/utf8.first" Lib.firstData := Pinned.utf8First_eq ▸ Lib.laidMet.reads hL (.tail _ (.tail _ (.tail _ (.tail _ (.tail _ (.tail _ (.head _)))))))
  refine ⟨⟨fun c hc => ?_, fun i hi => ?_⟩, spans_of hb gBeg tBeg Tryd.underlying102, spans_of hf gFol tFol Tryd.underlying103⟩
  · obtain ⟨g, t, cs, fuel, p, hg, hty, hvar, hd⟩ := h3
    obtain rfl := Option.some.inj (gFirst.symm.trans hg)
    obtain rfl := Option.some.inj (tFirst.symm.trans hty)
    have hcs := Lib.cells_of_tab Tryd.underlying115 Tryd.underlying5 c5 c256 hd
    have := World.var?_cell hg hvar c
    rw [this, ← Array.getElem?_toList, hcs]
    simp [Lib.firstTab, hc]
  · obtain ⟨g, t, cs, fuel, p, hg, hty, hvar, hd⟩ := h4
    obtain rfl := Option.some.inj (gAccept.symm.trans hg)
    obtain rfl := Option.some.inj (tAccept.symm.trans hty)
    obtain ⟨fuel', d, q, hdi, he⟩ := Lib.array_elem Tryd.underlying118 hd i hi
    simp only [List.getElem?_map, List.getElem?_range hi, Option.map_some, Option.some.injEq] at hdi
    subst hdi
    rw [cRange] at he
    have hcs := Lib.ints_of_struct Tryd.underlying117 (fun j f hj => by
      match j, hj with
      | 0, hj => simp at hj; subst hj; exact ⟨Tryd.underlying5, rfl, c5⟩
      | 1, hj => simp at hj; subst hj; exact ⟨Tryd.underlying5, rfl, c5⟩
      | j + 2, hj => simp at hj) (by rw [cRange]; rfl) he
    have e0 := congrArg (·[0]?) hcs
    have e1 := congrArg (·[1]?) hcs
    simp only [List.getElem?_take, List.getElem?_drop] at e0 e1
    constructor
    · rw [World.var?_cell hg hvar (2 * i), ← Array.getElem?_toList]
      simpa [Nat.mul_comm] using e0
    · rw [World.var?_cell hg hvar (2 * i + 1), ← Array.getElem?_toList]
      simpa [Nat.mul_comm] using e1
def foldZ : List Int := [0, 1, 2, 3, 4, 5, 6, 7, 8, 9, 10, 11, 12, 13, 14, 15, 16, 17, 18, 19, 20, 21, 22, 23, 24, 25, 26, 27, 28, 29, 30, 31, 32, 33, 34, 35, 36, 37, 38, 39, 40, 41, 42, 43, 44, 45, 46, 47, 48, 49, 50, 51, 52, 53, 54, 55, 56, 57, 58, 59, 60, 61, 62, 63, 64, 97, 98, 99, 100, 101, 102, 103, 104, 105, 106, 107, 108, 109, 110, 111, 112, 113, 114, 115, 116, 117, 118, 119, 120, 121, 122, 91, 92, 93, 94, 95, 96, 65, 66, 67, 68, 69, 70, 71, 72, 73, 74, 8490, 76, 77, 78, 79, 80, 81, 82, 383, 84, 85, 86, 87, 88, 89, 90, 123, 124, 125, 126, 127]
theorem fold_eq : (Rows.laid_unicode_asciiFold : DataW Unit) = Lib.tabData .u16 foldZ := by kernel_rfl
theorem gFold : Tryd.prog.globalNamed "unicode.asciiFold" = some 2 := by kernel_rfl
theorem tFold : (Tryd.prog.globals[2]?).map (·.type) = some 105 := by kernel_rfl
theorem cU16 : Tryd.prog.cellsOf 104 = 1 := by kernel_rfl
theorem c128 : Tryd.prog.cellsOf 105 = 128 := by kernel_rfl
theorem folds_of_laid {W : World} (hL : laidMetH Tryd.prog laidL W) : Folds W := by
  rw [MakeChecks.laidMetH_plain _ _ _ (by kernel_rfl)] at hL
  have h : Lib.VarReads Tryd.prog W "unicode.asciiFold" (Lib.tabData .u16 foldZ) := fold_eq ▸ Lib.laidMet.reads hL (.tail _ (.head _))
  obtain ⟨g, t, cs, fuel, p, hg, hty, hvar, hd⟩ := h
  obtain rfl := Option.some.inj (gFold.symm.trans hg)
  obtain rfl := Option.some.inj (tFold.symm.trans hty)
  have hcs := Lib.cells_of_tab Tryd.underlying105 Tryd.underlying104 cU16 c128 hd
  intro q hq
  rw [World.var?_cell hg hvar q.1, ← Array.getElem?_toList, hcs]
  simp only [List.mem_cons, List.not_mem_nil, or_false] at hq
  rcases hq with rfl | rfl | rfl | rfl | rfl | rfl <;> rfl
/-- Whatever internal/bytealg.MaxLen holds, it is a number: that is the world's shape. -/
theorem wd_of {W : World} (hL : laidMetH Tryd.prog laidL W) (hsh : W.ShapedOpen Tryd.prog) : Wd W :=
  ⟨tabs_of_laid hL, cell_of_shapedOpen_int (P := Tryd.prog) (g := 7) (t := 3) (zero := #[.int .i64 0]) hsh (of_decide_eq_true (by kernel_rfl)) (by kernel_rfl) rfl (by kernel_rfl) (by kernel_rfl) Tryd.underlying3, folds_of_laid hL⟩
theorem start_met (os : Os) (args : Array Value) : laidMetH Tryd.prog laidL ((World.laidAll Tryd.prog os laidL).forCall (fun _ _ => 0) ⟨#[], args, []⟩).memory := by
  rw [MakeChecks.laidMetH_plain _ _ _ (by kernel_rfl)]; exact laidMet_laidAll _ (by kernel_rfl) (by kernel_rfl)
/-- From a contract over worlds of the right shape, in which the tables lie, to the row's sentence. -/
theorem lift_shaped {H : Type} {enc : TypeId × Value → H} {os : Os} {f : FuncId} {fn : Func} {s : ChangeSpec} (started : os.Started) (noInit : Tryd.prog.inits.idxOf? f = none) (hfn : Tryd.prog.funcs[f]? = some fn)
    (witness : ∃ (w : World) (tape : Tape) (i : Input), w.os = os ∧ (w.forCall tape i).Shaped Tryd.prog ∧ i.vars = [] ∧ Input.okWide Tryd.prog (w.forCall tape i) .any w.heap.size f i ∧
      ((s.pre enc Tryd.prog fn [] false (w.forCall tape i).memory i.args ∧ laidMetH Tryd.prog laidL (w.forCall tape i).memory) ∧ sizedMet enc Tryd.prog fn (OpenSpec.ofChange s) false (w.forCall tape i).memory i.args) ∧ Assume.holds {} Tryd.prog (lone (Frame.enter Tryd.prog f i.args .normal) [] (w.forCall tape i)))
    (contract : ∀ (W : World) (base : Nat) (args : Array Value) (ds gs : List (DataW H)) (before : List MemPlace),
      (∀ (j : Nat) t v, fn.params[j]? = some t → args[j]? = some v → Value.okWide Tryd.prog W .any base t v) →
      DataW.Whole enc Tryd.prog fn.params.toList s.vars false W args.toList ds gs before →
      (DataW.weightsEach Tryd.prog (fn.params.toList ++ s.plain.varTypes Tryd.prog) (ds ++ gs)).all (· ≤ reachBytes) = true → Wd W →
      Calls Tryd.prog f args W fun e W' => ∃ v, e = .returned v ∧ s.post enc Tryd.prog fn false true false false W args v W') :
    ReturnsInHanded {} Tryd.checked os f .any (fun w args => (s.pre enc Tryd.prog fn [] false w args ∧ laidMetH Tryd.prog laidL w) ∧ sizedMet enc Tryd.prog fn (OpenSpec.ofChange s) false w args) (s.post enc Tryd.prog fn false true false false) := by
  refine returnsInHanded_of_calls (C := Tryd.checked) own started noInit witness ?_
  intro w tape i _ hsh _ hok hpre _
  obtain ⟨_, _, _, fn', hfn', _, _, _, _, hval⟩ := hok
  obtain rfl : fn' = fn := Option.some.inj (hfn'.symm.trans hfn)
  obtain ⟨⟨⟨ds, gs, before, hw, _⟩, hx⟩, hz⟩ := hpre
  have hw' := DataW.Whole.of_heap (w' := w.forCall tape i) (by rfl) hw
  have hx' : laidMetH Tryd.prog laidL (w.forCall tape i) := hx.of_heap (by rfl)
  refine (contract (w.forCall tape i) w.heap.size i.args ds gs before hval hw' (hz.weights hw) (wd_of hx' hsh)).mono fun e W' ⟨v, he, hp⟩ => ?_
  subst he
  exact ChangeSpec.post_blind hp
end Go.Proofs.YtchnmkagemmjoaaDoor
