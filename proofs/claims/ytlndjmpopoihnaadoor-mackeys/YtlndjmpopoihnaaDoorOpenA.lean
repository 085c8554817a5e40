/-
  Arguments opened: sums of 32 bytes, slices of bytes; the row's start. Conditions: none.
-/
import Derived.Test.YtlndjmpopoihnaaDoorAwake
import Derived.Test.YtlndjmpopoihnaaDoorRows
import Derived.Lib.LaidTab
import Derived.Lib.LaidU8
import Derived.ProofKit
import Derived.Lay
import Derived.MakeChecks
import Derived.OpenShut
import Derived.Stop.Joined
namespace Go.Proofs.YtlndjmpopoihnaaDoor
open Go.ChangeShapes Go.WideShapes Go.ChangeAt Go.RowKit
theorem own : ownKnob Tryd.prog.godebug = none := by kernel_rfl
theorem laidOut : laidOutB Tryd.prog = true := by kernel_rfl
theorem c5 : Tryd.prog.cellsOf 5 = 1 := by kernel_rfl
theorem c36 : Tryd.prog.cellsOf 41 = 1 := by kernel_rfl
theorem c25 : Tryd.prog.cellsOf 25 = 32 := by kernel_rfl
theorem c37 : Tryd.prog.cellsOf 42 = 8 := by kernel_rfl
theorem c47 : Tryd.prog.cellsOf 50 = 64 := by kernel_rfl
def laidL : List (String × DataW Unit) := [("apostille/sha.start", Rows.laid_apostille_sha_start), ("apostille/sha.steps", Rows.laid_apostille_sha_steps)]
theorem gStart : Tryd.prog.globalNamed "apostille/sha.start" = some 0 := by kernel_rfl
theorem gSteps : Tryd.prog.globalNamed "apostille/sha.steps" = some 1 := by kernel_rfl
theorem tStart : (Tryd.prog.globals[0]?).map (·.type) = some 42 := by kernel_rfl
theorem tSteps : (Tryd.prog.globals[1]?).map (·.type) = some 50 := by kernel_rfl
theorem start_eq : (Rows.laid_apostille_sha_start : DataW Unit) = Lib.tabData .u32 ((lst h0).map u) := by kernel_rfl
theorem steps_eq : (Rows.laid_apostille_sha_steps : DataW Unit) = Lib.tabData .u32 (kl.map u) := by kernel_rfl
theorem tabs_of_laid {W : World} (hL : laidMetH Tryd.prog laidL W) : Tabs W := by
  rw [MakeChecks.laidMetH_plain _ _ _ (by kernel_rfl)] at hL
  have h3 : Lib.VarReads Tryd.prog W "apostille/sha.start" (Lib.tabData .u32 ((lst h0).map u)) := start_eq ▸ Lib.laidMet.reads hL (.head _)
  have h4 : Lib.VarReads Tryd.prog W "apostille/sha.steps" (Lib.tabData .u32 (kl.map u)) := steps_eq ▸ Lib.laidMet.reads hL (.tail _ (.head _))
  have hst : W.rangeAt 1 0 (u32c kl) := fun j v hv => by
    obtain ⟨g, t, cs, fuel, p, hg, hty, hvar, hd⟩ := h4
    obtain rfl := Option.some.inj (gSteps.symm.trans hg)
    obtain rfl := Option.some.inj (tSteps.symm.trans hty)
    have hcs := Lib.cells_of_tab Tryd.underlying50 Tryd.underlying41 c36 c47 hd
    rw [Nat.zero_add, World.var?_cell hg hvar j, ← Array.getElem?_toList, hcs, List.map_map]
    exact hv
  refine ⟨?_, fun j v hv => ?_, hst⟩
  · have := block_lt_of_cell (hst 0 _ (u32c_at (l := kl) (i := 0) (by decide)))
    exact this
  · obtain ⟨g, t, cs, fuel, p, hg, hty, hvar, hd⟩ := h3
    obtain rfl := Option.some.inj (gStart.symm.trans hg)
    obtain rfl := Option.some.inj (tStart.symm.trans hty)
    have hcs := Lib.cells_of_tab Tryd.underlying42 Tryd.underlying41 c36 c37 hd
    rw [Nat.zero_add, World.var?_cell hg hvar j, ← Array.getElem?_toList, hcs, List.map_map]
    exact hv
theorem start_met (os : Os) (args : Array Value) : laidMetH Tryd.prog laidL ((World.laidAll Tryd.prog os laidL).forCall (fun _ _ => 0) ⟨#[], args, []⟩).memory := by
  rw [MakeChecks.laidMetH_plain _ _ _ (by kernel_rfl)]; exact laidMet_laidAll _ (by kernel_rfl) (by kernel_rfl)
/-- A number that a byte holds is a byte. -/
theorem byte_num {z : Int} (h : (Lit.int .u8 z).wf = true) : z = v8 z.toNat.toUInt8 := by
  simp [Lit.wf, IntKind.min, IntKind.max, IntKind.signed, IntKind.bits] at h
  unfold v8
  have : z.toNat.toUInt8.toNat = z.toNat := by rw [Nat.toUInt8, UInt8.toNat_ofNat']; omega
  rw [this]; omega
theorem open_a32 {H : Type} {enc : TypeId × Value → H} {W : World} {base : Nat} {v : Value} {d : DataW H} {ps : List MemPlace} (hv : Value.okWide Tryd.prog W .any base 25 v)
    (h : DataW.Trod enc Tryd.prog W 0 (fun _ => true) true 25 v d ps) : ∃ s : List UInt8, s.length = 32 ∧ v = .agg (u8c s).toArray := by
  simp only [Value.okWide, Tryd.underlying25] at hv
  obtain ⟨cs, rfl, hsz, _⟩ := hv
  rw [c25] at hsz
  obtain ⟨fuel, hf⟩ := h
  obtain ⟨xs, m, _, _, _, hxl, hx⟩ := DataW.trod_array Tryd.underlying25 hf
  have hcell : ∀ i (hi : i < 32), ∃ z, cs[i]? = some (.int .u8 z) ∧ (Lit.int .u8 z).wf = true := fun i hi => by
    have h1 := hx i hi
    rw [c5, Nat.mul_one, List.getElem?_eq_getElem (by omega)] at h1
    obtain ⟨n, hn, _, hw⟩ := DataW.trod_int Tryd.underlying5 h1
    refine ⟨n, ?_, hw⟩
    have h2 := congrArg (·[0]?) hn
    simp only [List.getElem?_take, List.getElem?_drop, Value.cells] at h2
    simpa using h2
  refine ⟨cs.toList.map fun v => (intOf v).toNat.toUInt8, by simpa using hsz, ?_⟩
  congr 1
  apply Array.ext_getElem?
  intro i
  rcases Nat.lt_or_ge i 32 with hi | hi
  · obtain ⟨z, hz, hw⟩ := hcell i hi
    rw [hz, List.getElem?_toArray]
    simp only [u8c, List.map_map, List.getElem?_map, Array.getElem?_toList, hz, Option.map_some, Function.comp, intOf]
    rw [← byte_num hw]
  · rw [Array.getElem?_eq_none (by omega), List.getElem?_toArray, List.getElem?_eq_none (by rw [u8c_length, List.length_map, Array.length_toList]; omega)]
theorem open_u8 {H : Type} {enc : TypeId × Value → H} {W : World} {base : Nat} {v : Value} {d : DataW H} {ps : List MemPlace} (hv : Value.okWide Tryd.prog W .any base 22 v)
    (h : DataW.Trod enc Tryd.prog W 0 (fun _ => true) true 22 v d ps) :
    ∃ A bs cap, v = .slice A bs.length cap ∧ bs.length ≤ cap ∧ cap ≤ 9223372036854775807 ∧ (bs ≠ [] → ∃ b o, A = some ⟨b, o, none⟩ ∧ b < W.heap.size ∧ W.rangeAt b o (u8c bs)) := by
  obtain ⟨a0, len, cap, rfl⟩ := okWide_slice Tryd.underlying22 hv
  obtain ⟨fuel, hf⟩ := h
  rcases open_ints Tryd.underlying22 Tryd.underlying5 c5 hf with ⟨hcs, hx⟩ | ⟨a, len', cap', zs, hcs, _, hl, hm, hz, hx, hcell, hwz⟩
  · simp [Value.cells] at hcs
    obtain ⟨rfl, rfl, rfl⟩ := hcs
    exact ⟨none, [], 0, rfl, Nat.le_refl _, by omega, fun h => absurd rfl h⟩
  · simp [Value.cells] at hcs
    obtain ⟨rfl, rfl, rfl⟩ := hcs
    simp only [if_true] at hz
    have hlen : ((zs.take len).map fun z => z.toNat.toUInt8).length = len := by rw [List.length_map, List.length_take]; omega
    refine ⟨some a, (zs.take len).map fun z => z.toNat.toUInt8, cap, by rw [hlen], by rw [hlen]; exact hl, by unfold maxLen at hm; exact hm, fun hne => ?_⟩
    have h0 : 0 < len := by
      rcases Nat.eq_zero_or_pos len with h | h
      · subst h; simp at hne
      · exact h
    obtain ⟨b, o, rfl, hc'⟩ := ints_at hcell (by omega)
    refine ⟨b, o, rfl, block_lt_of_cell (a := ⟨b, o + 0, none⟩) (hc' 0 (by omega)), fun j v hv => ?_⟩
    have hj : j < len := by
      have := (List.getElem?_eq_some_iff.1 hv).1
      rwa [u8c_length, hlen] at this
    rw [hc' j (by omega), ← hv]
    simp only [u8c, List.map_map, List.getElem?_map, List.getElem?_take_of_lt hj, List.getElem?_eq_getElem (show j < zs.length by omega), Option.map_some, Function.comp, List.getD_eq_getElem?_getD, Option.getD_some]
    rw [← byte_num (hwz _ (List.getElem_mem _))]
end Go.Proofs.YtlndjmpopoihnaaDoor
