/-
  Arguments that are slices of bytes or of numbers, opened into what the walks ask. Conditions: none.
-/
import Derived.Test.YtboanbnpahejeaaDoorLaid
import Derived.OpenShut
import Derived.Stop.Joined
namespace Go.Proofs.YtboanbnpahejeaaDoor
open Go.ChangeShapes Go.WideShapes Go.ChangeAt Go.RowKit
theorem laidOut : laidOutB Tryd.prog = true := by kernel_rfl
theorem c21 : Tryd.prog.cellsOf 21 = 1 := by kernel_rfl
theorem lt_of_cell {W : World} {b o : Nat} {v : Value} (h : W.cell? ⟨b, o, none⟩ = some v) : b < W.heap.size := by
  rcases Nat.lt_or_ge b W.heap.size with hlt | hge
  · exact hlt
  · rw [World.cell?, Array.getElem?_eq_none hge] at h; cases h
theorem lies_ints {W : World} {k : IntKind} {a : Addr} {len : Nat} {zs : List Int} (hlen : len ≤ zs.length) (hc : ∀ i, i < zs.length → W.cell? (a.add i) = some (.int k (zs.getD i 0))) :
    Lies W W.heap.size (some a) ((zs.take len).map (Value.int k)) := fun hne => by
  have h0 : 0 < len := by
    rcases Nat.eq_zero_or_pos len with h | h
    · subst h; simp at hne
    · exact h
  obtain ⟨b, o, rfl, hc'⟩ := ints_at hc (by omega)
  refine ⟨b, o, rfl, lt_of_cell (hc' 0 (by omega)), fun j hj => ?_⟩
  have hj' : j < len ∧ j < zs.length := by rw [List.length_map, List.length_take] at hj; omega
  rw [hc' j hj'.2]
  simp [List.getD_eq_getElem?_getD, List.getElem?_eq_getElem hj'.2]
theorem open_u8 {H : Type} {enc : TypeId × Value → H} {W : World} {base : Nat} {v : Value} {d : DataW H} {ps : List MemPlace} (hv : Value.okWide Tryd.prog W .any base 22 v)
    (h : DataW.Trod enc Tryd.prog W 0 (fun _ => true) true 22 v d ps) :
    ∃ A bs cap, v = .slice A bs.length cap ∧ bs.length ≤ cap ∧ cap ≤ 9223372036854775807 ∧ Lies W W.heap.size A (u8c bs) ∧ (A = none → cap = 0) := by
  obtain ⟨a0, len, cap, rfl⟩ := okWide_slice Tryd.underlying22 hv
  obtain ⟨fuel, hf⟩ := h
  rcases open_ints Tryd.underlying22 Tryd.underlying5 c5 hf with ⟨hcs, hx⟩ | ⟨a, len', cap', zs, hcs, _, hl, hm, hz, hx, hcell, hwz⟩
  · simp [Value.cells] at hcs
    obtain ⟨rfl, rfl, rfl⟩ := hcs
    exact ⟨none, [], 0, rfl, Nat.le_refl _, by omega, fun h => absurd rfl h, fun _ => rfl⟩
  · simp [Value.cells] at hcs
    obtain ⟨rfl, rfl, rfl⟩ := hcs
    simp only [if_true] at hz
    have hb : ∀ z ∈ zs, 0 ≤ z ∧ z < 256 := fun z hz' => by
      have := hwz z hz'
      simp [Lit.wf, IntKind.min, IntKind.max, IntKind.signed, IntKind.bits] at this
      omega
    have e : u8c ((zs.take len).map fun z => z.toNat.toUInt8) = (zs.take len).map (Value.int .u8) := by
      unfold u8c
      rw [List.map_map]
      apply List.map_congr_left
      intro z hz'
      have := hb z (List.mem_of_mem_take hz')
      simp only [Function.comp]
      rw [byte_of this.1 this.2, Int.toNat_of_nonneg this.1]
    have hlen : ((zs.take len).map fun z => z.toNat.toUInt8).length = len := by rw [List.length_map, List.length_take]; omega
    refine ⟨some a, (zs.take len).map fun z => z.toNat.toUInt8, cap, by rw [hlen], by rw [hlen]; exact hl, by unfold maxLen at hm; exact hm, ?_, fun h => by cases h⟩
    rw [e]
    exact lies_ints (by omega) hcell
theorem open_i32 {H : Type} {enc : TypeId × Value → H} {W : World} {base : Nat} {v : Value} {d : DataW H} {ps : List MemPlace} (hv : Value.okWide Tryd.prog W .any base 24 v)
    (h : DataW.Trod enc Tryd.prog W 0 (fun _ => true) true 24 v d ps) :
    ∃ A zs cap, v = .slice A zs.length cap ∧ zs.length ≤ cap ∧ cap ≤ 9223372036854775807 ∧ Lies W W.heap.size A (i32s zs) ∧ (A = none → cap = 0) ∧ ∀ z ∈ zs, -2147483648 ≤ z ∧ z ≤ 2147483647 := by
  obtain ⟨a0, len, cap, rfl⟩ := okWide_slice Tryd.underlying24 hv
  obtain ⟨fuel, hf⟩ := h
  rcases open_ints Tryd.underlying24 Tryd.underlying21 c21 hf with ⟨hcs, hx⟩ | ⟨a, len', cap', zs, hcs, _, hl, hm, hz, hx, hcell, hwz⟩
  · simp [Value.cells] at hcs
    obtain ⟨rfl, rfl, rfl⟩ := hcs
    exact ⟨none, [], 0, rfl, Nat.le_refl _, by omega, fun h => absurd rfl h, fun _ => rfl, fun z hz => by cases hz⟩
  · simp [Value.cells] at hcs
    obtain ⟨rfl, rfl, rfl⟩ := hcs
    simp only [if_true] at hz
    have hlen : (zs.take len).length = len := by rw [List.length_take]; omega
    refine ⟨some a, zs.take len, cap, by rw [hlen], by rw [hlen]; exact hl, by unfold maxLen at hm; exact hm, lies_ints (by omega) hcell, (fun h => by cases h), fun z hz' => ?_⟩
    have := hwz z (List.mem_of_mem_take hz')
    simp [Lit.wf, IntKind.min, IntKind.max, IntKind.signed, IntKind.bits] at this
    omega
end Go.Proofs.YtboanbnpahejeaaDoor
