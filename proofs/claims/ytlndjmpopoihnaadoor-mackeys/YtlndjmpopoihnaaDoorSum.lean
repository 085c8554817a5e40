/-
  sha.Sum: the sum of all parts. Conditions: the tables lie as they were laid; there are not too many bytes.
-/
import Derived.Test.YtlndjmpopoihnaaDoorPad
import Derived.Test.YtlndjmpopoihnaaDoorFin
namespace Go.Proofs.YtlndjmpopoihnaaDoor
open Go.RowKit
/-- A part: where it lies, its bytes, its room. -/
structure Part where
  at_ : Option Addr
  l : List UInt8
  cap : Nat
def Part.val (p : Part) : Value := .slice p.at_ p.l.length p.cap
def Part.lies (w : World) (p : Part) : Prop := p.l.length ≤ p.cap ∧ p.cap ≤ 9223372036854775807 ∧ (p.l ≠ [] → ∃ b o, p.at_ = some ⟨b, o, none⟩ ∧ b < w.heap.size ∧ w.rangeAt b o (u8c p.l))
/-- All bytes of parts. -/
def allOf (ps : List Part) : List UInt8 := ps.flatMap (·.l)
def PartsAt (w : World) (A : Option Addr) (ps : List Part) : Prop := ps ≠ [] → ∃ b o, A = some ⟨b, o, none⟩ ∧ b < w.heap.size ∧ w.rangeAt b o (ps.map Part.val)
theorem Part.lies.below {w w' : World} {p : Part} (h : p.lies w) (hb : Below w.heap.size w w') {R : Nat} (hR : w.heap.size ≤ R) : At8 w' R p.at_ p.l := fun hl => by
  obtain ⟨b, o, e, hlt, hr⟩ := h.2.2 hl
  exact ⟨b, o, e, by omega, Nat.lt_of_lt_of_le hlt hb.size, range_keep hr (hb.block b hlt)⟩
theorem built43 : Tryd.prog.built 47 [(0, .agg (u32c (lst h0)).toArray)] = some (cellsR h0 (List.replicate 64 0) 0).toArray := by kernel_rfl
theorem wpList_build_as {P : Program} {ops : Array Oper} {rest : List Oper} {o : Oper} {a : Act} {w : World} {Q : Exit → Act → World → Prop} (hg : o.guard = none) (t : TypeId) (parts : Array (Nat × Operand)) (ho : o.op = .build t parts)
    (ps : List (Nat × Value)) (hp : parts.toList.map (fun p => (p.1, a.eval p.2)) = ps) (cs : Array Value) (hf : P.built t ps = some cs) (h : wpList P ops Q rest (a.put o.dst (.agg cs)) w) : wpList P ops Q (o :: rest) a w := by
  have e : (parts.map fun (i, x) => (i, a.eval x)).toList = ps := by rw [← hp, Array.toList_map]
  exact wpList_build hg t parts ho (by rw [e, hf]; rfl) (by rw [e, hf]; exact h)
theorem cellsR_one (s : S8) (q : List UInt8) (n : Nat) : (cellsR s q n).toArray.all (·.oneCell') = true := by
  unfold cellsR
  rw [List.all_toArray, List.all_append, List.all_append]
  simp [u8c, u32c, Value.oneCell']
def SM (R : Nat) (ps : List Part) (w : World) (i : Value) (wr : World) : Prop :=
  ∃ k : Nat, k ≤ ps.length ∧ i = .int .i64 k ∧ (∃ z, Holds wr w.heap.size 25 z ∧ z.length = 32) ∧ Sta wr R (allOf (ps.take k)) ∧ Tabs wr ∧ Below w.heap.size w wr
set_option maxHeartbeats 400000 in
theorem sum_any (A : Option Addr) (ps : List Part) (cap : Nat) (w : World) (hA : PartsAt w A ps) (hps : ∀ p ∈ ps, p.lies w) (hl : ps.length ≤ 1000000000) (hn : (allOf ps).length ≤ 1000000000000000000) (hT : Tabs w) :
    Calls Tryd.prog 12 #[.slice A ps.length cap] w fun e w' => e = .returned (.agg (u8c (sha (allOf ps))).toArray) ∧ Below w.heap.size w w' := by
  obtain ⟨Y, hYl, hY⟩ : ∃ Y : List Value, Y.length = 73 ∧ ∀ w, (zeroValue 47).run Tryd.prog w = .ok (.agg Y.toArray) w := ⟨cellsR ⟨0, 0, 0, 0, 0, 0, 0, 0⟩ (List.replicate 64 0) 0, rfl, fun w => by kernel_rfl⟩
  have HST : Hid (∀ O, (w.alloc O).rangeAt 0 0 (u32c (lst h0))) := fun O => (hT.below ((Below.refl w.heap.size w).alloc (Nat.le_refl _) O) hT.two).start
  have HI : Hid ((Tryd.prog.info? 42).map (·.size) = some (u32c (lst h0)).length) := by unfold Hid; kernel_rfl
  obtain ⟨q0, hq0, hbt, hi43⟩ : ∃ q0 : List UInt8, q0.length = 64 ∧ Tryd.prog.built 47 [(0, .agg (u32c (lst h0)).toArray)] = some (cellsR h0 q0 0).toArray ∧ (Tryd.prog.info? 47).map (·.size) = some (cellsR h0 q0 0).toArray.size := ⟨List.replicate 64 0, rfl, built43, by kernel_rfl⟩
  have HQ := Lib.hid hq0
  have HBT := Lib.hid hbt
  have HI43 := Lib.hid hi43
  have HY : Hid (Y.toArray.size = (cellsR h0 q0 0).toArray.size) := by unfold Hid; rw [List.size_toArray, List.size_toArray, hYl, cellsR_length hq0]
  have HSM : Hid (∀ z : List Value, z.length = 32 → SM (w.heap.size + 1) ps w (.int .i64 0) (((w.alloc (.cells z.toArray 25)).alloc (.cells Y.toArray 47)).setRow (w.heap.size + 1) (cellsR h0 q0 0).toArray)) := by
    intro z hzl
    have hb1 : Below w.heap.size w (((w.alloc (.cells z.toArray 25)).alloc (.cells Y.toArray 47)).setRow (w.heap.size + 1) (cellsR h0 q0 0).toArray) := below_row (((Below.refl _ _).alloc (Nat.le_refl _) _).alloc (by simp) _) (by omega) _
    refine ⟨0, by omega, rfl, ⟨z, ((Holds.fresh w _ z).alloc _).rowFar (by omega) _, hzl⟩, ?_, hT.below hb1 hT.two, hb1⟩
    refine ⟨h0, q0, St.start q0 hq0, ?_⟩
    have h1 : Holds ((w.alloc (.cells z.toArray 25)).alloc (.cells Y.toArray 47)) (w.heap.size + 1) 47 Y := heap_alloc2_new _ _ _
    exact h1.row _
  have HT := Lib.hid hT
  have HPS := Lib.hid hps
  have HA := Lib.hid hA
  clear hYl hq0 hbt hi43 hT hps hA
  go_enter Tryd.func12, Tryd.ntmps12
  go_wp2_with (first | (refine wpList_load_mid rfl 42 _ rfl 0 0 rfl (u32c (lst h0)) _ (HST.out _) Tryd.underlying42 rfl HI.out ?_) | (refine wpList_build_as rfl 47 _ rfl [(0, .agg (u32c (lst h0)).toArray)] rfl _ HBT.out ?_) | (refine wpList_store_row rfl 47 _ _ rfl (w.heap.size + 1) _ rfl rfl 47 _ (heap_alloc2_new _ _ _) HI43.out HY.out (cellsR_one _ _ _) ?_))
  go_loopw [10] (SM (w.heap.size + 1) ps w) (fun i _ => ps.length - (intOf i).toNat)
  case atStart => exact HSM.out (List.replicate 32 (.int .u8 0)) rfl
  case round =>
    clear HSM HST HI HI43 HY HBT HQ hY
    obtain ⟨k, hk, rfl, hz, hS, hTr, hb⟩ := hrel
    by_cases hlt : k < ps.length
    · obtain ⟨p, hp⟩ : ∃ p, ps[k] = p := ⟨_, rfl⟩
      have hpm : p ∈ ps := by rw [← hp]; exact List.getElem_mem hlt
      obtain ⟨b, o, rfl, hbw, hra⟩ := HA.out (by intro h; rw [h] at hlt; simp at hlt)
      have hpl := HPS.out p hpm
      have cp : wr.cell? ⟨b, o + k, none⟩ = some (.slice p.at_ p.l.length p.cap) := by
        rw [hb.cell (p := ⟨b, o + k, none⟩) hbw]
        refine hra k _ ?_
        rw [List.getElem?_map, List.getElem?_eq_getElem hlt, hp]; rfl
      have hall : allOf (ps.take (k + 1)) = allOf (ps.take k) ++ p.l := by
        rw [List.take_succ_eq_append_getElem hlt, hp]; simp [allOf]
      have hle : (allOf (ps.take (k + 1))).length ≤ (allOf ps).length := by
        have e : allOf ps = allOf (ps.take (k + 1)) ++ allOf (ps.drop (k + 1)) := by unfold allOf; rw [← List.flatMap_append, List.take_append_drop]
        rw [e, List.length_append]; omega
      have HTAKE := Lib.hid (take_any (w.heap.size + 1) (allOf (ps.take k)) p.l p.at_ p.cap wr hpl.1 hpl.2.1 (hpl.below hb (by omega)) hS hTr (by have := HT.out.two; omega) (by rw [hall, List.length_append] at hle; omega))
      have HALL := Lib.hid hall
      have HZ := Lib.hid hz
      have h2 := HT.out.two
      clear hall hle hp hpm hra hpl hS hz
      have hki : (k : Int) < (ps.length : Int) := by omega
      go_wp2_with (go_at_call 20; ((refine HTAKE.out.mono ?_); rintro e w5 ⟨rfl, hS5, hg5⟩))
      go_roundw
      case rel =>
        refine ⟨k + 1, by omega, by go_num, ?_, by rw [HALL.out]; exact hS5, hTr.one hg5 (by omega), hb.trans (below_one hg5 (by omega) hb.size)⟩
        obtain ⟨z, hz, hzl⟩ := HZ.out
        exact ⟨z, hz.grown hg5 (fun e => by injection e; omega), hzl⟩
      case measure => simp [intOf]; omega
    · have hkl : ps.take k = ps := List.take_of_length_le (by omega)
      rw [hkl] at hS
      have hd : decide ((k : Int) < (ps.length : Int)) = false := by simp; omega
      have h2 := HT.out.two
      have HZ := Lib.hid hz
      have HS := Lib.hid hS
      clear hkl hS hz
      go_wp2_with fail
      refine (pad_any (w.heap.size + 1) (allOf ps) wr HS.out hTr (by omega) hn).mono ?_
      rintro e w5 ⟨rfl, ⟨s, q, hst, hR⟩, hg5⟩
      have hb5 := hb.trans (below_one hg5 (by omega) hb.size)
      have HSE : Hid (out s = sha (allOf ps)) := by unfold Hid sha; rw [hst.sum]
      have HR := Lib.hid hR
      clear hst hR
      go_wp2_with fail
      refine (fin_any (w.heap.size + 1) s q _ w5 HR.out).mono ?_
      rintro e w6 ⟨rfl, hb6⟩
      rw [HSE.out]
      obtain ⟨z, hz, hzl⟩ := HZ.out
      have hz5 := hz.grown hg5 (fun e => by injection e; omega)
      have hz6 := hz5.below hb6 hz5.lt
      have hb7 := hb5.trans (hb6.mono hb5.size)
      have hl' : (u8c (sha (allOf ps))).length = 32 := by rw [u8c_length]; rfl
      have i25 : (Tryd.prog.info? 25).map (·.size) = some (u8c (sha (allOf ps))).toArray.size := by rw [List.size_toArray, hl']; kernel_rfl
      have hzs : z.toArray.size = (u8c (sha (allOf ps))).toArray.size := by rw [List.size_toArray, List.size_toArray, hzl, hl']
      have HI := Lib.hid i25
      have HZS := Lib.hid hzs
      have HZ6 := Lib.hid hz6
      clear i25 hzs hz6 hz5 hz hzl hl' HSE HZ HR HS hg5 hb6 hb5
      have H1 := Lib.hid (u8c_one (sha (allOf ps)))
      go_wp2_with (refine wpList_store_row rfl 25 _ _ rfl w.heap.size _ rfl rfl 25 _ HZ6.out HI.out HZS.out H1.out ?_)
      exact bodyPost_ret (results_cell_row rfl _ _ w.heap.size 25 _ (0, 0) _ rfl (HZ6.out.row _) Tryd.underlying25 rfl HI.out) rfl ⟨rfl, below_row hb7 (Nat.le_refl _) _⟩
theorem Part.lies.later {w w' : World} {p : Part} (h : p.lies w) (hb : Below w.heap.size w w') : p.lies w' := ⟨h.1, h.2.1, fun hl => by
  obtain ⟨b, o, e, hlt, hr⟩ := h.2.2 hl
  exact ⟨b, o, e, Nat.lt_of_lt_of_le hlt hb.size, range_keep hr (hb.block b hlt)⟩⟩
/-- The parts have just been laid. -/
theorem sum_of (ps : List Part) (g : Nat) (w : World) (hg : g = w.heap.size) (hps : ∀ p ∈ ps, p.lies w) (hl : ps.length ≤ 1000000000) (hn : (allOf ps).length ≤ 1000000000000000000) (hT : Tabs w) :
    Calls Tryd.prog 12 #[.slice (some ⟨g, 0, none⟩) ps.length ps.length] (w.alloc (.cells (ps.map Part.val).toArray 22)) fun e w' => e = .returned (.agg (u8c (sha (allOf ps))).toArray) ∧ Below w.heap.size w w' := by
  have hb := (Below.refl w.heap.size w).alloc (Nat.le_refl _) (.cells (ps.map Part.val).toArray 22)
  refine (sum_any (some ⟨g, 0, none⟩) ps ps.length _ (fun _ => ⟨g, 0, rfl, by simp; omega, fun j v hv => ?_⟩) (fun p hp => (hps p hp).later hb) hl hn (hT.below hb hT.two)).mono fun e w' ⟨he, hb'⟩ => ⟨he, hb.trans (hb'.mono hb.size)⟩
  subst hg
  rw [Nat.zero_add, cell_of_row _ _ j _ _ _ (heap_alloc_new w _), List.getElem?_toArray]
  exact hv
end Go.Proofs.YtlndjmpopoihnaaDoor
