/-
  doc.copies of declarations and of attributes: lists in new memory. Conditions: the lists lie as they are; there are not too many, the texts are not too long.
-/
import Derived.Test.YtalcmhngebobnaaDoorDCopy
import Derived.Test.YtalcmhngebobnaaDoorDScope
namespace Go.Proofs.YtalcmhngebobnaaDoor
open Go.RowKit
set_option linter.unusedVariables false
set_option maxRecDepth 100000
/-- A slice of its own block, from block B on, or nil. -/
def OwnSl (w : World) (B e : Nat) (v : Value) (n : Nat) (cs : List Value) : Prop :=
  (n = 0 ∧ v = .slice none 0 0) ∨ ∃ g, v = .slice (some ⟨g, 0, none⟩) n n ∧ B ≤ g ∧ w.heap[g]? = some (.cells cs.toArray e (0, 0))
theorem OwnSl.later {w w' : World} {B e n : Nat} {v : Value} {cs : List Value} (h : OwnSl w B e v n cs) (hb : Below w.heap.size w w') : OwnSl w' B e v n cs := by
  rcases h with h | ⟨g, h1, h2, h3⟩
  · exact .inl h
  · exact .inr ⟨g, h1, h2, (hb.block g (block_lt h3)).trans h3⟩
theorem OwnSl.mono {w : World} {B B' e n : Nat} {v : Value} {cs : List Value} (h : OwnSl w B e v n cs) (hb : B' ≤ B) : OwnSl w B' e v n cs := by
  rcases h with h | ⟨g, h1, h2, h3⟩
  · exact .inl h
  · exact .inr ⟨g, h1, by omega, h3⟩
theorem OwnSl.at {w : World} {B e n : Nat} {v : Value} {cs : List Value} (h : OwnSl w B e v n cs) (hn : n ≤ 9223372036854775807) (h0 : n = 0 → cs = []) : SlAt w w.heap.size v n cs := by
  rcases h with ⟨rfl, rfl⟩ | ⟨g, rfl, _, h3⟩
  · exact ⟨none, 0, rfl, Nat.le_refl _, by omega, fun hne => absurd (h0 rfl) hne⟩
  · refine ⟨some ⟨g, 0, none⟩, n, rfl, Nat.le_refl _, hn, fun _ => ⟨g, 0, rfl, block_lt h3, fun j hj => ?_⟩⟩
    rw [Nat.zero_add, cell_of_row w g j _ _ _ h3]
    simp [hj]
theorem take_step {cur : Array Value} {cs : List Value} {m : Nat} {a : Value} (h : cur.toList.take m = cs.take m) (hm : m < cur.size) (e : cs[m]? = some a) : (cur.setIfInBounds m a).toList.take (m + 1) = cs.take (m + 1) := by
  apply List.ext_getElem?
  intro j
  rw [List.getElem?_take, List.getElem?_take]
  by_cases hj : j < m + 1
  · rw [if_pos hj, if_pos hj, Array.getElem?_toList, Array.getElem?_setIfInBounds]
    by_cases he : m = j
    · subst he; rw [if_pos rfl, if_pos hm, e]
    · rw [if_neg he, ← Array.getElem?_toList]
      have h1 := congrArg (·[j]?) h
      simp only [List.getElem?_take] at h1
      rwa [if_pos (by omega), if_pos (by omega)] at h1
  · rw [if_neg hj, if_neg hj]
/-- What holds at each round's head. -/
def CpRel (w : World) (g e n c : Nat) (cs : List Value) (i : Value) (wr : World) : Prop :=
  ∃ (k : Nat) (cur : Array Value), k ≤ n ∧ i = .int .i64 k ∧ wr.heap[g]? = some (.cells cur e (0, 0)) ∧ cur.size = n * c ∧ cur.toList.take (k * c) = cs.take (k * c) ∧ Below w.heap.size w wr
theorem dcopies_anyInfo : (Tryd.prog.info? 37).map (fun i => (i.zero, i.size, i.bytes)) = some (some (.agg #[.string ⟨#[]⟩, .string ⟨#[]⟩]), 2, 32) := by kernel_rfl
set_option maxHeartbeats 8000000 in
theorem dcopies_any (ds : List Dc) (v : Value) (w : World) (hv : DsAt w w.heap.size v ds) (hn : ds.length ≤ 2000000) (hs : ∀ d ∈ ds, d.p.size ≤ 2000000 ∧ d.u.size ≤ 2000000) :
    Calls Tryd.prog 25 #[v, .func (.func 26) #[] #[]] w fun e w' => ∃ v', e = .returned v' ∧ OwnSl w' w.heap.size 37 v' ds.length (ds.flatMap dcC) ∧ Below w.heap.size w w' := by
  have HV : Hid (DsAt w w.heap.size v ds) := hv
  obtain ⟨A, cap, rfl, hc1, hc2, _⟩ := hv
  obtain ⟨n, hnE⟩ : ∃ n, ds.length = n := ⟨_, rfl⟩
  have HN := Lib.hid hnE
  rw [hnE] at hn hc1 ⊢
  clear hnE
  rcases Nat.eq_zero_or_pos n with h0 | h0
  · subst h0
    go_enter Tryd.func25, Tryd.ntmps25
    go_wp2
    go_ret
    exact ⟨_, rfl, .inl ⟨rfl, rfl⟩, Below.refl _ _⟩
  · obtain ⟨i0, hi, hz0, hz1, hz2⟩ := info_parts dcopies_anyInfo
    have hnz : ((n : Int) == 0) = false := by rw [beq_eq_false_iff_ne]; omega
    obtain ⟨M, hM⟩ : ∃ M, M = madeCells (Value.agg #[.string ⟨#[]⟩, .string ⟨#[]⟩]).cells (((n : Nat) : Int).toNat * i0.size) := ⟨_, rfl⟩
    have hMs : M.size = n * 2 := by rw [hM, size_madeCells, hz1]; simp
    have hmk : ∀ W : World, (Instr.makeSlice 25 (.int .i64 (n : Int)) (.int .i64 (n : Int))).run Tryd.prog W = .ok (.slice (some ⟨W.heap.size, 0, none⟩) n n) (W.alloc (.cells M 37)) := fun W => by
      have h := run_make (P := Tryd.prog) W 25 37 i0 _ Tryd.underlying25 hi hz0 .i64 .i64 (n : Int) (n : Int) (by omega) (by omega) (by rw [hz2]; omega) (by omega)
      rw [← hM] at h
      simpa using h
    clear hM
    obtain ⟨q, hqE⟩ : ∃ q, w.heap.size = q := ⟨_, rfl⟩
    have HQE := Lib.hid hqE
    have HMS := Lib.hid hMs
    have hwl : w.heap.size < (w.alloc (.cells M 37)).heap.size := by simp
    clear hqE hMs
    go_enter Tryd.func25, Tryd.ntmps25
    go_wp2
    clear hmk
    go_loopw [16] (CpRel w w.heap.size 37 n 2 (ds.flatMap dcC)) (fun i _ => n - (intOf i).toNat)
    case atStart => exact ⟨0, M, Nat.zero_le _, rfl, heap_alloc_last w _, HMS.out, by simp, (Below.refl _ _).alloc (Nat.le_refl _) _⟩
    case round =>
      obtain ⟨k, cur, hk, rfl, hcur, hcs, htk, hb⟩ := hrel
      have HTK := Lib.hid htk
      clear htk
      by_cases hlt : k < n
      · have hkl : k < ds.length := by rw [HN.out]; exact hlt
        obtain ⟨b, o, cap', e, _, _, hbB, hcell⟩ := DsAt.open (SlAt.below HV.out hb) (by omega)
        simp only [Value.slice.injEq] at e
        obtain ⟨rfl, _, rfl⟩ := e
        obtain ⟨d0, d1⟩ := hcell k hkl
        have hsd := hs _ (List.getElem_mem hkl)
        have HCP := Lib.hid (fun w' => declCopy_any ds[k].p ds[k].u hsd.1 hsd.2 w')
        have hkz : (k : Int) < (n : Int) := by omega
        have HFL : Hid (∀ j (hj : j < 2), (ds.flatMap dcC)[k * 2 + j]? = (dcC ds[k])[j]?) := fun j hj => flat_at (f := dcC) (c := 2) (fun _ => rfl) ds k j hkl hj
        generalize ds[k] = x at *
        clear hcell
        go_wp2_with fail
        refine (HCP.out _).mono ?_
        rintro e w1 ⟨rfl, hb1⟩
        have hbw := below_box hb1
        have hcur1 : w1.heap[w.heap.size]? = some (.cells cur 37 (0, 0)) := (hbw.block _ (block_lt hcur)).trans hcur
        have hfz : ∀ j, w1.frozen? ⟨w.heap.size, j, none⟩ = false := fun j => by unfold World.frozen?; rw [hcur1]; simp
        have g0 : w1.cell? ⟨w.heap.size, k * 2, none⟩ = some cur[k * 2] := by rw [cell_of_row w1 w.heap.size _ _ _ _ hcur1]; exact Array.getElem?_eq_getElem (by omega)
        have g1 : w1.cell? ⟨w.heap.size, k * 2 + 1, none⟩ = some cur[k * 2 + 1] := by rw [cell_of_row w1 w.heap.size _ _ _ _ hcur1]; exact Array.getElem?_eq_getElem (by omega)
        have HNX : Hid (CpRel w w.heap.size 37 n 2 (ds.flatMap dcC) (.int .i64 ((k + 1 : Nat) : Int)) (((w1.setCell ⟨w.heap.size, k * 2, none⟩ (.string x.p)).setCell ⟨w.heap.size, k * 2 + 1, none⟩ (.string x.u)))) := by
          refine ⟨k + 1, _, hlt, rfl, block_set (block_set (hcur1)), by simpa using hcs, ?_, (((hb.trans (hbw.mono hb.size)).setCell (p := ⟨w.heap.size, k * 2, none⟩) (Nat.le_refl _) _).setCell (p := ⟨w.heap.size, k * 2 + 1, none⟩) (Nat.le_refl _) _)⟩
          rw [show (k + 1) * 2 = k * 2 + 2 by omega]
          have f0 := HFL.out 0 (by omega)
          have f1 := HFL.out 1 (by omega)
          rw [Nat.add_zero] at f0
          exact take_step (take_step (HTK.out) (by first | omega | (simp; omega)) f0) (by first | omega | (simp; omega)) f1
        clear hbw hb1
        go_wp2
        go_roundw
        case rel => exact (show Value.int .i64 ((k + 1 : Nat) : Int) = _ by go_num) ▸ HNX.out
        case measure => simp [intOf]; omega
      · have hkn : k = n := by omega
        subst hkn
        have hkz : ¬ (k : Int) < (k : Int) := by omega
        have hfin : cur = (ds.flatMap dcC).toArray := by
          have h := HTK.out
          rw [List.take_of_length_le (by rw [Array.length_toList]; omega), List.take_of_length_le (by rw [flat_length (f := dcC) (c := 2) (fun _ => rfl), HN.out]; exact Nat.le_refl _)] at h
          rw [← h]
        have HF : Hid (wr.heap[w.heap.size]? = some (.cells (ds.flatMap dcC).toArray 37 (0, 0))) := by rw [← hfin]; exact hcur
        clear hfin hcur
        go_wp2
        go_ret
        exact ⟨_, rfl, .inr ⟨_, rfl, Nat.le_refl _, HF.out⟩, hb⟩
theorem acopies_anyInfo : (Tryd.prog.info? 35).map (fun i => (i.zero, i.size, i.bytes)) = some (some (.agg #[.string ⟨#[]⟩, .string ⟨#[]⟩, .string ⟨#[]⟩, .string ⟨#[]⟩]), 4, 64) := by kernel_rfl
set_option maxHeartbeats 8000000 in
theorem acopies_any (ats : List At) (v : Value) (w : World) (hv : AsAt w w.heap.size v ats) (hn : ats.length ≤ 2000000) (hs : ∀ a ∈ ats, a.p.size ≤ 2000000 ∧ a.l.size ≤ 2000000 ∧ a.u.size ≤ 2000000 ∧ a.v.size ≤ 2000000) :
    Calls Tryd.prog 27 #[v, .func (.func 28) #[] #[]] w fun e w' => ∃ v', e = .returned v' ∧ OwnSl w' w.heap.size 35 v' ats.length (ats.flatMap atC) ∧ Below w.heap.size w w' := by
  have HV : Hid (AsAt w w.heap.size v ats) := hv
  obtain ⟨A, cap, rfl, hc1, hc2, _⟩ := hv
  obtain ⟨n, hnE⟩ : ∃ n, ats.length = n := ⟨_, rfl⟩
  have HN := Lib.hid hnE
  rw [hnE] at hn hc1 ⊢
  clear hnE
  rcases Nat.eq_zero_or_pos n with h0 | h0
  · subst h0
    go_enter Tryd.func27, Tryd.ntmps27
    go_wp2
    go_ret
    exact ⟨_, rfl, .inl ⟨rfl, rfl⟩, Below.refl _ _⟩
  · obtain ⟨i0, hi, hz0, hz1, hz2⟩ := info_parts acopies_anyInfo
    have hnz : ((n : Int) == 0) = false := by rw [beq_eq_false_iff_ne]; omega
    obtain ⟨M, hM⟩ : ∃ M, M = madeCells (Value.agg #[.string ⟨#[]⟩, .string ⟨#[]⟩, .string ⟨#[]⟩, .string ⟨#[]⟩]).cells (((n : Nat) : Int).toNat * i0.size) := ⟨_, rfl⟩
    have hMs : M.size = n * 4 := by rw [hM, size_madeCells, hz1]; simp
    have hmk : ∀ W : World, (Instr.makeSlice 26 (.int .i64 (n : Int)) (.int .i64 (n : Int))).run Tryd.prog W = .ok (.slice (some ⟨W.heap.size, 0, none⟩) n n) (W.alloc (.cells M 35)) := fun W => by
      have h := run_make (P := Tryd.prog) W 26 35 i0 _ Tryd.underlying26 hi hz0 .i64 .i64 (n : Int) (n : Int) (by omega) (by omega) (by rw [hz2]; omega) (by omega)
      rw [← hM] at h
      simpa using h
    clear hM
    obtain ⟨q, hqE⟩ : ∃ q, w.heap.size = q := ⟨_, rfl⟩
    have HQE := Lib.hid hqE
    have HMS := Lib.hid hMs
    have hwl : w.heap.size < (w.alloc (.cells M 35)).heap.size := by simp
    clear hqE hMs
    go_enter Tryd.func27, Tryd.ntmps27
    go_wp2
    clear hmk
    go_loopw [16] (CpRel w w.heap.size 35 n 4 (ats.flatMap atC)) (fun i _ => n - (intOf i).toNat)
    case atStart => exact ⟨0, M, Nat.zero_le _, rfl, heap_alloc_last w _, HMS.out, by simp, (Below.refl _ _).alloc (Nat.le_refl _) _⟩
    case round =>
      obtain ⟨k, cur, hk, rfl, hcur, hcs, htk, hb⟩ := hrel
      have HTK := Lib.hid htk
      clear htk
      by_cases hlt : k < n
      · have hkl : k < ats.length := by rw [HN.out]; exact hlt
        obtain ⟨b, o, cap', e, _, _, hbB, hcell⟩ := AsAt.open (SlAt.below HV.out hb) (by omega)
        simp only [Value.slice.injEq] at e
        obtain ⟨rfl, _, rfl⟩ := e
        obtain ⟨d0, d1, d2, d3⟩ := hcell k hkl
        have hsd := hs _ (List.getElem_mem hkl)
        have HCP := Lib.hid (fun w' => attrCopy_any ats[k].p ats[k].l ats[k].u ats[k].v hsd.1 hsd.2.1 hsd.2.2.1 hsd.2.2.2 w')
        have hkz : (k : Int) < (n : Int) := by omega
        have HFL : Hid (∀ j (hj : j < 4), (ats.flatMap atC)[k * 4 + j]? = (atC ats[k])[j]?) := fun j hj => flat_at (f := atC) (c := 4) (fun _ => rfl) ats k j hkl hj
        generalize ats[k] = x at *
        clear hcell
        go_wp2_with fail
        refine (HCP.out _).mono ?_
        rintro e w1 ⟨rfl, hb1⟩
        have hbw := below_box hb1
        have hcur1 : w1.heap[w.heap.size]? = some (.cells cur 35 (0, 0)) := (hbw.block _ (block_lt hcur)).trans hcur
        have hfz : ∀ j, w1.frozen? ⟨w.heap.size, j, none⟩ = false := fun j => by unfold World.frozen?; rw [hcur1]; simp
        have g0 : w1.cell? ⟨w.heap.size, k * 4, none⟩ = some cur[k * 4] := by rw [cell_of_row w1 w.heap.size _ _ _ _ hcur1]; exact Array.getElem?_eq_getElem (by omega)
        have g1 : w1.cell? ⟨w.heap.size, k * 4 + 1, none⟩ = some cur[k * 4 + 1] := by rw [cell_of_row w1 w.heap.size _ _ _ _ hcur1]; exact Array.getElem?_eq_getElem (by omega)
        have g2 : w1.cell? ⟨w.heap.size, k * 4 + 2, none⟩ = some cur[k * 4 + 2] := by rw [cell_of_row w1 w.heap.size _ _ _ _ hcur1]; exact Array.getElem?_eq_getElem (by omega)
        have g3 : w1.cell? ⟨w.heap.size, k * 4 + 3, none⟩ = some cur[k * 4 + 3] := by rw [cell_of_row w1 w.heap.size _ _ _ _ hcur1]; exact Array.getElem?_eq_getElem (by omega)
        have HNX : Hid (CpRel w w.heap.size 35 n 4 (ats.flatMap atC) (.int .i64 ((k + 1 : Nat) : Int)) (((((w1.setCell ⟨w.heap.size, k * 4, none⟩ (.string x.p)).setCell ⟨w.heap.size, k * 4 + 1, none⟩ (.string x.l)).setCell ⟨w.heap.size, k * 4 + 2, none⟩ (.string x.u)).setCell ⟨w.heap.size, k * 4 + 3, none⟩ (.string x.v)))) := by
          refine ⟨k + 1, _, hlt, rfl, block_set (block_set (block_set (block_set (hcur1)))), by simpa using hcs, ?_, (((((hb.trans (hbw.mono hb.size)).setCell (p := ⟨w.heap.size, k * 4, none⟩) (Nat.le_refl _) _).setCell (p := ⟨w.heap.size, k * 4 + 1, none⟩) (Nat.le_refl _) _).setCell (p := ⟨w.heap.size, k * 4 + 2, none⟩) (Nat.le_refl _) _).setCell (p := ⟨w.heap.size, k * 4 + 3, none⟩) (Nat.le_refl _) _)⟩
          rw [show (k + 1) * 4 = k * 4 + 4 by omega]
          have f0 := HFL.out 0 (by omega)
          have f1 := HFL.out 1 (by omega)
          have f2 := HFL.out 2 (by omega)
          have f3 := HFL.out 3 (by omega)
          rw [Nat.add_zero] at f0
          exact take_step (take_step (take_step (take_step (HTK.out) (by first | omega | (simp; omega)) f0) (by first | omega | (simp; omega)) f1) (by first | omega | (simp; omega)) f2) (by first | omega | (simp; omega)) f3
        clear hbw hb1
        go_wp2
        go_roundw
        case rel => exact (show Value.int .i64 ((k + 1 : Nat) : Int) = _ by go_num) ▸ HNX.out
        case measure => simp [intOf]; omega
      · have hkn : k = n := by omega
        subst hkn
        have hkz : ¬ (k : Int) < (k : Int) := by omega
        have hfin : cur = (ats.flatMap atC).toArray := by
          have h := HTK.out
          rw [List.take_of_length_le (by rw [Array.length_toList]; omega), List.take_of_length_le (by rw [flat_length (f := atC) (c := 4) (fun _ => rfl), HN.out]; exact Nat.le_refl _)] at h
          rw [← h]
        have HF : Hid (wr.heap[w.heap.size]? = some (.cells (ats.flatMap atC).toArray 35 (0, 0))) := by rw [← hfin]; exact hcur
        clear hfin hcur
        go_wp2
        go_ret
        exact ⟨_, rfl, .inr ⟨_, rfl, Nat.le_refl _, HF.out⟩, hb⟩
end Go.Proofs.YtalcmhngebobnaaDoor
