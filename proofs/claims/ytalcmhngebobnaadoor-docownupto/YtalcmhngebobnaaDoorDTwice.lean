/-
  doc.declaredTwice and doc.markedTwice: whether two have one key. Conditions: the lists lie as they are; there are not too many; the texts are not too long.
-/
import Derived.Test.YtalcmhngebobnaaDoorDMem
import Derived.Test.YtalcmhngebobnaaDoorNText
import Derived.Maps.Views
import Derived.Maps.OwnSet
import Derived.DeepKeys4
import Derived.StringKeys
namespace Go.Proofs.YtalcmhngebobnaaDoor
open Go.RowKit Go.Maps Go.WideMaps
set_option linter.unusedVariables false
set_option maxRecDepth 100000
theorem laidOut : laidOutB Tryd.prog = true := by kernel_rfl
/-- Where the i-th thing's cells stand. -/
theorem flat_at {α β : Type} {f : α → List β} {c : Nat} (hc : ∀ x, (f x).length = c) : ∀ (l : List α) (i j : Nat) (hi : i < l.length), j < c → (l.flatMap f)[i * c + j]? = (f l[i])[j]?
  | [], i, j, hi, _ => by simp at hi
  | x :: l, 0, j, hi, hj => by
    rw [List.flatMap_cons, Nat.zero_mul, Nat.zero_add, List.getElem?_append_left (by rw [hc]; exact hj)]; rfl
  | x :: l, i + 1, j, hi, hj => by
    rw [List.flatMap_cons, List.getElem?_append_right (by rw [hc, Nat.add_mul]; omega), hc, show (i + 1) * c + j - c = i * c + j by rw [Nat.add_mul]; omega]
    exact flat_at hc l i j (by simpa using hi) hj
theorem flat_length {α β : Type} {f : α → List β} {c : Nat} (hc : ∀ x, (f x).length = c) : ∀ (l : List α), (l.flatMap f).length = l.length * c
  | [] => by simp
  | x :: l => by rw [List.flatMap_cons, List.length_append, hc, flat_length hc l, List.length_cons, Nat.add_mul]; omega
theorem SlAt.open {w : World} {B : Nat} {v : Value} {n c : Nat} {xs : List Value} (h : SlAt w B v n xs) (hl : xs.length = n * c) (hc : 0 < c) (hn : 0 < n) :
    ∃ b o cap, v = .slice (some ⟨b, o, none⟩) n cap ∧ n ≤ cap ∧ cap ≤ 9223372036854775807 ∧ b < B ∧ ∀ j u, xs[j]? = some u → w.cell? ⟨b, o + j, none⟩ = some u := by
  obtain ⟨A, cap, e, h1, h2, h3⟩ := h
  obtain ⟨b, o, rfl, hb, hcell⟩ := h3 (by intro h0; rw [h0] at hl; simp at hl; have := Nat.mul_pos hn hc; omega)
  refine ⟨b, o, cap, e, h1, h2, hb, fun j u hu => ?_⟩
  obtain ⟨hj, hu⟩ := List.getElem?_eq_some_iff.1 hu
  rw [hcell j hj, hu]
/-- A list of declarations, opened. -/
theorem DsAt.open {w : World} {B : Nat} {v : Value} {ds : List Dc} (h : DsAt w B v ds) (hn : 0 < ds.length) :
    ∃ b o cap, v = .slice (some ⟨b, o, none⟩) ds.length cap ∧ ds.length ≤ cap ∧ cap ≤ 9223372036854775807 ∧ b < B ∧ ∀ i (hi : i < ds.length), w.cell? ⟨b, o + i * 2, none⟩ = some (.string ds[i].p) ∧ w.cell? ⟨b, o + i * 2 + 1, none⟩ = some (.string ds[i].u) := by
  obtain ⟨b, o, cap, e, h1, h2, hb, hc⟩ := SlAt.open h (flat_length (c := 2) (fun _ => rfl) ds) (by omega) hn
  refine ⟨b, o, cap, e, h1, h2, hb, fun i hi => ⟨?_, ?_⟩⟩
  · exact hc (i * 2) _ (by have := flat_at (f := dcC) (c := 2) (fun _ => rfl) ds i 0 hi (by omega); rw [Nat.add_zero] at this; rw [this]; rfl)
  · rw [Nat.add_assoc]
    exact hc (i * 2 + 1) _ (by rw [flat_at (f := dcC) (c := 2) (fun _ => rfl) ds i 1 hi (by omega)]; rfl)
/-- A list of attributes, opened. -/
theorem AsAt.open {w : World} {B : Nat} {v : Value} {ats : List At} (h : AsAt w B v ats) (hn : 0 < ats.length) :
    ∃ b o cap, v = .slice (some ⟨b, o, none⟩) ats.length cap ∧ ats.length ≤ cap ∧ cap ≤ 9223372036854775807 ∧ b < B ∧ ∀ i (hi : i < ats.length), w.cell? ⟨b, o + i * 4, none⟩ = some (.string ats[i].p) ∧ w.cell? ⟨b, o + i * 4 + 1, none⟩ = some (.string ats[i].l) ∧
      w.cell? ⟨b, o + i * 4 + 2, none⟩ = some (.string ats[i].u) ∧ w.cell? ⟨b, o + i * 4 + 3, none⟩ = some (.string ats[i].v) := by
  obtain ⟨b, o, cap, e, h1, h2, hb, hc⟩ := SlAt.open h (flat_length (c := 4) (fun _ => rfl) ats) (by omega) hn
  refine ⟨b, o, cap, e, h1, h2, hb, fun i hi => ⟨?_, ?_, ?_, ?_⟩⟩
  · exact hc (i * 4) _ (by have := flat_at (f := atC) (c := 4) (fun _ => rfl) ats i 0 hi (by omega); rw [Nat.add_zero] at this; rw [this]; rfl)
  · rw [Nat.add_assoc]
    exact hc (i * 4 + 1) _ (by rw [flat_at (f := atC) (c := 4) (fun _ => rfl) ats i 1 hi (by omega)]; rfl)
  · rw [Nat.add_assoc]
    exact hc (i * 4 + 2) _ (by rw [flat_at (f := atC) (c := 4) (fun _ => rfl) ats i 2 hi (by omega)]; rfl)
  · rw [Nat.add_assoc]
    exact hc (i * 4 + 3) _ (by rw [flat_at (f := atC) (c := 4) (fun _ => rfl) ats i 3 hi (by omega)]; rfl)
/-- A map whose keys are those of a list. -/
def KeysIn (D : DataW Unit) (L : List Lit) : Prop := Tidy D ∧ (∀ x, has D x = L.any (fun y => y.sameKey x)) ∧ Maps.size D ≤ L.length ∧ (Maps.size D = L.length ↔ L.Nodup)
theorem keysIn_nil : KeysIn (.map []) [] := ⟨tidy_empty, fun _ => rfl, Nat.le_refl _, by simp [Maps.size]⟩
theorem keysIn_put {D : DataW Unit} {L : List Lit} (h : KeysIn D L) {k : Lit} (hk : WideAt.IsKeyLit k) (hL : ∀ y ∈ L, WideAt.IsKeyLit y) (d : DataW Unit) : KeysIn (D.put k d) (L ++ [k]) := by
  obtain ⟨h1, h2, h3, h4⟩ := h
  have hin : has D k = true ↔ k ∈ L := by
    rw [h2, List.any_eq_true]
    constructor
    · rintro ⟨y, hy, e⟩
      rwa [← WideAt.sameKey_eq e]
    · intro h
      exact ⟨k, h, WideAt.sameKey_self hk⟩
  refine ⟨h1.put hk d, fun x => ?_, ?_, ?_⟩
  · by_cases e : x = k
    · subst e
      rw [has_put_same h1.isMap hk, List.any_append]
      simp [WideAt.sameKey_self hk]
    · rw [has_put_other e, h2, List.any_append]
      simp [sameKey_ne (fun h => e h.symm)]
  · rw [size_put h1, List.length_append]
    split <;> simp <;> omega
  · rw [size_put h1, List.length_append, List.nodup_append]
    by_cases hb : k ∈ L
    · rw [if_pos (hin.2 hb)]
      constructor
      · intro h; simp at h; omega
      · rintro ⟨_, _, h⟩
        exact absurd rfl (h k hb k (by simp))
    · have hf : has D k = false := by
        cases hh : has D k with
        | false => rfl
        | true => exact absurd (hin.1 hh) hb
      rw [if_neg (by rw [hf]; simp)]
      constructor
      · intro h
        refine ⟨h4.1 (by simp at h; omega), by simp, fun a ha b hb' e => ?_⟩
        simp at hb'
        exact hb (by rw [← hb', ← e]; exact ha)
      · rintro ⟨h, _, _⟩
        have := h4.2 h
        simp; omega
theorem lawS : Keyed Tryd.prog 9 := string_keyed Tryd.underlying9
theorem keyS (S : ByteArray) (h : S.size ≤ 2000000) : keyOf Tryd.prog 9 (.string S) = some (.string S.data.toList) := keyOf_string_mk Tryd.underlying9 (by unfold maxLen; omega)
theorem zeroI (w : World) : (zeroValue 3).run Tryd.prog w = .ok (.int .i64 0) w := by kernel_rfl
theorem lawN : Keyed Tryd.prog 80 := Keyed.of_law (deep_law_laid laidOut (m := 2) (by omega) (of_decide_eq_true (by kernel_rfl)) (by kernel_rfl) (by kernel_rfl))
/-- The key of a full name. -/
def keyNL (L U : ByteArray) : Lit := .string (keyBytes [.string L.data.toList, .string U.data.toList])
theorem litsS (d : Nat) (S : ByteArray) (h : S.size ≤ 2000000) : Tryd.prog.keyLits (d + 1) 9 [.string S] = some [.string S.data.toList] := by
  have hm1 : S.size ≤ maxLen := by unfold maxLen; omega
  simp [Program.keyLits, Tryd.underlying9, hm1]
theorem litsN (d : Nat) (L U : ByteArray) (h1 : L.size ≤ 2000000) (h2 : U.size ≤ 2000000) : Tryd.prog.keyLits (d + 2) 80 [.string L, .string U] = some [.string L.data.toList, .string U.data.toList] := by
  have hc : Tryd.prog.cellsOf 80 = 2 := by kernel_rfl
  have hs : Tryd.prog.cellsOf 9 = 1 := by kernel_rfl
  have e1 := litsS d L h1
  have e2 := litsS d U h2
  unfold Program.keyLits
  rw [Tryd.underlying80]
  simp [hc, hs, e1, e2]
theorem keyN (L U : ByteArray) (h1 : L.size ≤ 2000000) (h2 : U.size ≤ 2000000) : keyOf Tryd.prog 80 (.agg #[.string L, .string U]) = some (keyNL L U) := by
  have hk : Tryd.prog.keyType 80 = true := by kernel_rfl
  have hc : Tryd.prog.cellsOf 80 = 2 := by kernel_rfl
  have hf : Value.formed Tryd.prog 80 (.agg #[.string L, .string U]) = true := by
    simp [Value.formed, Tryd.underlying80, hc]
  obtain ⟨d, hd⟩ : ∃ d, Tryd.prog.types.size + 1 = d + 2 := ⟨Tryd.prog.types.size - 1, by
    have : 1 ≤ Tryd.prog.types.size := of_decide_eq_true (by kernel_rfl)
    omega⟩
  have e := litsN d L U h1 h2
  rw [← hd] at e
  unfold keyOf
  rw [Tryd.underlying80]
  dsimp only
  rw [hk, hf]
  have hcs : (Value.agg #[.string L, .string U]).cells.toList = [.string L, .string U] := rfl
  rw [hcs, e]
  rfl
theorem keyNL_inj {L U L' U' : ByteArray} (h1 : L.size ≤ 2000000) (h2 : U.size ≤ 2000000) (h3 : L'.size ≤ 2000000) (h4 : U'.size ≤ 2000000) (h : keyNL L U = keyNL L' U') : L = L' ∧ U = U' := by
  have e := lawN.inj (keyN L U h1 h2) (by rw [h]; exact keyN L' U' h3 h4)
  simp at e
  exact e
/-- What holds at each round's head. -/
def TwRel (w : World) (T : TypeId) (L : Nat → List Lit) (n : Nat) (i : Value) (wr : World) : Prop :=
  ∃ (k : Nat) (D : DataW Unit), k ≤ n ∧ i = .int .i64 k ∧ wr.ownsMap Tryd.prog T (plainElem Tryd.prog 3) w.heap.size k D ∧ KeysIn D (L k) ∧ Below w.heap.size w wr
def dkeys (ds : List Dc) : List Lit := ds.map fun d => .string d.p.data.toList
theorem dkeys_snoc (ds : List Dc) (d : Dc) : dkeys (ds ++ [d]) = dkeys ds ++ [.string d.p.data.toList] := by unfold dkeys; rw [List.map_append]; rfl
def akeys (ats : List At) : List Lit := ats.map fun a => keyNL a.l a.u
theorem akeys_snoc (ats : List At) (a : At) : akeys (ats ++ [a]) = akeys ats ++ [keyNL a.l a.u] := by unfold akeys; rw [List.map_append]; rfl
open Classical in
/-- Have two one key? -/
noncomputable def dupB (L : List Lit) : Bool := !decide L.Nodup
set_option maxHeartbeats 4000000 in
theorem declTwice_any (ds : List Dc) (v : Value) (w : World) (hv : DsAt w w.heap.size v ds) (hn : ds.length ≤ 2000000) (hs : ∀ d ∈ ds, d.p.size ≤ 2000000) :
    Calls Tryd.prog 45 #[v] w fun e w' => e = .returned (.bool (dupB (dkeys ds))) ∧ Below w.heap.size w w' := by
  have hmm := @run_makeMap Tryd.prog
  have HV := Lib.hid hv
  obtain ⟨A, cap, rfl, hc1, hc2, _⟩ := hv
  have HR := Lib.hid (show ∀ (D : DataW Unit), KeysIn D (dkeys ds) → ((Maps.size D : Int) < (ds.length : Int) ↔ dupB (dkeys ds) = true) from fun D ⟨_, _, h1, h2⟩ => by
    have hl : (dkeys ds).length = ds.length := by simp [dkeys]
    rw [hl] at h1 h2
    simp only [dupB, Bool.not_eq_true', decide_eq_false_iff_not, ← h2]
    omega)
  generalize dupB (dkeys ds) = R at *
  go_enter Tryd.func45, Tryd.ntmps45
  go_wp2
  go_loopw [9] (TwRel w 9 (fun k => dkeys (ds.take k)) ds.length) (fun i _ => ds.length - (intOf i).toNat)
  case atStart => exact ⟨0, .map [], Nat.zero_le _, rfl, World.ownsMap_made _ _ _ _, keysIn_nil, (Below.refl _ _).alloc (Nat.le_refl _) _⟩
  case round =>
    obtain ⟨k, D, hk, rfl, hown, hki, hnx⟩ := hrel
    have HKI := Lib.hid hki
    clear hki
    by_cases hlt : k < ds.length
    · obtain ⟨b, o, cap', e, _, _, hbB, hcell⟩ := DsAt.open HV.out (by omega)
      simp only [Value.slice.injEq] at e
      obtain ⟨rfl, _, rfl⟩ := e
      obtain ⟨c0, c1⟩ := hcell k hlt
      replace c0 := (hnx.cell (p := ⟨b, o + k * 2, none⟩) hbB).trans c0
      replace c1 := (hnx.cell (p := ⟨b, o + k * 2 + 1, none⟩) hbB).trans c1
      have hkey := keyS ds[k].p (hs _ (List.getElem_mem hlt))
      have HN : Hid (∀ d, KeysIn (D.put (.string ds[k].p.data.toList) d) (dkeys (ds.take (k + 1)))) := fun d => by
        rw [List.take_succ_eq_append_getElem hlt, dkeys_snoc]
        exact keysIn_put (k := .string ds[k].p.data.toList) HKI.out trivial (fun y hy => by simp only [dkeys, List.mem_map] at hy; obtain ⟨_, _, rfl⟩ := hy; trivial) d
      generalize ds[k].p = P at *
      generalize ds[k].u = U at *
      have hkz : (k : Int) < (ds.length : Int) := by omega
      clear hcell
      go_wp2_with (at_mapUpdate; refine wpList_mapUpdate_own _ rfl _ _ _ 57 rfl 9 3 lawS Tryd.underlying57 _ w.heap.size k D rfl (hown.alloc _) (by unfold maxLen; omega) _ _ _ rfl rfl hkey _ [] (plainElem_int Tryd.underlying3 (WalkArith.wf_i64 (by omega))) ?_)
      intro w1 hown1 hgrow1
      have R2 := (hnx.alloc hnx.size _).grown hgrow1 (Nat.le_trans hnx.size (by simp)) (fun j hj => by cases hj; exact Nat.le_refl _)
      clear hgrow1 hown hnx c0 c1
      go_wp2
      go_roundw
      case rel => exact ⟨k + 1, _, hlt, by go_num, hown1, HN.out _, R2⟩
      case measure => simp [intOf]; omega
    · have hke : k = ds.length := by omega
      subst hke
      have hfin := HR.out D (by have := HKI.out; dsimp only at this; rwa [List.take_length] at this)
      go_wp2_with (at_len; refine wpList_len_own _ rfl _ 57 rfl 9 3 Tryd.underlying57 _ w.heap.size _ D rfl hown ?_)
      go_ret
      exact ⟨rfl, hnx⟩
set_option maxHeartbeats 4000000 in
theorem attrTwice_any (ats : List At) (v : Value) (w : World) (hv : AsAt w w.heap.size v ats) (hn : ats.length ≤ 2000000) (hs : ∀ a ∈ ats, a.l.size ≤ 2000000 ∧ a.u.size ≤ 2000000) :
    Calls Tryd.prog 46 #[v] w fun e w' => e = .returned (.bool (dupB (akeys ats))) ∧ Below w.heap.size w w' := by
  have hmm := @run_makeMap Tryd.prog
  have HV := Lib.hid hv
  obtain ⟨A, cap, rfl, hc1, hc2, _⟩ := hv
  have HR := Lib.hid (show ∀ (D : DataW Unit), KeysIn D (akeys ats) → ((Maps.size D : Int) < (ats.length : Int) ↔ dupB (akeys ats) = true) from fun D ⟨_, _, h1, h2⟩ => by
    have hl : (akeys ats).length = ats.length := by simp [akeys]
    rw [hl] at h1 h2
    simp only [dupB, Bool.not_eq_true', decide_eq_false_iff_not, ← h2]
    omega)
  generalize dupB (akeys ats) = R at *
  go_enter Tryd.func46, Tryd.ntmps46
  go_wp2
  go_loopw [9] (TwRel w 80 (fun k => akeys (ats.take k)) ats.length) (fun i _ => ats.length - (intOf i).toNat)
  case atStart => exact ⟨0, .map [], Nat.zero_le _, rfl, World.ownsMap_made _ _ _ _, keysIn_nil, (Below.refl _ _).alloc (Nat.le_refl _) _⟩
  case round =>
    obtain ⟨k, D, hk, rfl, hown, hki, hnx⟩ := hrel
    have HKI := Lib.hid hki
    clear hki
    by_cases hlt : k < ats.length
    · obtain ⟨b, o, cap', e, _, _, hbB, hcell⟩ := AsAt.open HV.out (by omega)
      simp only [Value.slice.injEq] at e
      obtain ⟨rfl, _, rfl⟩ := e
      obtain ⟨c0, c1, c2, c3⟩ := hcell k hlt
      replace c0 := (hnx.cell (p := ⟨b, o + k * 4, none⟩) hbB).trans c0
      replace c1 := (hnx.cell (p := ⟨b, o + k * 4 + 1, none⟩) hbB).trans c1
      replace c2 := (hnx.cell (p := ⟨b, o + k * 4 + 2, none⟩) hbB).trans c2
      replace c3 := (hnx.cell (p := ⟨b, o + k * 4 + 3, none⟩) hbB).trans c3
      have hkey := keyN ats[k].l ats[k].u (hs _ (List.getElem_mem hlt)).1 (hs _ (List.getElem_mem hlt)).2
      have HN : Hid (∀ d, KeysIn (D.put (keyNL ats[k].l ats[k].u) d) (akeys (ats.take (k + 1)))) := fun d => by
        rw [List.take_succ_eq_append_getElem hlt, akeys_snoc]
        exact keysIn_put (k := keyNL ats[k].l ats[k].u) HKI.out trivial (fun y hy => by simp only [akeys, List.mem_map] at hy; obtain ⟨_, _, rfl⟩ := hy; trivial) d
      generalize ats[k].p = P at *
      generalize ats[k].l = L at *
      generalize ats[k].u = U at *
      generalize ats[k].v = V at *
      have hkz : (k : Int) < (ats.length : Int) := by omega
      clear hcell
      go_wp2_with (at_mapUpdate; refine wpList_mapUpdate_own _ rfl _ _ _ 78 rfl 80 3 lawN Tryd.underlying78 _ w.heap.size k D rfl (hown.alloc _) (by unfold maxLen; omega) _ _ _ rfl rfl hkey _ [] (plainElem_int Tryd.underlying3 (WalkArith.wf_i64 (by omega))) ?_)
      intro w1 hown1 hgrow1
      have R2 := (hnx.alloc hnx.size _).grown hgrow1 (Nat.le_trans hnx.size (by simp)) (fun j hj => by cases hj; exact Nat.le_refl _)
      clear hgrow1 hown hnx c0 c1 c2 c3
      go_wp2
      go_roundw
      case rel => exact ⟨k + 1, _, hlt, by go_num, hown1, HN.out _, R2⟩
      case measure => simp [intOf]; omega
    · have hke : k = ats.length := by omega
      subst hke
      have hfin := HR.out D (by have := HKI.out; dsimp only at this; rwa [List.take_length] at this)
      go_wp2_with (at_len; refine wpList_len_own _ rfl _ 78 rfl 80 3 Tryd.underlying78 _ w.heap.size _ D rfl hown ?_)
      go_ret
      exact ⟨rfl, hnx⟩
end Go.Proofs.YtalcmhngebobnaaDoor
