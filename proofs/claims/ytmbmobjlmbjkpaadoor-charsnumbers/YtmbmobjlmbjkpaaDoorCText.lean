/-
  Texts: as bytes, at an index, in pieces; where a byte first stands; cut at a byte; with a byte in them; with something ahead cut off. Conditions: the text is not too long.
-/
import Derived.Test.YtmbmobjlmbjkpaaDoorCRow
import Derived.Lib.Bytealg
namespace Go.Proofs.YtmbmobjlmbjkpaaDoor
open Go.RowKit
set_option linter.unusedVariables false
theorem ba_of (S : ByteArray) : (⟨S.data.toList.toArray⟩ : ByteArray) = S := by simp
theorem ba_ext {S R : ByteArray} (h : S.data.toList = R.data.toList) : S = R := by rw [← ba_of S, ← ba_of R, h]
theorem ba_cut (S : ByteArray) (a b : Nat) : (S.extract a b).data.toList = (S.data.toList.take b).drop a := by
  simp only [ByteArray.data_extract, Array.toList_extract, List.take_drop]
  by_cases h : a ≤ b
  · rw [Nat.add_sub_cancel' h]
  · rw [show b - a = 0 by omega, Nat.add_zero, List.drop_of_length_le (by rw [List.length_take]; omega), List.drop_of_length_le (by rw [List.length_take]; omega)]
theorem ba_size (S : ByteArray) : S.size = S.data.toList.length := Lib.size_eq S
theorem ba_add (S R : ByteArray) : (S ++ R).data.toList = S.data.toList ++ R.data.toList := by simp
theorem ba_add_size (S R : ByteArray) : (S ++ R).size = S.size + R.size := by rw [ba_size, ba_add, List.length_append, ← ba_size, ← ba_size]
/-- Two texts are told to be the same just if they are. -/
theorem text_beq (S R : ByteArray) : (S.toList == R.toList) = (S.data.toList == R.data.toList) := by rw [Lib.toList_data, Lib.toList_data]
theorem text_is (S : ByteArray) (l : List UInt8) : (S.toList == l) = (S.data.toList == l) := by rw [Lib.toList_data]
/-- A text as bytes of its own. -/
theorem conv_text (S : ByteArray) (hS : S.size ≤ 1000000) (w : World) : ∃ (cap : Nat) (W : World), (convert 9 28 (.string S)).run Tryd.prog w = .ok (.slice (some ⟨w.heap.size, 0, none⟩) S.size cap) W ∧
    (∀ j (hj : j < S.data.toList.length), W.cell? ⟨w.heap.size, 0 + j, none⟩ = some (.int .u8 (S.data.toList[j].toNat : Int))) ∧ w.heap.size < W.heap.size ∧ Below w.heap.size w W ∧ S.size ≤ cap ∧ cap ≤ 9223372036854775807 ∧
    Own W w.heap.size (.slice (some ⟨w.heap.size, 0, none⟩) S.size cap) S.data.toList := by
  have hge := grownCap_ge w S.size 0 5
  have hle : grownCap w S.size 0 5 ≤ 9223372036854775807 := by
    have := grownCap_le_maxLen w S.size 0 5 (by unfold maxLen; omega)
    unfold maxLen at this; exact this
  have hh := heap_alloc_last w.drew (.cells (bytesRow S (grownCap w S.size 0 5)) 5 ((bytesRow S (grownCap w S.size 0 5)).size, (bytesRow S (grownCap w S.size 0 5)).size + 1))
  have hsz : (bytesRow S (grownCap w S.size 0 5)).size = grownCap w S.size 0 5 := by
    simp only [bytesRow, Array.size_append, Array.size_map, Array.size_replicate]
    have : S.data.size = S.size := rfl
    omega
  have hcell : ∀ j (hj : j < S.data.toList.length), (w.drew.alloc (.cells (bytesRow S (grownCap w S.size 0 5)) 5 ((bytesRow S (grownCap w S.size 0 5)).size, (bytesRow S (grownCap w S.size 0 5)).size + 1))).cell? ⟨w.heap.size, j, none⟩ = some (.int .u8 (S.data.toList[j].toNat : Int)) := fun j hj => by
    rw [cell_of_row _ w.heap.size j _ _ _ hh, bytesRow_at _ _ j (by simpa using hj)]
    simp
  refine ⟨_, _, run_bytes_of_string w 9 28 5 S Tryd.underlying9 Tryd.underlying28 Tryd.underlying5, fun j hj => by rw [Nat.zero_add]; exact hcell j hj, by simp, ?_, hge, hle, ?_⟩
  · exact ((Below.refl w.heap.size w).drew).alloc (Nat.le_refl _) _
  · refine .inr ⟨w.heap.size, _, by rw [← ba_size], Nat.le_refl _, by simp, by rw [← ba_size]; exact hge, hle, fun j hj => ⟨?_, ?_⟩, fun j u hu => ?_⟩
    · rw [cell_of_row _ w.heap.size j _ _ _ hh, Array.getElem?_eq_getElem (by omega)]; rfl
    · have h2 : ¬ (bytesRow S (grownCap w S.size 0 5)).size ≤ j := by omega
      unfold World.frozen?
      rw [show (⟨w.heap.size, j, none⟩ : Addr).block = w.drew.heap.size from rfl, hh]
      simp [h2]
    · have hj := (List.getElem?_eq_some_iff.1 hu).1
      rw [u8c_length] at hj
      rw [hcell j hj, ← hu, u8c, List.getElem?_map, List.getElem?_eq_getElem hj]; rfl
theorem index_str (S : ByteArray) {i : Nat} (h : i < S.data.toList.length) (w : World) : (Instr.index 9 (.string S) (.int .i64 (i : Int))).run Tryd.prog w = .ok (.int .u8 ((S.data.toList[i].toNat : Nat) : Int)) w := by
  have hs : i < S.size := by rw [ba_size]; exact h
  have e : S[i]? = some S.data.toList[i] := by
    rw [getElem?_pos S i hs]; rfl
  simp [Instr.index, asIntOf, run_underlying Tryd.underlying9, e]
theorem entry_index (S : ByteArray) (c : UInt8) (w : World) : (callFunc 47 #[.string S, .int .u8 (c.toNat : Int)]).run Tryd.prog w = .ok (.value (.int .i64 (Lib.indexByte S.data.toList c))) w := by
  rw [run_callFunc_extern (e := Extern.BytealgIndexByte.indexByte) Tryd.func47 (by kernel_rfl) (by kernel_rfl) (by kernel_rfl) (by kernel_rfl), Lib.run_indexByteString]
  simp [Result.andThen]
set_option maxHeartbeats 1000000 in
theorem lite_one (S : ByteArray) (c : UInt8) (w : World) : Calls Tryd.prog 37 #[.string S, .int .u8 (c.toNat : Int)] w fun e w' => e = .returned (.int .i64 (Lib.indexByte S.data.toList c)) ∧ w' = w := by
  have hx : ∀ w, (callFunc 47 #[.string S, .int .u8 (c.toNat : Int)]).run Tryd.prog w = .ok (.value (.int .i64 (Lib.indexByte S.data.toList c))) w := entry_index S c
  generalize (c.toNat : Int) = z at *
  go_enter Tryd.func37, Tryd.ntmps37
  go_wp2
  go_ret
  exact ⟨rfl, rfl⟩
set_option maxHeartbeats 4000000 in
set_option maxRecDepth 100000 in
theorem index_one (S : ByteArray) (c : UInt8) (w : World) : Calls Tryd.prog 27 #[.string S, .string ⟨#[c]⟩] w fun e w' => e = .returned (.int .i64 (Lib.indexByte S.data.toList c)) ∧ w' = w := by
  have hix : ∀ w, (Instr.index 9 (.string ⟨#[c]⟩) (.int .i64 0)).run Tryd.prog w = .ok (.int .u8 (c.toNat : Int)) w := fun w => by
    have := index_str ⟨#[c]⟩ (i := 0) (by show 0 < 1; omega) w
    simpa using this
  have HL := Lib.hid (lite_one S c)
  by_cases hS : S = ⟨#[c]⟩
  · subst hS
    go_enter Tryd.func27, Tryd.ntmps27
    go_wp2
    go_ret
    refine ⟨?_, rfl⟩
    have : Lib.indexByte (⟨#[c]⟩ : ByteArray).data.toList c = 0 := by simp [Lib.indexByte]
    rw [this]; rfl
  · obtain ⟨z, hz⟩ : ∃ z, Lib.indexByte S.data.toList c = z := ⟨_, rfl⟩
    have hne : ([c] == S.toList) = false := by
      rw [Lib.toList_data, beq_eq_false_iff_ne]
      exact fun h => hS (ba_ext h.symm)
    rw [hz] at HL ⊢
    obtain ⟨S1, hS1⟩ : ∃ S1 : ByteArray, S1 = ⟨#[c]⟩ := ⟨_, rfl⟩
    clear hz
    go_enter Tryd.func27, Tryd.ntmps27
    go_wp2_with fail
    refine (HL.out _).mono ?_
    rintro e w' ⟨rfl, hw⟩
    rw [hw]
    go_wp2
    go_ret
    exact ⟨rfl, rfl⟩
theorem index_cases : ∀ (s : List UInt8) (c : UInt8), (c ∉ s ∧ Lib.indexByte s c = -1) ∨ (∃ a b, s = a ++ c :: b ∧ c ∉ a ∧ Lib.indexByte s c = (a.length : Int))
  | [], c => .inl ⟨by simp, rfl⟩
  | x :: s, c => by
    by_cases hx : x = c
    · subst hx
      exact .inr ⟨[], s, rfl, by simp, by simp [Lib.indexByte]⟩
    · rcases index_cases s c with ⟨h1, h2⟩ | ⟨a, b, rfl, h1, h2⟩
      · exact .inl ⟨by simp [Ne.symm hx, h1], by simp [Lib.indexByte, hx, h2]⟩
      · refine .inr ⟨x :: a, b, rfl, by simp [Ne.symm hx, h1], ?_⟩
        simp [Lib.indexByte, hx, h2]
/-- What a cut at a byte answers. -/
def CutAns (c : UInt8) (S : ByteArray) (e : Ending) : Prop :=
  (c ∉ S.data.toList ∧ e = .returned (.tuple #[.string S, .string ⟨#[]⟩, .bool false])) ∨ (∃ P R : ByteArray, S.data.toList = P.data.toList ++ c :: R.data.toList ∧ c ∉ P.data.toList ∧ e = .returned (.tuple #[.string P, .string R, .bool true]))
set_option maxHeartbeats 4000000 in
theorem litecut_any (c : UInt8) (S : ByteArray) (hlen : S.size ≤ 1000000) (w : World) : Calls Tryd.prog 30 #[.string S, .string ⟨#[c]⟩] w fun e w' => CutAns c S e ∧ Below w.heap.size w w' := by
  have HI := Lib.hid (index_one S c)
  rcases index_cases S.data.toList c with ⟨h1, h2⟩ | ⟨a, b, h1, h2, h3⟩
  · have H1 := Lib.hid h1
    rw [h2] at HI
    clear h1 h2
    go_enter Tryd.func30, Tryd.ntmps30
    go_wp2_with fail
    refine (HI.out _).mono ?_
    rintro e w' ⟨rfl, hw⟩
    rw [hw]
    go_wp2
    go_ret3
    exact ⟨.inl ⟨H1.out, rfl⟩, Below.refl _ _⟩
  · rw [h3] at HI
    have hn : a.length + 1 ≤ S.size := by rw [ba_size, h1]; simp
    have e1 : (S.extract 0 a.length).data.toList = a := by rw [ba_cut, h1]; simp
    have e2 : (S.extract (a.length + 1) S.size).data.toList = b := by rw [ba_cut, ba_size, List.take_length, h1, List.drop_append]; simp
    have HE : Hid (S.data.toList = (S.extract 0 a.length).data.toList ++ c :: (S.extract (a.length + 1) S.size).data.toList ∧ c ∉ (S.extract 0 a.length).data.toList) := by rw [Hid, e1, e2]; exact ⟨h1, h2⟩
    clear h1 h2 h3 e1 e2
    generalize a.length = n at *
    have c1 : (n : Int) ≤ (S.size : Int) := by omega
    have c2 : (n : Int) + 1 ≤ (S.size : Int) := by omega
    have c4 : (0 : Int) ≤ (n : Int) + 1 := by omega
    have c3 : (0 : Int) ≤ (n : Int) := by omega
    go_enter Tryd.func30, Tryd.ntmps30
    go_wp2_with fail
    refine (HI.out _).mono ?_
    rintro e w' ⟨rfl, hw⟩
    rw [hw]
    go_wp2_with fail
    go_quiet (fail)
    go_wp2
    go_ret3
    exact ⟨.inr ⟨_, _, HE.out.1, HE.out.2, rfl⟩, drewN_below (Below.refl _ _) _⟩
set_option maxHeartbeats 1000000 in
theorem cut_any (c : UInt8) (S : ByteArray) (hlen : S.size ≤ 1000000) (w : World) : Calls Tryd.prog 23 #[.string S, .string ⟨#[c]⟩] w fun e w' => CutAns c S e ∧ Below w.heap.size w w' := by
  have HC := Lib.hid (litecut_any c S hlen w)
  go_enter Tryd.func23, Tryd.ntmps23
  go_wp2_with fail
  refine HC.out.mono ?_
  rintro e w' ⟨⟨h1, rfl⟩ | ⟨P, R, h1, h2, rfl⟩, hb⟩
  · have H1 := Lib.hid h1
    clear h1
    go_wp2
    go_ret3
    exact ⟨.inl ⟨H1.out, rfl⟩, hb⟩
  · have H1 := Lib.hid h1
    have H2 := Lib.hid h2
    clear h1 h2
    go_wp2
    go_ret3
    exact ⟨.inr ⟨P, R, H1.out, H2.out, rfl⟩, hb⟩
set_option maxHeartbeats 1000000 in
theorem sindex_one (c : UInt8) (S : ByteArray) (w : World) : Calls Tryd.prog 21 #[.string S, .string ⟨#[c]⟩] w fun e w' => e = .returned (.int .i64 (Lib.indexByte S.data.toList c)) ∧ w' = w := by
  have HI := Lib.hid (index_one S c)
  generalize Lib.indexByte S.data.toList c = z at *
  go_enter Tryd.func21, Tryd.ntmps21
  go_wp2_with fail
  refine (HI.out _).mono ?_
  rintro e w' ⟨rfl, hw⟩
  rw [hw]
  go_wp2
  go_ret
  exact ⟨rfl, rfl⟩
set_option maxHeartbeats 1000000 in
/-- Is a byte in a text? -/
theorem has_one (c : UInt8) (S : ByteArray) (w : World) : Calls Tryd.prog 16 #[.string S, .string ⟨#[c]⟩] w fun e w' => e = .returned (.bool (decide (c ∈ S.data.toList))) ∧ w' = w := by
  have HI := Lib.hid (sindex_one c S)
  rcases index_cases S.data.toList c with ⟨h1, h2⟩ | ⟨a, b, h1, _, h3⟩
  · rw [h2] at HI
    rw [decide_eq_false h1]
    clear h1 h2
    go_enter Tryd.func16, Tryd.ntmps16
    go_wp2_with fail
    refine (HI.out _).mono ?_
    rintro e w' ⟨rfl, hw⟩
    rw [hw]
    go_wp2
    go_ret
    exact ⟨rfl, rfl⟩
  · rw [h3] at HI
    rw [decide_eq_true (show c ∈ S.data.toList by rw [h1]; simp)]
    clear h1 h3
    generalize a.length = n at *
    have hz : (0 : Int) ≤ (n : Int) := by omega
    go_enter Tryd.func16, Tryd.ntmps16
    go_wp2_with fail
    refine (HI.out _).mono ?_
    rintro e w' ⟨rfl, hw⟩
    rw [hw]
    go_wp2
    go_ret
    exact ⟨rfl, rfl⟩
end Go.Proofs.YtmbmobjlmbjkpaaDoor
