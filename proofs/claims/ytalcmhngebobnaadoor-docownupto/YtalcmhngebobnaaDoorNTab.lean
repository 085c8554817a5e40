/-
  name.Begins and name.Stands, over the program's own tables. Conditions: the tables lie as they are laid.
-/
import Derived.Test.YtalcmhngebobnaaDoorNLeaf
import Derived.Laws.Rows
import Derived.Deep.MidRow
namespace Go.Proofs.YtalcmhngebobnaaDoor
open Go.RowKit
set_option linter.unusedVariables false
/-- The program's tables of ranges. -/
def begT : List (Int × Int) := [(65, 90), (95, 95), (97, 122), (192, 214), (216, 246), (248, 767), (880, 893), (895, 8191), (8204, 8205), (8304, 8591), (11264, 12271), (12289, 55295), (63744, 64975), (65008, 65533), (65536, 983039)]
def folT : List (Int × Int) := [(45, 46), (48, 57), (183, 183), (768, 879), (8255, 8256)]
def flat (t : List (Int × Int)) : List Value := t.flatMap fun p => [.int .i32 p.1, .int .i32 p.2]
def begC : Array Value := (flat begT).toArray
def folC : Array Value := (flat folT).toArray
def inB (r : Int) (p : Int × Int) : Bool := decide (p.1 ≤ r ∧ r ≤ p.2)
theorem begB_any (r : Int) : begB r = begT.any (inB r) := by
  rw [Bool.eq_iff_iff]
  simp only [begB, begT, inB, List.any_cons, List.any_nil, decide_eq_true_eq, Bool.or_eq_true, Bool.or_false]
  omega
theorem staB_any (r : Int) : staB r = (folT.any (inB r) || begB r) := by
  rw [Bool.eq_iff_iff, sta_iff]
  simp only [folT, inB, List.any_cons, List.any_nil, decide_eq_true_eq, Bool.or_eq_true, Bool.or_false]
  cases begB r <;> simp <;> omega
theorem any_at {t : List (Int × Int)} {r : Int} {k : Nat} (hk : k < t.length) (h : inB r (t.getD k (0, 0)) = true) : t.any (inB r) = true := by
  rw [List.getD_eq_getElem?_getD, List.getElem?_eq_getElem hk, Option.getD_some] at h
  exact List.any_eq_true.2 ⟨_, List.getElem_mem hk, h⟩
theorem any_none {t : List (Int × Int)} {r : Int} (h : ∀ j, j < t.length → inB r (t.getD j (0, 0)) = false) : t.any (inB r) = false := by
  rw [List.any_eq_false]
  intro x hx
  obtain ⟨j, hj, rfl⟩ := List.getElem_of_mem hx
  have := h j hj
  rw [List.getD_eq_getElem?_getD, List.getElem?_eq_getElem hj, Option.getD_some] at this
  simp [this]
theorem beg_yes {r : Int} {k : Nat} (hk : k < 15) (h : inB r (begT.getD k (0, 0)) = true) : begB r = true := by rw [begB_any]; exact any_at hk h
theorem fol_yes {r : Int} {k : Nat} (hk : k < 5) (h : inB r (folT.getD k (0, 0)) = true) : staB r = true := by rw [staB_any, any_at (t := folT) hk h]; rfl
theorem beg_no {r : Int} (h : ∀ j, j < 15 → inB r (begT.getD j (0, 0)) = false) : begB r = false := by rw [begB_any]; exact any_none h
theorem fol_no {r : Int} (h : ∀ j, j < 5 → inB r (folT.getD j (0, 0)) = false) : staB r = begB r := by rw [staB_any, any_none (t := folT) h]; rfl
theorem less_succ {p : Nat → Prop} {k : Nat} (h : ∀ j, j < k → p j) (hk : p k) : ∀ j, j < k + 1 → p j := fun j hj => by
  rcases Nat.lt_or_eq_of_le (Nat.le_of_lt_succ hj) with h1 | h1
  · exact h j h1
  · rw [h1]; exact hk
/-- All tables that the program reads. -/
structure NTabs (w : World) : Prop where
  u : Tabs w
  beg : ∀ j v, begC[j]? = some v → w.cell? ⟨0, j, none⟩ = some v
  fol : ∀ j v, folC[j]? = some v → w.cell? ⟨1, j, none⟩ = some v
theorem NTabs.five {w : World} (h : NTabs w) : 7 ≤ w.heap.size := h.u.two.2
theorem NTabs.below {w w' : World} {B : Nat} (h : NTabs w) (hB : 7 ≤ B) (hb : Below B w w') : NTabs w' :=
  ⟨h.u.below ⟨by omega, by omega⟩ hb, fun j v hv => (hb.cell (p := ⟨0, j, none⟩) (by show 0 < B; omega)).trans (h.beg j v hv), fun j v hv => (hb.cell (p := ⟨1, j, none⟩) (by show 1 < B; omega)).trans (h.fol j v hv)⟩
theorem idx_beg : ∀ k, k < 15 → ∀ w, (Instr.index 87 (.agg begC) (.int .i64 ((k : Nat) : Int))).run Tryd.prog w = .ok (.agg #[.int .i32 (begT.getD k (0, 0)).1, .int .i32 (begT.getD k (0, 0)).2]) w
  | 0, _, _ => by kernel_rfl
  | 1, _, _ => by kernel_rfl
  | 2, _, _ => by kernel_rfl
  | 3, _, _ => by kernel_rfl
  | 4, _, _ => by kernel_rfl
  | 5, _, _ => by kernel_rfl
  | 6, _, _ => by kernel_rfl
  | 7, _, _ => by kernel_rfl
  | 8, _, _ => by kernel_rfl
  | 9, _, _ => by kernel_rfl
  | 10, _, _ => by kernel_rfl
  | 11, _, _ => by kernel_rfl
  | 12, _, _ => by kernel_rfl
  | 13, _, _ => by kernel_rfl
  | 14, _, _ => by kernel_rfl
  | k + 15, h, _ => by omega
theorem idx_fol : ∀ k, k < 5 → ∀ w, (Instr.index 88 (.agg folC) (.int .i64 ((k : Nat) : Int))).run Tryd.prog w = .ok (.agg #[.int .i32 (folT.getD k (0, 0)).1, .int .i32 (folT.getD k (0, 0)).2]) w
  | 0, _, _ => by kernel_rfl
  | 1, _, _ => by kernel_rfl
  | 2, _, _ => by kernel_rfl
  | 3, _, _ => by kernel_rfl
  | 4, _, _ => by kernel_rfl
  | k + 5, h, _ => by omega
/-- What holds at each round's head. -/
def begRel (w : World) (r : Int) (i : Value) (wr : World) : Prop := ∃ k : Nat, k ≤ 15 ∧ i = .int .i64 k ∧ (∀ j, j < k → inB r (begT.getD j (0, 0)) = false) ∧ Below w.heap.size w wr
set_option maxHeartbeats 2000000 in
theorem begins_any (r : Int) (w : World) (hT : NTabs w) : Calls Tryd.prog 54 #[.int .i32 r] w fun e w' => e = .returned (.bool (begB r)) ∧ Below w.heap.size w w' := by
  obtain ⟨C, hC⟩ : ∃ C, flat begT = C := ⟨_, rfl⟩
  have hRB : w.rangeAt 0 0 C := fun j v hv => by rw [Nat.zero_add]; exact hT.beg j v (by rw [begC, hC]; simpa using hv)
  have hI : (Tryd.prog.info? 87).map (·.size) = some C.length := by rw [← hC]; kernel_rfl
  have HRB := Lib.hid hRB
  have HI := Lib.hid hI
  have hix := idx_beg
  have h5 := hT.five
  have HT := Lib.hid hT
  clear hT
  rw [begC, hC] at hix
  have HIX := Lib.hid hix
  obtain ⟨B, hB⟩ : ∃ B, begB r = B := ⟨_, rfl⟩
  rw [hB]
  have HBB := Lib.hid hB
  clear hix hC hRB hI hB
  go_enter Tryd.func54, Tryd.ntmps54
  go_wp2_with (refine wpList_load_mid rfl 87 _ rfl 0 0 rfl C _ HRB.out Tryd.underlying87 rfl HI.out ?_)
  clear HRB HI
  generalize C.toArray = C at *
  go_loopw [6] (begRel w r) (fun i _ => 15 - (intOf i).toNat)
  case atStart => exact ⟨0, by omega, rfl, fun j hj => by omega, Below.refl _ _⟩
  case round =>
    obtain ⟨k, hk, rfl, hno, hb⟩ := hrel
    by_cases hlt : k < 15
    · have hx := HIX.out k hlt
      obtain ⟨lo, hi, hp⟩ : ∃ lo hi, begT.getD k (0, 0) = (lo, hi) := ⟨_, _, rfl⟩
      rw [hp] at hx
      dsimp only at hx
      have HP := Lib.hid hp
      have HNO := Lib.hid hno
      clear hp hno
      have hkz : (k : Int) < 15 := by omega
      by_cases h1 : lo ≤ r
      · by_cases h2 : r ≤ hi
        · go_wp2
          go_ret
          exact ⟨ret_bool ((beg_yes hlt (by rw [HP.out]; simp [inB, h1, h2])).symm.trans HBB.out), hb.alloc hb.size _⟩
        · go_wp2
          go_roundw
          case rel => exact ⟨k + 1, hlt, by go_num, less_succ HNO.out (by rw [HP.out]; simp [inB, h2]), hb.alloc hb.size _⟩
          case measure => simp [intOf]; omega
      · go_wp2
        go_roundw
        case rel => exact ⟨k + 1, hlt, by go_num, less_succ HNO.out (by rw [HP.out]; simp [inB, h1]), hb.alloc hb.size _⟩
        case measure => simp [intOf]; omega
    · obtain rfl : k = 15 := by omega
      go_wp2
      go_ret
      exact ⟨ret_bool ((beg_no hno).symm.trans HBB.out), hb⟩
/-- What holds at each round's head. -/
def folRel (w : World) (r : Int) (i : Value) (wr : World) : Prop := ∃ k : Nat, k ≤ 5 ∧ i = .int .i64 k ∧ (∀ j, j < k → inB r (folT.getD j (0, 0)) = false) ∧ Below w.heap.size w wr
set_option maxHeartbeats 2000000 in
theorem stands_any (r : Int) (w : World) (hT : NTabs w) : Calls Tryd.prog 55 #[.int .i32 r] w fun e w' => e = .returned (.bool (staB r)) ∧ Below w.heap.size w w' := by
  obtain ⟨C, hC⟩ : ∃ C, flat folT = C := ⟨_, rfl⟩
  have hRB : w.rangeAt 1 0 C := fun j v hv => by rw [Nat.zero_add]; exact hT.fol j v (by rw [folC, hC]; simpa using hv)
  have hI : (Tryd.prog.info? 88).map (·.size) = some C.length := by rw [← hC]; kernel_rfl
  have HRB := Lib.hid hRB
  have HI := Lib.hid hI
  have hix := idx_fol
  have h5 := hT.five
  have HT := Lib.hid hT
  clear hT
  rw [folC, hC] at hix
  have HIX := Lib.hid hix
  obtain ⟨B, hB⟩ : ∃ B, staB r = B := ⟨_, rfl⟩
  rw [hB]
  have HBB := Lib.hid hB
  clear hix hC hRB hI hB
  go_enter Tryd.func55, Tryd.ntmps55
  go_wp2_with (refine wpList_load_mid rfl 88 _ rfl 1 0 rfl C _ HRB.out Tryd.underlying88 rfl HI.out ?_)
  clear HRB HI
  generalize C.toArray = C at *
  go_loopw [6] (folRel w r) (fun i _ => 5 - (intOf i).toNat)
  case atStart => exact ⟨0, by omega, rfl, fun j hj => by omega, Below.refl _ _⟩
  case round =>
    obtain ⟨k, hk, rfl, hno, hb⟩ := hrel
    by_cases hlt : k < 5
    · have hx := HIX.out k hlt
      obtain ⟨lo, hi, hp⟩ : ∃ lo hi, folT.getD k (0, 0) = (lo, hi) := ⟨_, _, rfl⟩
      rw [hp] at hx
      dsimp only at hx
      have HP := Lib.hid hp
      have HNO := Lib.hid hno
      clear hp hno
      have hkz : (k : Int) < 5 := by omega
      by_cases h1 : lo ≤ r
      · by_cases h2 : r ≤ hi
        · go_wp2
          go_ret
          exact ⟨ret_bool ((fol_yes hlt (by rw [HP.out]; simp [inB, h1, h2])).symm.trans HBB.out), hb.alloc hb.size _⟩
        · go_wp2
          go_roundw
          case rel => exact ⟨k + 1, hlt, by go_num, less_succ HNO.out (by rw [HP.out]; simp [inB, h2]), hb.alloc hb.size _⟩
          case measure => simp [intOf]; omega
      · go_wp2
        go_roundw
        case rel => exact ⟨k + 1, hlt, by go_num, less_succ HNO.out (by rw [HP.out]; simp [inB, h1]), hb.alloc hb.size _⟩
        case measure => simp [intOf]; omega
    · obtain rfl : k = 5 := by omega
      have HB := Lib.hid (begins_any r wr (HT.out.below h5 hb))
      have e := (fol_no hno).symm.trans HBB.out
      have HE := Lib.hid e
      clear hno e
      go_wp2_with (go_at_call 54; refine HB.out.mono ?_; rintro e w' ⟨rfl, hb1⟩)
      go_ret
      exact ⟨ret_bool HE.out, hb.trans (hb1.mono hb.size)⟩
end Go.Proofs.YtalcmhngebobnaaDoor
