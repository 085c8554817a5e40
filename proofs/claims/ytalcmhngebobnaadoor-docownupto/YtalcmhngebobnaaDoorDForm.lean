/-
  Comments, targets, instructions, declarations and attributes: whether they are formed, by themselves. Conditions: the tables lie as they are laid, internal/bytealg.MaxLen holds some number; the texts are not too long.
-/
import Derived.Test.YtalcmhngebobnaaDoorDText
namespace Go.Proofs.YtalcmhngebobnaaDoor
open Go.RowKit
set_option linter.unusedVariables false
set_option maxRecDepth 100000
noncomputable def comB (S : ByteArray) : Bool := tx S && (!insB S.data.toList [45, 45] && !Lib.hasSuffix S.data.toList [45])
noncomputable def tarB (S : ByteArray) : Bool := nmS S && !Lib.equalFold S.data.toList [120, 109, 108]
/-- Does a text begin with a blank? -/
def fb (S : ByteArray) : Bool := match S.data.toList with | c :: _ => blk c | [] => false
noncomputable def pinB (S : ByteArray) : Bool := tx S && (!insB S.data.toList [63, 62] && (eqL S [] || !fb S))
set_option maxHeartbeats 2000000 in
theorem comment_any (S : ByteArray) (hlen : S.size ≤ 2000000) (w : World) (hW : Wd w) : Calls Tryd.prog 34 #[.string S] w fun e w' => e = .returned (.bool (comB S)) ∧ Below w.heap.size w w' := by
  have HT := Lib.hid (isText_any S hlen w hW)
  have HC : Hid (∀ w', Below w.heap.size w w' → Calls Tryd.prog 48 #[.string S, .string ⟨#[45, 45]⟩] w' fun e w'' => e = .returned (.bool (insB S.data.toList [45, 45])) ∧ w'' = w') := fun w' hb => contains_any S ⟨#[45, 45]⟩ w' (hW.later hb).max hlen
  have HS : Hid (∀ w', Calls Tryd.prog 49 #[.string S, .string ⟨#[45]⟩] w' fun e w'' => e = .returned (.bool (Lib.hasSuffix S.data.toList [45])) ∧ w'' = w') := fun w' => suffix_any S ⟨#[45]⟩ w' hlen
  clear hW
  unfold comB
  generalize tx S = B1 at *
  generalize insB S.data.toList [45, 45] = B2 at *
  generalize Lib.hasSuffix S.data.toList [45] = B3 at *
  cases B1 with
  | false =>
    go_enter Tryd.func34, Tryd.ntmps34
    go_wp2_with fail
    refine HT.out.mono ?_
    rintro e w1 ⟨rfl, hb1⟩
    go_wp2
    go_ret
    exact ⟨rfl, hb1⟩
  | true =>
    cases B2 with
    | true =>
      go_enter Tryd.func34, Tryd.ntmps34
      go_wp2_with fail
      refine HT.out.mono ?_
      rintro e w1 ⟨rfl, hb1⟩
      go_wp2_with fail
      refine (HC.out w1 hb1).mono ?_
      rintro e w2 ⟨rfl, hw2⟩
      rw [hw2]
      go_wp2
      go_ret
      exact ⟨rfl, hb1⟩
    | false =>
      go_enter Tryd.func34, Tryd.ntmps34
      go_wp2_with fail
      refine HT.out.mono ?_
      rintro e w1 ⟨rfl, hb1⟩
      go_wp2_with fail
      refine (HC.out w1 hb1).mono ?_
      rintro e w2 ⟨rfl, hw2⟩
      rw [hw2]
      clear hw2
      go_wp2_with fail
      refine (HS.out w1).mono ?_
      rintro e w2 ⟨rfl, hw2⟩
      rw [hw2]
      go_wp2
      go_ret
      exact ⟨by simp, hb1⟩
set_option maxHeartbeats 2000000 in
theorem target_any (S : ByteArray) (hlen : S.size ≤ 2000000) (w : World) (hW : Wd w) : Calls Tryd.prog 35 #[.string S] w fun e w' => e = .returned (.bool (tarB S)) ∧ Below w.heap.size w w' := by
  have HN : Hid (Calls Tryd.prog 41 #[.string S] w fun e w' => e = .returned (.bool (nmS S)) ∧ Below w.heap.size w w') := is_any S hlen w hW.tabs
  have HE : Hid (∀ w', Below w.heap.size w w' → Calls Tryd.prog 50 #[.string S, .string ⟨#[120, 109, 108]⟩] w' fun e w'' => e = .returned (.bool (Lib.equalFold S.data.toList [120, 109, 108])) ∧ Below w'.heap.size w' w'') := fun w' hb => fold_any S hlen w' (hW.later hb).fold
  clear hW
  unfold tarB
  generalize nmS S = B1 at *
  generalize Lib.equalFold S.data.toList [120, 109, 108] = B2 at *
  cases B1 with
  | false =>
    go_enter Tryd.func35, Tryd.ntmps35
    go_wp2_with fail
    refine HN.out.mono ?_
    rintro e w1 ⟨rfl, hb1⟩
    go_wp2
    go_ret
    exact ⟨rfl, hb1⟩
  | true =>
    go_enter Tryd.func35, Tryd.ntmps35
    go_wp2_with fail
    refine HN.out.mono ?_
    rintro e w1 ⟨rfl, hb1⟩
    go_wp2_with fail
    refine (HE.out w1 hb1).mono ?_
    rintro e w2 ⟨rfl, hb2⟩
    go_wp2
    go_ret
    exact ⟨by simp, hb1.trans (hb2.mono hb1.size)⟩
theorem fb_at {S : ByteArray} (h : eqL S [] = false) : ∃ c : UInt8, fb S = blk c ∧ ∀ w, (Instr.index 9 (.string S) (.int .i64 0)).run Tryd.prog w = .ok (.int .u8 (c.toNat : Int)) w := by
  have hne : S.data.toList ≠ [] := fun h' => by rw [eqL_iff.2 h'] at h; cases h
  have hl : 0 < S.data.toList.length := List.length_pos_iff.2 hne
  obtain ⟨c, r, hs⟩ : ∃ c r, S.data.toList = c :: r := by
    cases hs : S.data.toList with
    | nil => exact absurd hs hne
    | cons c r => exact ⟨c, r, rfl⟩
  refine ⟨c, by unfold fb; rw [hs], fun w => ?_⟩
  have h1 := index_str S hl w
  have h2 : S.data.toList[0] = c := Option.some.inj ((List.getElem?_eq_getElem hl).symm.trans (by rw [hs]; rfl))
  rw [h2] at h1
  exact h1
set_option maxHeartbeats 2000000 in
theorem instruction_any (S : ByteArray) (hlen : S.size ≤ 2000000) (w : World) (hW : Wd w) : Calls Tryd.prog 36 #[.string S] w fun e w' => e = .returned (.bool (pinB S)) ∧ Below w.heap.size w w' := by
  have HT := Lib.hid (isText_any S hlen w hW)
  have HC : Hid (∀ w', Below w.heap.size w w' → Calls Tryd.prog 48 #[.string S, .string ⟨#[63, 62]⟩] w' fun e w'' => e = .returned (.bool (insB S.data.toList [63, 62])) ∧ w'' = w') := fun w' hb => contains_any S ⟨#[63, 62]⟩ w' (hW.later hb).max hlen
  clear hW
  unfold pinB
  generalize tx S = B1 at *
  generalize insB S.data.toList [63, 62] = B2 at *
  cases B1 with
  | false =>
    go_enter Tryd.func36, Tryd.ntmps36
    go_wp2_with fail
    refine HT.out.mono ?_
    rintro e w1 ⟨rfl, hb1⟩
    go_wp2
    go_ret
    exact ⟨rfl, hb1⟩
  | true =>
    cases B2 with
    | true =>
      go_enter Tryd.func36, Tryd.ntmps36
      go_wp2_with fail
      refine HT.out.mono ?_
      rintro e w1 ⟨rfl, hb1⟩
      go_wp2_with fail
      refine (HC.out w1 hb1).mono ?_
      rintro e w2 ⟨rfl, hw2⟩
      rw [hw2]
      go_wp2
      go_ret
      exact ⟨rfl, hb1⟩
    | false =>
      cases h0 : eqL S [] with
      | true =>
        obtain ⟨t1, t2⟩ := empty_val h0
        go_enter Tryd.func36, Tryd.ntmps36
        go_wp2_with fail
        refine HT.out.mono ?_
        rintro e w1 ⟨rfl, hb1⟩
        go_wp2_with fail
        refine (HC.out w1 hb1).mono ?_
        rintro e w2 ⟨rfl, hw2⟩
        rw [hw2]
        go_wp2
        go_ret
        exact ⟨by simp, hb1⟩
      | false =>
        obtain ⟨t1, t2⟩ := empty_val h0
        obtain ⟨c, hc, hix⟩ := fb_at h0
        rw [hc]
        have HB : Hid (∀ w, Calls Tryd.prog 51 #[.int .u8 (c.toNat : Int)] w fun e w' => e = .returned (.bool (blk c)) ∧ w' = w) := fun w => by rw [← blkZ_of]; exact blank_any _ w
        generalize blk c = B3 at *
        clear hc h0
        go_enter Tryd.func36, Tryd.ntmps36
        go_wp2_with fail
        refine HT.out.mono ?_
        rintro e w1 ⟨rfl, hb1⟩
        go_wp2_with fail
        refine (HC.out w1 hb1).mono ?_
        rintro e w2 ⟨rfl, hw2⟩
        rw [hw2]
        clear hw2
        go_wp2_with fail
        refine (HB.out w1).mono ?_
        rintro e w2 ⟨rfl, hw2⟩
        rw [hw2]
        go_wp2
        go_ret
        exact ⟨by simp, hb1⟩
/-- xml, xmlns, and what they mean. -/
def xmlP : List UInt8 := [120, 109, 108]
def xmlnsP : List UInt8 := [120, 109, 108, 110, 115]
def xmlU : List UInt8 := [104, 116, 116, 112, 58, 47, 47, 119, 119, 119, 46, 119, 51, 46, 111, 114, 103, 47, 88, 77, 76, 47, 49, 57, 57, 56, 47, 110, 97, 109, 101, 115, 112, 97, 99, 101]
def xmlnsU : List UInt8 := [104, 116, 116, 112, 58, 47, 47, 119, 119, 119, 46, 119, 51, 46, 111, 114, 103, 47, 50, 48, 48, 48, 47, 120, 109, 108, 110, 115, 47]
/-- May a declaration be? -/
noncomputable def declB (d : Dc) : Bool := prefB d.p && (!eqL d.p xmlnsP && (tx d.u && (!eqL d.u xmlnsU && (!(eqL d.u [] && !eqL d.p []) && (eqL d.p xmlP == eqL d.u xmlU)))))
/-- May an attribute be, by itself? -/
noncomputable def attrB (a : At) : Bool := !(eqL a.p [] && eqL a.l xmlnsP) && (nmS a.l && (prefB a.p && tx a.v))
/-- A contract's end, told from an earlier world on. -/
theorem calls_from {P : Program} {f : FuncId} {args : Array Value} {B : Nat} {a w' : World} {R : Ending → Prop} (hB : B ≤ w'.heap.size) (hb : Below B a w')
    (h : Calls P f args w' fun e w'' => R e ∧ Below w'.heap.size w' w'') : Calls P f args w' fun e w'' => R e ∧ Below B a w'' :=
  h.mono fun e w'' ⟨h1, h2⟩ => ⟨h1, hb.trans (h2.mono hB)⟩
/-- A new block's cells, later. -/
theorem boxed {w w1 : World} {cs : Array Value} {t : TypeId} {fz : Nat × Nat} {j : Nat} {v : Value} (hb : Below (w.alloc (.cells cs t fz)).heap.size (w.alloc (.cells cs t fz)) w1) (hj : cs[j]? = some v) : w1.cell? ⟨w.heap.size, j, none⟩ = some v := by
  rw [hb.cell (p := ⟨w.heap.size, j, none⟩) (by simp), cell_of_row _ w.heap.size j _ _ _ (heap_alloc_last w _)]
  exact hj
theorem below_box {w w1 : World} {o : Obj} (hb : Below (w.alloc o).heap.size (w.alloc o) w1) : Below w.heap.size w w1 :=
  ((Below.refl _ w).alloc (Nat.le_refl _) o).trans (hb.mono (by simp))
/-- A test on a text, kept for later. -/
theorem tst (S : ByteArray) (l : List UInt8) : ∃ b, eqL S l = b ∧ Hid ((S.toList == l) = b) := ⟨_, rfl, rfl⟩
theorem tst0 (S : ByteArray) : ∃ b, eqL S [] = b ∧ Hid ((S.toList == []) = b ∧ S.toList.isEmpty = b) := ⟨_, rfl, empty_val rfl⟩
set_option maxHeartbeats 4000000 in
theorem decl_any (d : Dc) (h1 : d.p.size ≤ 2000000) (h2 : d.u.size ≤ 2000000) (w : World) (hW : Wd w) : Calls Tryd.prog 43 #[.agg #[.string d.p, .string d.u]] w fun e w' => e = .returned (.bool (declB d)) ∧ Below w.heap.size w w' := by
  have HP : Hid (∀ w', Below w.heap.size w w' → Calls Tryd.prog 42 #[.string d.p] w' fun e w'' => e = .returned (.bool (prefB d.p)) ∧ Below w'.heap.size w' w'') := fun w' hb => prefix_any d.p h1 w' (hW.later hb)
  have HT : Hid (∀ w', Below w.heap.size w w' → Calls Tryd.prog 33 #[.string d.u] w' fun e w'' => e = .returned (.bool (tx d.u)) ∧ Below w'.heap.size w' w'') := fun w' hb => isText_any d.u h2 w' (hW.later hb)
  clear hW
  unfold declB
  obtain ⟨P, U⟩ := d
  dsimp only at *
  generalize prefB P = B1 at *
  generalize tx U = B3 at *
  obtain ⟨b1, e1, E1⟩ := tst P xmlnsP
  obtain ⟨b2, e2, E2⟩ := tst U xmlnsU
  obtain ⟨b3, e3, E3⟩ := tst0 U
  obtain ⟨b4, e4, E4⟩ := tst0 P
  obtain ⟨b5, e5, E5⟩ := tst P xmlP
  obtain ⟨b6, e6, E6⟩ := tst U xmlU
  rw [e1, e2, e3, e4, e5, e6]
  clear e1 e2 e3 e4 e5 e6
  unfold xmlnsP at E1
  unfold xmlnsU at E2
  unfold xmlP at E5
  unfold xmlU at E6
  go_enter Tryd.func43, Tryd.ntmps43
  go_wp2_with fail
  refine (HP.out _ ((Below.refl _ _).alloc (Nat.le_refl _) _)).mono ?_
  rintro e w1 ⟨rfl, hb1⟩
  have c0 := boxed (j := 0) hb1 rfl
  have c1 := boxed (j := 1) hb1 rfl
  have hbw := below_box hb1
  cases B1 with
  | false =>
    go_wp2
    go_ret
    exact ⟨rfl, hbw⟩
  | true =>
    have t1 := E1.out
    cases b1 with
    | true =>
      go_wp2
      go_ret
      exact ⟨rfl, hbw⟩
    | false =>
      go_wp2_with fail
      refine (calls_from hb1.size hb1 (HT.out _ hbw)).mono ?_
      rintro e w2 ⟨rfl, hb2⟩
      replace c0 := boxed (j := 0) hb2 rfl
      replace c1 := boxed (j := 1) hb2 rfl
      replace hbw := below_box hb2
      clear hb1
      cases B3 with
      | false =>
        go_wp2
        go_ret
        exact ⟨rfl, hbw⟩
      | true =>
        have t2 := E2.out
        cases b2 with
        | true =>
          go_wp2
          go_ret
          exact ⟨rfl, hbw⟩
        | false =>
          obtain ⟨t3, t3'⟩ := E3.out
          obtain ⟨t4, t4'⟩ := E4.out
          have t5 := E5.out
          have t6 := E6.out
          cases b3 with
          | true =>
            cases b4 with
            | false =>
              go_wp2
              go_ret
              exact ⟨rfl, hbw⟩
            | true =>
              go_wp2
              go_ret
              exact ⟨rfl, hbw⟩
          | false =>
            go_wp2
            go_ret
            exact ⟨rfl, hbw⟩
end Go.Proofs.YtalcmhngebobnaaDoor
