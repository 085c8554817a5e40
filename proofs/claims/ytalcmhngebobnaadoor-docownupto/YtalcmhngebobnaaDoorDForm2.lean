/-
  Attributes, bare nodes, the Root; the document's own words on declarations. Conditions: the tables lie as they are laid, internal/bytealg.MaxLen holds some number; the texts are not too long.
-/
import Derived.Test.YtalcmhngebobnaaDoorDForm
import Derived.Test.YtalcmhngebobnaaDoorDPure
namespace Go.Proofs.YtalcmhngebobnaaDoor
open Go.RowKit
set_option linter.unusedVariables false
set_option maxRecDepth 100000
/-- How many, and none. -/
theorem tstN (n : Nat) : ∃ b, decide (n = 0) = b ∧ Hid (((n : Int) == 0) = b) := ⟨_, rfl, by
  show ((n : Int) == 0) = decide (n = 0)
  rw [Bool.eq_iff_iff]; simp⟩
/-- A number, and another one. -/
theorem tstI (n k : Int) : ∃ b, (n == k) = b ∧ Hid ((n == k) = b) := ⟨_, rfl, rfl⟩
set_option maxHeartbeats 4000000 in
theorem attr_any (a : At) (h1 : a.p.size ≤ 2000000) (h2 : a.l.size ≤ 2000000) (h3 : a.v.size ≤ 2000000) (w : World) (hW : Wd w) : Calls Tryd.prog 44 #[.agg #[.string a.p, .string a.l, .string a.u, .string a.v]] w fun e w' => e = .returned (.bool (attrB a)) ∧ Below w.heap.size w w' := by
  have HP : Hid (∀ w', Below w.heap.size w w' → Calls Tryd.prog 42 #[.string a.p] w' fun e w'' => e = .returned (.bool (prefB a.p)) ∧ Below w'.heap.size w' w'') := fun w' hb => prefix_any a.p h1 w' (hW.later hb)
  have HN : Hid (∀ w', Below w.heap.size w w' → Calls Tryd.prog 41 #[.string a.l] w' fun e w'' => e = .returned (.bool (nmS a.l)) ∧ Below w'.heap.size w' w'') := fun w' hb => is_any a.l h2 w' (hW.later hb).tabs
  have HT : Hid (∀ w', Below w.heap.size w w' → Calls Tryd.prog 33 #[.string a.v] w' fun e w'' => e = .returned (.bool (tx a.v)) ∧ Below w'.heap.size w' w'') := fun w' hb => isText_any a.v h3 w' (hW.later hb)
  clear hW
  unfold attrB
  obtain ⟨P, L, U, V⟩ := a
  dsimp only at *
  generalize prefB P = B2 at *
  generalize nmS L = B1 at *
  generalize tx V = B3 at *
  obtain ⟨b1, e1, E1⟩ := tst0 P
  obtain ⟨b2, e2, E2⟩ := tst L xmlnsP
  rw [e1, e2]
  clear e1 e2
  unfold xmlnsP at E2
  go_enter Tryd.func44, Tryd.ntmps44
  obtain ⟨t1, t1'⟩ := E1.out
  cases b1 with
  | false =>
    go_wp2_with fail
    refine (HN.out _ ((Below.refl _ _).alloc (Nat.le_refl _) _)).mono ?_
    rintro e w1 ⟨rfl, hb1⟩
    have c0 := boxed (j := 0) hb1 rfl
    have c1 := boxed (j := 1) hb1 rfl
    have c2 := boxed (j := 2) hb1 rfl
    have c3 := boxed (j := 3) hb1 rfl
    have hbw := below_box hb1
    cases B1 with
    | false =>
      go_wp2
      go_ret
      exact ⟨rfl, hbw⟩
    | true =>
      go_wp2_with fail
      refine (calls_from hb1.size hb1 (HP.out _ hbw)).mono ?_
      rintro e w2 ⟨rfl, hb2⟩
      replace c0 := boxed (j := 0) hb2 rfl
      replace c1 := boxed (j := 1) hb2 rfl
      replace c2 := boxed (j := 2) hb2 rfl
      replace c3 := boxed (j := 3) hb2 rfl
      replace hbw := below_box hb2
      clear hb1
      cases B2 with
      | false =>
        go_wp2
        go_ret
        exact ⟨rfl, hbw⟩
      | true =>
        go_wp2_with fail
        refine (calls_from hb2.size hb2 (HT.out _ hbw)).mono ?_
        rintro e w3 ⟨rfl, hb3⟩
        replace c0 := boxed (j := 0) hb3 rfl
        replace c1 := boxed (j := 1) hb3 rfl
        replace c2 := boxed (j := 2) hb3 rfl
        replace c3 := boxed (j := 3) hb3 rfl
        replace hbw := below_box hb3
        clear hb2
        go_wp2
        go_ret
        exact ⟨by simp, hbw⟩
  | true =>
    have t2 := E2.out
    cases b2 with
    | false =>
      go_wp2_with fail
      refine (HN.out _ ((Below.refl _ _).alloc (Nat.le_refl _) _)).mono ?_
      rintro e w4 ⟨rfl, hb4⟩
      have c0 := boxed (j := 0) hb4 rfl
      have c1 := boxed (j := 1) hb4 rfl
      have c2 := boxed (j := 2) hb4 rfl
      have c3 := boxed (j := 3) hb4 rfl
      have hbw := below_box hb4
      cases B1 with
      | false =>
        go_wp2
        go_ret
        exact ⟨rfl, hbw⟩
      | true =>
        go_wp2_with fail
        refine (calls_from hb4.size hb4 (HP.out _ hbw)).mono ?_
        rintro e w5 ⟨rfl, hb5⟩
        replace c0 := boxed (j := 0) hb5 rfl
        replace c1 := boxed (j := 1) hb5 rfl
        replace c2 := boxed (j := 2) hb5 rfl
        replace c3 := boxed (j := 3) hb5 rfl
        replace hbw := below_box hb5
        clear hb4
        cases B2 with
        | false =>
          go_wp2
          go_ret
          exact ⟨rfl, hbw⟩
        | true =>
          go_wp2_with fail
          refine (calls_from hb5.size hb5 (HT.out _ hbw)).mono ?_
          rintro e w6 ⟨rfl, hb6⟩
          replace c0 := boxed (j := 0) hb6 rfl
          replace c1 := boxed (j := 1) hb6 rfl
          replace c2 := boxed (j := 2) hb6 rfl
          replace c3 := boxed (j := 3) hb6 rfl
          replace hbw := below_box hb6
          clear hb5
          go_wp2
          go_ret
          exact ⟨by simp, hbw⟩
    | true =>
      go_wp2
      go_ret
      exact ⟨rfl, (Below.refl _ _).alloc (Nat.le_refl _) _⟩
/-- Has a node nothing that an element alone may have? -/
def bareB (x : Nd) : Bool := eqL x.p [] && (eqL x.u [] && (decide (x.ds.length = 0) && decide (x.ats.length = 0)))
set_option maxHeartbeats 4000000 in
theorem bare_any (x : Nd) (v : Value) (w : World) (hv : NdV w w.heap.size v x) : Calls Tryd.prog 29 #[v] w fun e w' => e = .returned (.bool (bareB x)) ∧ Below w.heap.size w w' := by
  obtain ⟨vd, va, rfl, ⟨A1, cap1, rfl, _⟩, ⟨A2, cap2, rfl, _⟩⟩ := hv
  unfold bareB
  obtain ⟨K, N, P, L, U, T, ds, ats⟩ := x
  dsimp only at *
  obtain ⟨b1, e1, E1⟩ := tst0 P
  obtain ⟨b2, e2, E2⟩ := tst0 U
  obtain ⟨b3, e3, E3⟩ := tstN ds.length
  obtain ⟨b4, e4, E4⟩ := tstN ats.length
  rw [e1, e2, e3, e4]
  clear e1 e2 e3 e4
  generalize ds.length = nd at *
  generalize ats.length = na at *
  go_enter Tryd.func29, Tryd.ntmps29
  obtain ⟨t1, t1'⟩ := E1.out
  cases b1 with
  | false =>
    go_wp2
    go_ret
    exact ⟨rfl, (Below.refl _ _).alloc (Nat.le_refl _) _⟩
  | true =>
    obtain ⟨t2, t2'⟩ := E2.out
    cases b2 with
    | false =>
      go_wp2
      go_ret
      exact ⟨rfl, (Below.refl _ _).alloc (Nat.le_refl _) _⟩
    | true =>
      have t3 := E3.out
      cases b3 with
      | false =>
        go_wp2
        go_ret
        exact ⟨rfl, (Below.refl _ _).alloc (Nat.le_refl _) _⟩
      | true =>
        have t4 := E4.out
        cases b4 with
        | false =>
          go_wp2
          go_ret
          exact ⟨rfl, (Below.refl _ _).alloc (Nat.le_refl _) _⟩
        | true =>
          go_wp2
          go_ret
          exact ⟨rfl, (Below.refl _ _).alloc (Nat.le_refl _) _⟩
end Go.Proofs.YtalcmhngebobnaaDoor
