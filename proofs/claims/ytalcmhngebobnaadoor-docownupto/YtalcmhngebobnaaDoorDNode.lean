/-
  The Root, and nodes by their Kinds: whether they are formed by themselves; Texts side by side. Conditions: the tables lie as they are laid; the texts are not too long, the lists neither.
-/
import Derived.Test.YtalcmhngebobnaaDoorDElem
namespace Go.Proofs.YtalcmhngebobnaaDoor
open Go.RowKit
set_option linter.unusedVariables false
set_option maxRecDepth 100000
/-- Is the first node the Root? -/
def rootB (x : Nd) : Bool := (x.k == 0) && ((x.n == -1) && (eqL x.l [] && (eqL x.t [] && bareB x)))
set_option maxHeartbeats 4000000 in
theorem root_any (x : Nd) (v : Value) (w : World) (hv : NdV w w.heap.size v x) : Calls Tryd.prog 20 #[v] w fun e w' => e = .returned (.bool (rootB x)) ∧ Below w.heap.size w w' := by
  have HB : Hid (∀ w', Below w.heap.size w w' → Calls Tryd.prog 29 #[v] w' fun e w'' => e = .returned (.bool (bareB x)) ∧ Below w'.heap.size w' w'') := fun w' hb => bare_any x v w' (hv.later hb)
  obtain ⟨vd, va, rfl, ⟨A1, cap1, rfl, _⟩, ⟨A2, cap2, rfl, _⟩⟩ := hv
  unfold rootB
  generalize bareB x = B at *
  obtain ⟨b1, e1, E1⟩ := tstI x.k 0
  obtain ⟨b2, e2, E2⟩ := tstI x.n (-1)
  obtain ⟨b3, e3, E3⟩ := tst0 x.l
  obtain ⟨b4, e4, E4⟩ := tst0 x.t
  rw [e1, e2, e3, e4]
  clear e1 e2 e3 e4
  go_enter Tryd.func20, Tryd.ntmps20
  have t1 := E1.out
  cases b1 with
  | false =>
    go_wp2
    go_ret
    exact ⟨rfl, (Below.refl _ _).alloc (Nat.le_refl _) _⟩
  | true =>
    have t2 := E2.out
    cases b2 with
    | false =>
      go_wp2
      go_ret
      exact ⟨rfl, (Below.refl _ _).alloc (Nat.le_refl _) _⟩
    | true =>
      obtain ⟨t3, t3'⟩ := E3.out
      cases b3 with
      | false =>
        go_wp2
        go_ret
        exact ⟨rfl, (Below.refl _ _).alloc (Nat.le_refl _) _⟩
      | true =>
        obtain ⟨t4, t4'⟩ := E4.out
        cases b4 with
        | false =>
          go_wp2
          go_ret
          exact ⟨rfl, (Below.refl _ _).alloc (Nat.le_refl _) _⟩
        | true =>
          go_wp2_with fail
          refine (HB.out _ ((Below.refl _ _).alloc (Nat.le_refl _) _)).mono ?_
          rintro e w1 ⟨rfl, hb1⟩
          have hbw := below_box hb1
          go_wp2
          go_ret
          exact ⟨by simp, hbw⟩
/-- Is a node formed, by its Kind, but for what its prefixes mean? -/
noncomputable def nodeB (x : Nd) : Bool :=
  bif x.k == 1 then elemF x else bif x.k == 2 then bareB x && (eqL x.l [] && (!eqL x.t [] && tx x.t)) else bif x.k == 3 then bareB x && (eqL x.l [] && comB x.t) else
  bif x.k == 4 then bareB x && (tarB x.l && pinB x.t) else false
set_option maxHeartbeats 8000000 in
theorem node_any (x : Nd) (v : Value) (hs : Sm x) (w : World) (hW : Wd w) (hv : NdV w w.heap.size v x) : Calls Tryd.prog 22 #[v] w fun e w' => e = .returned (.bool (nodeB x)) ∧ Below w.heap.size w w' := by
  have HB : Hid (∀ w', Below w.heap.size w w' → Calls Tryd.prog 29 #[v] w' fun e w'' => e = .returned (.bool (bareB x)) ∧ Below w'.heap.size w' w'') := fun w' hb => bare_any x v w' (hv.later hb)
  have HE : Hid (∀ w', Below w.heap.size w w' → Calls Tryd.prog 32 #[v] w' fun e w'' => e = .returned (.bool (elemF x)) ∧ Below w'.heap.size w' w'') := fun w' hb => element_any x v hs w' (hW.later hb) (hv.later hb)
  have HT : Hid (∀ w', Below w.heap.size w w' → Calls Tryd.prog 33 #[.string x.t] w' fun e w'' => e = .returned (.bool (tx x.t)) ∧ Below w'.heap.size w' w'') := fun w' hb => isText_any x.t hs.t w' (hW.later hb)
  have HC : Hid (∀ w', Below w.heap.size w w' → Calls Tryd.prog 34 #[.string x.t] w' fun e w'' => e = .returned (.bool (comB x.t)) ∧ Below w'.heap.size w' w'') := fun w' hb => comment_any x.t hs.t w' (hW.later hb)
  have HG : Hid (∀ w', Below w.heap.size w w' → Calls Tryd.prog 35 #[.string x.l] w' fun e w'' => e = .returned (.bool (tarB x.l)) ∧ Below w'.heap.size w' w'') := fun w' hb => target_any x.l hs.l w' (hW.later hb)
  have HI : Hid (∀ w', Below w.heap.size w w' → Calls Tryd.prog 36 #[.string x.t] w' fun e w'' => e = .returned (.bool (pinB x.t)) ∧ Below w'.heap.size w' w'') := fun w' hb => instruction_any x.t hs.t w' (hW.later hb)
  obtain ⟨vd, va, rfl, ⟨A1, cap1, rfl, _⟩, ⟨A2, cap2, rfl, _⟩⟩ := hv
  unfold nodeB
  generalize bareB x = B at *
  generalize elemF x = BE at *
  generalize tx x.t = BT at *
  generalize comB x.t = BC at *
  generalize tarB x.l = BG at *
  generalize pinB x.t = BI at *
  obtain ⟨b1, e1, E1⟩ := tstI x.k 1
  obtain ⟨b2, e2, E2⟩ := tstI x.k 2
  obtain ⟨b3, e3, E3⟩ := tstI x.k 3
  obtain ⟨b4, e4, E4⟩ := tstI x.k 4
  obtain ⟨b5, e5, E5⟩ := tst0 x.l
  obtain ⟨b6, e6, E6⟩ := tst0 x.t
  rw [e1, e2, e3, e4, e5, e6]
  clear e1 e2 e3 e4 e5 e6 hW hs
  generalize x.k = K at *
  go_enter Tryd.func22, Tryd.ntmps22
  have t1 := E1.out
  cases b1 with
  | false =>
    have t2 := E2.out
    cases b2 with
    | false =>
      have t3 := E3.out
      cases b3 with
      | false =>
        have t4 := E4.out
        cases b4 with
        | false =>
          go_wp2
          go_ret
          exact ⟨rfl, (Below.refl _ _).alloc (Nat.le_refl _) _⟩
        | true =>
          go_wp2_with fail
          refine (HB.out _ ((Below.refl _ _).alloc (Nat.le_refl _) _)).mono ?_
          rintro e w1 ⟨rfl, hb1⟩
          have c0 := boxed (j := 0) hb1 rfl
          have c1 := boxed (j := 1) hb1 rfl
          have c2 := boxed (j := 2) hb1 rfl
          have c3 := boxed (j := 3) hb1 rfl
          have c4 := boxed (j := 4) hb1 rfl
          have c5 := boxed (j := 5) hb1 rfl
          have c6 := boxed (j := 6) hb1 rfl
          have c7 := boxed (j := 7) hb1 rfl
          have hbw := below_box hb1
          cases B with
          | false =>
            go_wp2
            go_ret
            exact ⟨rfl, hbw⟩
          | true =>
            go_wp2_with fail
            refine (calls_from hb1.size hb1 (HG.out _ hbw)).mono ?_
            rintro e w2 ⟨rfl, hb2⟩
            replace c0 := boxed (j := 0) hb2 rfl
            replace c1 := boxed (j := 1) hb2 rfl
            replace c2 := boxed (j := 2) hb2 rfl
            replace c3 := boxed (j := 3) hb2 rfl
            replace c4 := boxed (j := 4) hb2 rfl
            replace c5 := boxed (j := 5) hb2 rfl
            replace c6 := boxed (j := 6) hb2 rfl
            replace c7 := boxed (j := 7) hb2 rfl
            replace hbw := below_box hb2
            clear hb1
            cases BG with
            | false =>
              go_wp2
              go_ret
              exact ⟨rfl, hbw⟩
            | true =>
              go_wp2_with fail
              refine (calls_from hb2.size hb2 (HI.out _ hbw)).mono ?_
              rintro e w3 ⟨rfl, hb3⟩
              replace c0 := boxed (j := 0) hb3 rfl
              replace c1 := boxed (j := 1) hb3 rfl
              replace c2 := boxed (j := 2) hb3 rfl
              replace c3 := boxed (j := 3) hb3 rfl
              replace c4 := boxed (j := 4) hb3 rfl
              replace c5 := boxed (j := 5) hb3 rfl
              replace c6 := boxed (j := 6) hb3 rfl
              replace c7 := boxed (j := 7) hb3 rfl
              replace hbw := below_box hb3
              clear hb2
              go_wp2
              go_ret
              exact ⟨by simp, hbw⟩
      | true =>
        go_wp2_with fail
        refine (HB.out _ ((Below.refl _ _).alloc (Nat.le_refl _) _)).mono ?_
        rintro e w4 ⟨rfl, hb4⟩
        have c0 := boxed (j := 0) hb4 rfl
        have c1 := boxed (j := 1) hb4 rfl
        have c2 := boxed (j := 2) hb4 rfl
        have c3 := boxed (j := 3) hb4 rfl
        have c4 := boxed (j := 4) hb4 rfl
        have c5 := boxed (j := 5) hb4 rfl
        have c6 := boxed (j := 6) hb4 rfl
        have c7 := boxed (j := 7) hb4 rfl
        have hbw := below_box hb4
        cases B with
        | false =>
          go_wp2
          go_ret
          exact ⟨rfl, hbw⟩
        | true =>
          obtain ⟨t5, t5'⟩ := E5.out
          cases b5 with
          | false =>
            go_wp2
            go_ret
            exact ⟨rfl, hbw⟩
          | true =>
            go_wp2_with fail
            refine (calls_from hb4.size hb4 (HC.out _ hbw)).mono ?_
            rintro e w5 ⟨rfl, hb5⟩
            replace c0 := boxed (j := 0) hb5 rfl
            replace c1 := boxed (j := 1) hb5 rfl
            replace c2 := boxed (j := 2) hb5 rfl
            replace c3 := boxed (j := 3) hb5 rfl
            replace c4 := boxed (j := 4) hb5 rfl
            replace c5 := boxed (j := 5) hb5 rfl
            replace c6 := boxed (j := 6) hb5 rfl
            replace c7 := boxed (j := 7) hb5 rfl
            replace hbw := below_box hb5
            clear hb4
            go_wp2
            go_ret
            exact ⟨by simp, hbw⟩
    | true =>
      go_wp2_with fail
      refine (HB.out _ ((Below.refl _ _).alloc (Nat.le_refl _) _)).mono ?_
      rintro e w6 ⟨rfl, hb6⟩
      have c0 := boxed (j := 0) hb6 rfl
      have c1 := boxed (j := 1) hb6 rfl
      have c2 := boxed (j := 2) hb6 rfl
      have c3 := boxed (j := 3) hb6 rfl
      have c4 := boxed (j := 4) hb6 rfl
      have c5 := boxed (j := 5) hb6 rfl
      have c6 := boxed (j := 6) hb6 rfl
      have c7 := boxed (j := 7) hb6 rfl
      have hbw := below_box hb6
      cases B with
      | false =>
        go_wp2
        go_ret
        exact ⟨rfl, hbw⟩
      | true =>
        obtain ⟨t5, t5'⟩ := E5.out
        cases b5 with
        | false =>
          go_wp2
          go_ret
          exact ⟨rfl, hbw⟩
        | true =>
          obtain ⟨t6, t6'⟩ := E6.out
          cases b6 with
          | false =>
            go_wp2_with fail
            refine (calls_from hb6.size hb6 (HT.out _ hbw)).mono ?_
            rintro e w7 ⟨rfl, hb7⟩
            replace c0 := boxed (j := 0) hb7 rfl
            replace c1 := boxed (j := 1) hb7 rfl
            replace c2 := boxed (j := 2) hb7 rfl
            replace c3 := boxed (j := 3) hb7 rfl
            replace c4 := boxed (j := 4) hb7 rfl
            replace c5 := boxed (j := 5) hb7 rfl
            replace c6 := boxed (j := 6) hb7 rfl
            replace c7 := boxed (j := 7) hb7 rfl
            replace hbw := below_box hb7
            clear hb6
            go_wp2
            go_ret
            exact ⟨by simp, hbw⟩
          | true =>
            go_wp2
            go_ret
            exact ⟨rfl, hbw⟩
  | true =>
    go_wp2_with fail
    refine (HE.out _ ((Below.refl _ _).alloc (Nat.le_refl _) _)).mono ?_
    rintro e w8 ⟨rfl, hb8⟩
    have c0 := boxed (j := 0) hb8 rfl
    have c1 := boxed (j := 1) hb8 rfl
    have c2 := boxed (j := 2) hb8 rfl
    have c3 := boxed (j := 3) hb8 rfl
    have c4 := boxed (j := 4) hb8 rfl
    have c5 := boxed (j := 5) hb8 rfl
    have c6 := boxed (j := 6) hb8 rfl
    have c7 := boxed (j := 7) hb8 rfl
    have hbw := below_box hb8
    go_wp2
    go_ret
    exact ⟨by simp, hbw⟩
end Go.Proofs.YtalcmhngebobnaaDoor
