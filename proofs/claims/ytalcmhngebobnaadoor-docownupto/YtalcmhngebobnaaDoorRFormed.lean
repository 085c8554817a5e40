/-
  apostilleref07.Deep: the document's own. Conditions: the list lies as it is; the nodes hang on nodes ahead.
  apostilleref07.Formed and Check: the document's own. Conditions: the list lies as it is; there are not too many nodes, the texts are not too long.
-/
import Derived.Test.YtalcmhngebobnaaDoorREndP
import Derived.Test.YtalcmhngebobnaaDoorDWithin
import Derived.Test.YtalcmhngebobnaaDoorROther
import Derived.Test.YtalcmhngebobnaaDoorDOf
namespace Go.Proofs.YtalcmhngebobnaaDoor
open Go.RowKit
set_option linter.unusedVariables false
set_option maxRecDepth 100000
/-- What holds at each round's head. -/
def DeRel (w : World) (l : List Nd) (n : Nat) (i dd : Value) (wr : World) : Prop := wr = w ∧ ∃ m e : Nat, m ≤ n ∧ i = .int .i64 m ∧ dd = .int .i64 e ∧ dp l n = dp l m + e ∧ e + m ≤ n
end Go.Proofs.YtalcmhngebobnaaDoor
namespace Go.Proofs.YtalcmhngebobnaaDoor
open Go.RowKit
set_option linter.unusedVariables false
set_option maxRecDepth 100000
/-- Is a node formed, as an element, as another one? -/
noncomputable def elN (l : List Nd) (n : Nat) : Bool := match l[n]? with | some x => elemR l n x | none => false
noncomputable def otN (l : List Nd) (n : Nat) : Bool := match l[n]? with | some x => otherR l n x | none => false
theorem elN_at {l : List Nd} {n : Nat} (h : n < l.length) : elN l n = elemR l n l[n] := by simp [elN, List.getElem?_eq_getElem h]
theorem otN_at {l : List Nd} {n : Nat} (h : n < l.length) : otN l n = otherR l n l[n] := by simp [otN, List.getElem?_eq_getElem h]
/-- Is a node formed? -/
def NodeOK (l : List Nd) (n : Nat) : Prop := hangB l n = true ∧ (kd l n = 1 → elN l n = true) ∧ (kd l n ≠ 1 → otN l n = true)
/-- Is a list? -/
structure FormedOK (l : List Nd) : Prop where
  root : ∃ h : 0 < l.length, rootB l[0] = true
  nodes : ∀ n, 1 ≤ n → n < l.length → NodeOK l n
  top : tops l l.length = 1
open Classical in
noncomputable def formedR (l : List Nd) : Bool := decide (FormedOK l)
open Classical in
theorem formedR_no {l : List Nd} (h : ¬ FormedOK l) : formedR l = false := by unfold formedR; exact decide_eq_false h
open Classical in
theorem formedR_yes {l : List Nd} (h : FormedOK l) : formedR l = true := by unfold formedR; exact decide_eq_true h
theorem hung_upto {l : List Nd} {n : Nat} (hn : n ≤ l.length) (h : ∀ j, 1 ≤ j → j < n → NodeOK l j) : Hung l n := fun j h1 h2 => hang_less h1 (h j h1 h2).1
/-- What holds at each round's head. -/
def FoRel (w : World) (l : List Nd) (t i : Value) (wr : World) : Prop := ∃ n : Nat, 1 ≤ n ∧ n ≤ l.length ∧ i = .int .i64 n ∧ t = .int .i64 (tops l n : Nat) ∧ (∀ j, 1 ≤ j → j < n → NodeOK l j) ∧ Below w.heap.size w wr
end Go.Proofs.YtalcmhngebobnaaDoor
