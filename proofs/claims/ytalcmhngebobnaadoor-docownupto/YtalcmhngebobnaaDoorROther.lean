/-
  apostilleref07.Has and Means: the document's own. Conditions: the list lies as it is; the nodes hang on nodes ahead; the texts are not too long.
  apostilleref07.element: the document's own. Conditions: the list lies as it is; the nodes hang on nodes ahead; the texts are not too long.
  apostilleref07.other: the document's own. Conditions: the list lies as it is; the texts are not too long.
-/
import Derived.Test.YtalcmhngebobnaaDoorREndP
import Derived.Test.YtalcmhngebobnaaDoorDShelf
import Derived.Test.YtalcmhngebobnaaDoorDTwice
import Derived.Test.YtalcmhngebobnaaDoorDForm
import Derived.Test.YtalcmhngebobnaaDoorDElem
import Derived.Test.YtalcmhngebobnaaDoorValidParts
import Derived.Deep.QuietTactic
namespace Go.Proofs.YtalcmhngebobnaaDoor
open Go.RowKit
set_option linter.unusedVariables false
set_option maxRecDepth 100000
theorem ins_iff {s t : List UInt8} : Ins s t ↔ t = [] ∨ ∃ j, j < s.length ∧ (s.drop j).take t.length = t := by
  constructor
  · rintro ⟨a, b, e⟩
    by_cases ht : t = []
    · exact .inl ht
    · refine .inr ⟨a.length, ?_, ?_⟩
      · rw [e]
        have := List.length_pos_iff.2 ht
        simp; omega
      · rw [e, List.drop_left, List.take_left]
  · rintro (rfl | ⟨j, hj, h⟩)
    · exact ⟨[], s, rfl⟩
    · refine ⟨s.take j, (s.drop j).drop t.length, ?_⟩
      have h1 := List.take_append_drop t.length (s.drop j)
      rw [h] at h1
      rw [h1, List.take_append_drop]
theorem extract_list (S : ByteArray) (a b : Nat) : (S.extract a b).data.toList = (S.data.toList.drop a).take (b - a) := by
  rw [ByteArray.data_extract, Array.toList_extract]
theorem slice_at (S : ByteArray) {k t : Nat} (h : k + t ≤ S.size) (w : World) : (Instr.slice 9 (.string S) (some (.int .i64 (k : Int))) (some (.int .i64 ((k : Int) + (t : Int)))) none).run Tryd.prog w = .ok (.string (S.extract k (k + t))) w := by
  have h2 : (k : Int) + (t : Int) ≤ (S.size : Int) := by omega
  have h3 : (0 : Int) ≤ (k : Int) + (t : Int) := by omega
  have h4 : ((k : Int) + (t : Int)).toNat = k + t := by omega
  simp [Instr.slice, run_underlying Tryd.underlying9, Instr.sliceBounds, Instr.sliceBound, asIntOf, h2, h3, h4]
/-- What holds at each round's head. -/
def HaRel (w : World) (S T : List UInt8) (i : Value) (wr : World) : Prop := ∃ k : Nat, k ≤ S.length ∧ i = .int .i64 k ∧ (∀ j, j < k → (S.drop j).take T.length ≠ T) ∧ wr = w
/-- A node's declarations. -/
def dsR (l : List Nd) (m : Nat) : List Dc := ((l[m]?).map (·.ds)).getD []
theorem dsR_at {l : List Nd} {m : Nat} (h : m < l.length) : dsR l m = l[m].ds := by simp [dsR, List.getElem?_eq_getElem h]
/-- The first of a list that declares a prefix. -/
def fndD (ds : List Dc) (s : List UInt8) : Option ByteArray := (ds.find? (fun d => decide (d.p.data.toList = s))).map (·.u)
/-- What a prefix is declared as, by the nearest node at or above n but the first one. -/
def fndC (l : List Nd) (n : Nat) (s : List UInt8) : Option ByteArray :=
  if h : 0 < n then (fndD (dsR l n) s).or (if h2 : 0 ≤ pa l n ∧ (pa l n).toNat < n then fndC l (pa l n).toNat s else none) else none
termination_by n
decreasing_by exact h2.2
theorem fndC_zero (l : List Nd) (s : List UInt8) : fndC l 0 s = none := by rw [fndC, dif_neg (by omega)]
theorem fndC_step {l : List Nd} {n p : Nat} (s : List UInt8) (h : 0 < n) (hp : pa l n = (p : Int)) (hlt : p < n) : fndC l n s = (fndD (dsR l n) s).or (fndC l p s) := by
  rw [fndC, dif_pos h, dif_pos (by rw [hp]; omega), hp]; rfl
/-- What a prefix means at a node. -/
def meansP (l : List Nd) (n : Nat) (p : ByteArray) : ByteArray × Bool :=
  bif eqL p xmlP then (⟨xmlU.toArray⟩, true) else match fndC l n p.data.toList with | some z => (z, true) | none => (⟨#[]⟩, eqL p [])
/-- What holds at each round's head. -/
def MnRel (w : World) (l : List Nd) (n : Nat) (s : List UInt8) (i : Value) (wr : World) : Prop := ∃ m : Nat, m ≤ n ∧ i = .int .i64 m ∧ fndC l n s = fndC l m s ∧ wr = w
/-- What holds at each head of the inner rounds. -/
def MiRel (w : World) (ds : List Dc) (s : List UInt8) (i : Value) (wr : World) : Prop := ∃ k : Nat, k ≤ ds.length ∧ i = .int .i64 k ∧ (∀ j (hj : j < ds.length), j < k → ds[j].p.data.toList ≠ s) ∧ wr = w
theorem fndD_at {ds : List Dc} {s : List UInt8} {k : Nat} (hk : k < ds.length) (he : ds[k].p.data.toList = s) (hn : ∀ j (hj : j < ds.length), j < k → ds[j].p.data.toList ≠ s) : fndD ds s = some ds[k].u := by
  induction ds generalizing k with
  | nil => simp at hk
  | cons d r ih =>
    match k with
    | 0 => simp only [List.getElem_cons_zero] at he ⊢; simp [fndD, he]
    | k + 1 =>
      have h0 := hn 0 (by simp) (by omega)
      simp only [List.getElem_cons_zero] at h0
      have := ih (k := k) (by simpa using hk) (by simpa using he) (fun j hj hjk => by have := hn (j + 1) (by simpa using hj) (by omega); rwa [List.getElem_cons_succ] at this)
      simp only [fndD] at this
      simp [fndD, h0, this]
theorem fndD_none {ds : List Dc} {s : List UInt8} (hn : ∀ j (hj : j < ds.length), ds[j].p.data.toList ≠ s) : fndD ds s = none := by
  unfold fndD
  rw [Option.map_eq_none_iff, List.find?_eq_none]
  intro d hd
  obtain ⟨j, hj, rfl⟩ := List.getElem_of_mem hd
  simpa using hn j hj
end Go.Proofs.YtalcmhngebobnaaDoor
namespace Go.Proofs.YtalcmhngebobnaaDoor
open Go.RowKit
set_option linter.unusedVariables false
set_option maxRecDepth 100000
/-- Does an element's own name mean what it says? -/
noncomputable def nameR (l : List Nd) (n : Nat) (x : Nd) : Bool :=
  (meansP l n x.p).2 && (((meansP l n x.p).1.toList == x.u.toList) && (nmS x.l && ((eqL x.p [] || nmS x.p) && (!eqL x.p xmlnsP && eqL x.t []))))
/-- Does an attribute? -/
noncomputable def attrR (l : List Nd) (n : Nat) (a : At) : Bool :=
  (eqL a.p [] || ((meansP l n a.p).2 && nmS a.p)) && (((bif eqL a.p [] then (⟨#[]⟩ : ByteArray) else (meansP l n a.p).1).toList == a.u.toList) && (nmS a.l && (!eqL a.p xmlnsP && (!(eqL a.p [] && eqL a.l xmlnsP) && tx a.v))))
/-- Is an element formed? -/
structure ElemOK (l : List Nd) (n : Nat) (x : Nd) : Prop where
  ds : ∀ k (hk : k < x.ds.length), declB x.ds[k] = true ∧ ∀ i (hi : i < x.ds.length), i < k → x.ds[i].p.data.toList ≠ x.ds[k].p.data.toList
  nm : nameR l n x = true
  ats : ∀ k (hk : k < x.ats.length), attrR l n x.ats[k] = true ∧ ∀ i (hi : i < x.ats.length), i < k → ¬ (x.ats[i].l.data.toList = x.ats[k].l.data.toList ∧ x.ats[i].u.data.toList = x.ats[k].u.data.toList)
open Classical in
noncomputable def elemR (l : List Nd) (n : Nat) (x : Nd) : Bool := decide (ElemOK l n x)
open Classical in
theorem elemR_no {l : List Nd} {n : Nat} {x : Nd} (h : ¬ ElemOK l n x) : elemR l n x = false := by unfold elemR; exact decide_eq_false h
open Classical in
theorem elemR_yes {l : List Nd} {n : Nat} {x : Nd} (h : ElemOK l n x) : elemR l n x = true := by unfold elemR; exact decide_eq_true h
/-- What holds at each round's head. -/
def ElRel (W : World) (ds : List Dc) (i : Value) (wr : World) : Prop := ∃ k : Nat, k ≤ ds.length ∧ i = .int .i64 k ∧ (∀ j (hj : j < ds.length), j < k → declB ds[j] = true ∧ ∀ i (hi : i < ds.length), i < j → ds[i].p.data.toList ≠ ds[j].p.data.toList) ∧ Below W.heap.size W wr
/-- What holds at each head of the inner rounds. -/
def EiRel (W : World) (ds : List Dc) (P : List UInt8) (k : Nat) (i : Value) (wr : World) : Prop := ∃ j : Nat, j ≤ k ∧ i = .int .i64 j ∧ (∀ i (hi : i < ds.length), i < j → ds[i].p.data.toList ≠ P) ∧ Below W.heap.size W wr
/-- What holds at each round's head of the attributes. -/
def ArRel (W : World) (l : List Nd) (n : Nat) (as' : List At) (i : Value) (wr : World) : Prop := ∃ k : Nat, k ≤ as'.length ∧ i = .int .i64 k ∧ (∀ j (hj : j < as'.length), j < k → attrR l n as'[j] = true ∧ ∀ i (hi : i < as'.length), i < j → ¬ (as'[i].l.data.toList = as'[j].l.data.toList ∧ as'[i].u.data.toList = as'[j].u.data.toList)) ∧ Below W.heap.size W wr
/-- What holds at each head of the inner rounds of the attributes. -/
def AiRel (W : World) (as' : List At) (L U : List UInt8) (k : Nat) (i : Value) (wr : World) : Prop := ∃ j : Nat, j ≤ k ∧ i = .int .i64 j ∧ (∀ i (hi : i < as'.length), i < j → ¬ (as'[i].l.data.toList = L ∧ as'[i].u.data.toList = U)) ∧ Below W.heap.size W wr
end Go.Proofs.YtalcmhngebobnaaDoor
namespace Go.Proofs.YtalcmhngebobnaaDoor
open Go.RowKit
set_option linter.unusedVariables false
set_option maxRecDepth 100000
/-- Does a text end with a hyphen? -/
def lastD (S : ByteArray) : Bool := match S.data.toList.getLast? with | some c => (c.toNat : Int) == 45 | none => false
def xmlC (c : UInt8) (a b : Int) : Bool := ((c.toNat : Int) == a) || ((c.toNat : Int) == b)
/-- Is a text xml, in letters of any size? -/
def xmlish (S : ByteArray) : Bool := match S.data.toList with | [a, b, c] => xmlC a 120 88 && (xmlC b 109 77 && xmlC c 108 76) | _ => false
/-- Is a node formed that is no element? -/
noncomputable def otherR (l : List Nd) (n : Nat) (x : Nd) : Bool :=
  bareB x && (tx x.t && (bif x.k == 2 then eqL x.l [] && (!eqL x.t [] && (!(x.n == 0) && (decide (aheadP l n n < 0) || !(kd l (aheadP l n n).toNat == 2))))
  else bif x.k == 3 then eqL x.l [] && (!insB x.t.data.toList [45, 45] && (eqL x.t [] || !lastD x.t))
  else bif x.k == 4 then nmS x.l && (!xmlish x.l && (!insB x.t.data.toList [63, 62] && (eqL x.t [] || !fb x.t))) else false))
theorem ahead_cases (l : List Nd) (n : Nat) : ∀ k, aheadP l n k = -1 ∨ ∃ m : Nat, aheadP l n k = (m : Int) ∧ m < k
  | 0 => .inl rfl
  | k + 1 => by
    rw [aheadP]
    split
    · exact .inr ⟨k, rfl, by omega⟩
    · rcases ahead_cases l n k with h | ⟨m, h, hm⟩
      · exact .inl h
      · exact .inr ⟨m, h, by omega⟩
theorem index_at (S : ByteArray) {k : Nat} {c : UInt8} (h : S.data.toList[k]? = some c) (w : World) : (Instr.index 9 (.string S) (.int .i64 (k : Int))).run Tryd.prog w = .ok (.int .u8 (c.toNat : Int)) w := by
  obtain ⟨hk, he⟩ := List.getElem?_eq_some_iff.1 h
  have h1 := index_str S hk w
  rw [he] at h1
  exact h1
theorem last_at {S : ByteArray} (h : eqL S [] = false) : ∃ c, lastD S = ((c.toNat : Int) == 45) ∧ 0 < S.size ∧ S.data.toList[S.size - 1]? = some c := by
  have hne : S.data.toList ≠ [] := fun e => by
    have := eqL_iff.2 e
    rw [h] at this; cases this
  have h0 : 0 < S.size := by rw [ba_size]; exact List.length_pos_iff.2 hne
  have hl : S.size - 1 < S.data.toList.length := by rw [← ba_size]; omega
  refine ⟨_, ?_, h0, List.getElem?_eq_getElem hl⟩
  unfold lastD
  rw [List.getLast?_eq_getElem?, ← ba_size, List.getElem?_eq_getElem hl]
theorem three_at {S : ByteArray} (h : S.size = 3) : ∃ a b c, xmlish S = (xmlC a 120 88 && (xmlC b 109 77 && xmlC c 108 76)) ∧ S.data.toList[0]? = some a ∧ S.data.toList[1]? = some b ∧ S.data.toList[2]? = some c := by
  have hl : S.data.toList.length = 3 := by rw [← ba_size]; exact h
  match hs : S.data.toList, hl with
  | [a, b, c], _ =>
    exact ⟨a, b, c, by unfold xmlish; rw [hs], rfl, rfl, rfl⟩
theorem three_not {S : ByteArray} (h : S.size ≠ 3) : xmlish S = false := by
  unfold xmlish
  split
  · rename_i a b c hs
    exact absurd (by rw [ba_size, hs]; rfl) h
  · rfl
end Go.Proofs.YtalcmhngebobnaaDoor
