/-
  (*Doc).list, Len, has, Top and End: of a document, and of none. Conditions: the document lies as it is; there are not too many nodes.
  (*Doc).Top and End of a document. Conditions: the document lies as it is; there are not too many nodes.
  The laws' own look whether the program does anything. Conditions: the tables lie as they are laid, internal/bytealg.MaxLen holds some number.
  apostilleref07.Few: has a list few nodes, with few things. Conditions: the list lies as it is.
  (*Doc).Nodes and Node of a document: copies in new memory. Conditions: the document lies as it is; there are not too many nodes, the texts are not too long.
  A node's children, each with all below it, stand side by side: numbers alone. Conditions: the nodes hang where they may.
  append to one's own row of ints. Conditions: there are not too many.
  (*Doc).Kids of a document. Conditions: the document lies as it is; there are not too many nodes.
  The children that are counted as far as a place: numbers alone. Conditions: the nodes hang where they may.
  (*Doc).Up of a document. Conditions: the document lies as it is; its nodes hang on nodes ahead; there are not too many nodes.
  apostilleref07.Above, ahead and Top: the document's own. Conditions: the list lies as it is; for Above the nodes hang on nodes ahead.
  apostilleref07.End, Kids and Up: the document's own. Conditions: the list lies as it is; the nodes hang where they may.
  Of a formed list the document's End, Kids and Top are the program's: numbers alone. Conditions: the list is formed.
  apostilleref07.Ints, One and Same, of lists and nodes that are alike: they say so. Conditions: they lie as they are.
  DocNil walked. Conditions: the tables lie as they are laid, internal/bytealg.MaxLen holds some number.
  DocTells walked. Conditions: the list lies as it is, its texts are not too long; the tables lie as they are laid, internal/bytealg.MaxLen holds some number.
-/
import Derived.Test.YtchnmkagemmjoaaDoorDOf
import Derived.Test.YtchnmkagemmjoaaDoorDMem
import Derived.Test.YtchnmkagemmjoaaDoorDForm2
import Derived.Laws.IdiomCopy
import Derived.Laws.AppendOwn
import Derived.Laws.AppendOwnNone
import Derived.Laws.MakeOwn
import Derived.Laws.Externs
import Derived.Lib.AppendStr
import Derived.OwnWalk
import Derived.Deep.Draws
import Derived.Deep.QuietTactic
import Derived.BigQuiet
import Derived.Deep.WholeRow
import Derived.Test.YtchnmkagemmjoaaDoorDPure
import Derived.Test.YtchnmkagemmjoaaDoorValidParts
import Derived.Test.YtchnmkagemmjoaaDoorDTwice
import Derived.Test.YtchnmkagemmjoaaDoorDForm
import Derived.StillTailTactics
import Derived.Test.YtchnmkagemmjoaaDoorDOrders
namespace Go.Proofs.YtchnmkagemmjoaaDoor
open Go.RowKit
set_option linter.unusedVariables false
set_option maxRecDepth 100000
set_option maxHeartbeats 4000000
theorem DocAt.cell {w : World} {B d : Nat} {l : List Nd} (h : DocAt w B d l) : ∃ v, w.cell? ⟨d, 0, none⟩ = some v ∧ NsOwn w B v l := by
  obtain ⟨v, _, h2, h3⟩ := h
  exact ⟨v, by rw [cell_of_row w d 0 _ _ _ h2]; rfl, h3⟩
/-- The document's list, whatever world comes later. -/
theorem DocAt.list {w : World} {B d : Nat} {l : List Nd} (h : DocAt w B d l) (hn : l.length ≤ 100000) (hs : ∀ x ∈ l, Sm x) : ∃ v, w.cell? ⟨d, 0, none⟩ = some v ∧ NsAt w w.heap.size v l ∧ d < w.heap.size := by
  obtain ⟨v, _, h2, h3⟩ := h
  exact ⟨v, by rw [cell_of_row w d 0 _ _ _ h2]; rfl, h3.at (by omega) hs, block_lt h2⟩
theorem list_doc (d : Nat) (v : Value) (w : World) (hc : w.cell? ⟨d, 0, none⟩ = some v) : Calls Tryd.prog 35 #[.pointer (some ⟨d, 0, none⟩)] w fun e w' => e = .returned v ∧ w' = w := by
  go_enter Tryd.func35, Tryd.ntmps35
  go_wp2
  go_ret
  exact ⟨rfl, rfl⟩
theorem list_nil (w : World) : Calls Tryd.prog 35 #[.pointer none] w fun e w' => e = .returned (.slice none 0 0) ∧ w' = w := by
  go_enter Tryd.func35, Tryd.ntmps35
  go_wp2
  go_ret
  exact ⟨rfl, rfl⟩
theorem len_of (P : Value) (A : Option Addr) (n c : Nat) (w : World) (H : Hid (Calls Tryd.prog 35 #[P] w fun e w' => e = .returned (.slice A n c) ∧ w' = w)) : Calls Tryd.prog 13 #[P] w fun e w' => e = .returned (.int .i64 (n : Nat)) ∧ w' = w := by
  go_enter Tryd.func13, Tryd.ntmps13
  go_wp2_with fail
  refine H.out.mono ?_
  rintro e w1 ⟨rfl, hw⟩
  rw [hw]
  go_wp2
  go_ret
  exact ⟨rfl, rfl⟩
theorem len_nil (w : World) : Calls Tryd.prog 13 #[.pointer none] w fun e w' => e = .returned (.int .i64 0) ∧ w' = w := len_of _ none 0 0 w (list_nil w)
theorem len_doc {B d : Nat} {l : List Nd} (w : World) (h : DocAt w B d l) (hn : l.length ≤ 100000) (hs : ∀ x ∈ l, Sm x) : Calls Tryd.prog 13 #[.pointer (some ⟨d, 0, none⟩)] w fun e w' => e = .returned (.int .i64 (l.length : Nat)) ∧ w' = w := by
  obtain ⟨v, hc, hv, _⟩ := h.list hn hs
  obtain ⟨A, cap, rfl, _⟩ := hv.slice
  exact len_of _ A l.length cap w (list_doc d _ w hc)
theorem has_of (P : Value) (n : Nat) (z : Int) (w : World) (H : Hid (Calls Tryd.prog 13 #[P] w fun e w' => e = .returned (.int .i64 (n : Nat)) ∧ w' = w)) : Calls Tryd.prog 36 #[P, .int .i64 z] w fun e w' => e = .returned (.bool (decide (0 ≤ z ∧ z < (n : Int)))) ∧ w' = w := by
  by_cases h0 : 0 ≤ z
  · go_enter Tryd.func36, Tryd.ntmps36
    go_wp2_with fail
    refine H.out.mono ?_
    rintro e w1 ⟨rfl, hw⟩
    rw [hw]
    go_wp2
    go_ret
    exact ⟨ret_bool (by simp [h0]), rfl⟩
  · have h1 := decide_eq_false h0
    go_enter Tryd.func36, Tryd.ntmps36
    go_wp2
    go_ret
    exact ⟨ret_bool (by simp), rfl⟩
theorem has_nil (z : Int) (w : World) : Calls Tryd.prog 36 #[.pointer none, .int .i64 z] w fun e w' => e = .returned (.bool false) ∧ w' = w := by
  have h := has_of (.pointer none) 0 z w (len_nil w)
  rw [decide_eq_false (by omega)] at h
  exact h
theorem has_doc {B d : Nat} {l : List Nd} (z : Int) (w : World) (h : DocAt w B d l) (hn : l.length ≤ 100000) (hs : ∀ x ∈ l, Sm x) : Calls Tryd.prog 36 #[.pointer (some ⟨d, 0, none⟩), .int .i64 z] w fun e w' => e = .returned (.bool (decide (0 ≤ z ∧ z < (l.length : Int)))) ∧ w' = w :=
  has_of _ l.length z w (len_doc w h hn hs)
/-- Of nodes that there aren't. -/
theorem end_none (P : Value) (z : Int) (w : World) (H : Hid (Calls Tryd.prog 36 #[P, .int .i64 z] w fun e w' => e = .returned (.bool false) ∧ w' = w)) : Calls Tryd.prog 25 #[P, .int .i64 z] w fun e w' => e = .returned (.int .i64 0) ∧ w' = w := by
  go_enter Tryd.func25, Tryd.ntmps25
  go_wp2_with fail
  refine H.out.mono ?_
  rintro e w1 ⟨rfl, hw⟩
  rw [hw]
  go_wp2
  go_ret
  exact ⟨rfl, rfl⟩
theorem kids_none (P : Value) (z : Int) (w : World) (H : Hid (Calls Tryd.prog 36 #[P, .int .i64 z] w fun e w' => e = .returned (.bool false) ∧ w' = w)) : Calls Tryd.prog 21 #[P, .int .i64 z] w fun e w' => e = .returned (.slice none 0 0) ∧ w' = w := by
  go_enter Tryd.func21, Tryd.ntmps21
  go_wp2_with fail
  refine H.out.mono ?_
  rintro e w1 ⟨rfl, hw⟩
  rw [hw]
  go_wp2
  go_ret
  exact ⟨rfl, rfl⟩
theorem up_none (P : Value) (z : Int) (w : World) (H : Hid (Calls Tryd.prog 36 #[P, .int .i64 z] w fun e w' => e = .returned (.bool false) ∧ w' = w)) : Calls Tryd.prog 23 #[P, .int .i64 z] w fun e w' => e = .returned (.slice none 0 0) ∧ w' = w := by
  go_enter Tryd.func23, Tryd.ntmps23
  go_wp2_with fail
  refine H.out.mono ?_
  rintro e w1 ⟨rfl, hw⟩
  rw [hw]
  go_wp2
  go_ret
  exact ⟨rfl, rfl⟩
/-- A node of nothing. -/
def zeroN : Value := .agg #[.int .i64 0, .int .i64 0, .string ⟨#[]⟩, .string ⟨#[]⟩, .string ⟨#[]⟩, .string ⟨#[]⟩, .slice none 0 0, .slice none 0 0]
theorem node_none (P : Value) (z : Int) (w : World) (H : ∀ w, Hid (Calls Tryd.prog 36 #[P, .int .i64 z] w fun e w' => e = .returned (.bool false) ∧ w' = w)) : Calls Tryd.prog 19 #[P, .int .i64 z] w fun e w' => e = .returned zeroN ∧ Below w.heap.size w w' := by
  have HH := Lib.hid H
  clear H
  go_enter Tryd.func19, Tryd.ntmps19
  go_wp2_with fail
  refine ((HH.out _).out).mono ?_
  rintro e w1 ⟨rfl, hw⟩
  rw [hw]
  clear hw
  go_wp2
  refine bodyPost_ret (v := zeroN) (by simp [results, zeroN, Tryd.results19, go_sem]) rfl ⟨rfl, ?_⟩
  exact (Below.refl _ _).alloc (Nat.le_refl _) _
theorem nodes_nil (w : World) : Calls Tryd.prog 14 #[.pointer none] w fun e w' => ∃ A c, e = .returned (.slice A 0 c) ∧ Below w.heap.size w w' := by
  have HL := Lib.hid (list_nil w)
  have HC : Hid (Calls Tryd.prog 31 #[.slice none 0 0, .func (.func 32) #[] #[]] w fun e w' => ∃ A c, e = .returned (.slice A 0 c) ∧ Below w.heap.size w w') := by
    refine (ncopies_any [] (.slice none 0 0) w ⟨none, 0, rfl, Nat.le_refl _, by omega, fun h => absurd rfl h⟩ (by simp) (by simp)).mono ?_
    rintro e w' ⟨v', rfl, h, hb⟩
    rcases h with ⟨_, rfl⟩ | ⟨g, cur, rfl, _, h3, h4, _⟩
    · exact ⟨_, _, rfl, hb⟩
    · exact ⟨_, _, rfl, hb⟩
  go_enter Tryd.func14, Tryd.ntmps14
  go_wp2_with fail
  refine HL.out.mono ?_
  rintro e w1 ⟨rfl, hw⟩
  rw [hw]
  clear hw
  go_wp2_with fail
  refine HC.out.mono ?_
  rintro e w2 ⟨A, c, rfl, hb⟩
  go_wp2
  go_ret
  exact ⟨_, _, rfl, hb⟩
end Go.Proofs.YtchnmkagemmjoaaDoor
namespace Go.Proofs.YtchnmkagemmjoaaDoor
open Go.RowKit
set_option linter.unusedVariables false
set_option maxRecDepth 100000
/-- The first element. -/
def topFrom : List Nd → Nat → Nat
  | [], _ => 0
  | x :: r, k => if x.k = 1 then k else topFrom r (k + 1)
def topP (l : List Nd) : Nat := topFrom l 0
theorem topFrom_drop {l : List Nd} : ∀ k, k ≤ l.length → (∀ j (hj : j < l.length), j < k → l[j].k ≠ 1) → topP l = topFrom (l.drop k) k
  | 0, _, _ => rfl
  | k + 1, h, hn => by
    rw [topFrom_drop k (by omega) (fun j hj hk => hn j hj (by omega)), List.drop_eq_getElem_cons (show k < l.length by omega), topFrom, if_neg (hn k (by omega) (by omega))]
/-- What holds at each round's head. -/
def TpRel (w : World) (l : List Nd) (i : Value) (wr : World) : Prop := ∃ k : Nat, k ≤ l.length ∧ i = .int .i64 k ∧ (∀ j (hj : j < l.length), j < k → l[j].k ≠ 1) ∧ Below w.heap.size w wr
set_option maxHeartbeats 8000000 in
theorem top_of (P v : Value) (l : List Nd) (w : World) (H : Hid (Calls Tryd.prog 35 #[P] w fun e w' => e = .returned v ∧ w' = w)) (hv : NsAt w w.heap.size v l) (hn : l.length ≤ 100000) : Calls Tryd.prog 15 #[P] w fun e w' => e = .returned (.int .i64 (topP l : Nat)) ∧ Below w.heap.size w w' := by
  have HV := Lib.hid hv
  obtain ⟨A, cap, rfl, hc1, hc2⟩ := hv.slice
  obtain ⟨R, hR⟩ : ∃ R, topP l = R := ⟨_, rfl⟩
  rw [hR]
  have HR := Lib.hid hR
  obtain ⟨n, hnE⟩ : ∃ n, l.length = n := ⟨_, rfl⟩
  have HN := Lib.hid hnE
  rw [hnE] at hn hc1 H
  clear hR hnE
  go_enter Tryd.func15, Tryd.ntmps15
  go_wp2_with fail
  refine H.out.mono ?_
  rintro e w1 ⟨rfl, hw⟩
  rw [hw]
  clear hw
  go_wp2
  go_loopw [8] (TpRel w l) (fun i _ => n - (intOf i).toNat)
  case atStart => exact ⟨0, Nat.zero_le _, rfl, fun j _ h => by omega, Below.refl _ _⟩
  case round =>
    obtain ⟨k, hk, rfl, hno, hb⟩ := hrel
    rw [HN.out] at hk
    have HNO := Lib.hid hno
    clear hno
    by_cases hlt : k < n
    · have hkl : k < l.length := by rw [HN.out]; exact hlt
      obtain ⟨b, o, cap', e, _, _, hbB, hnd⟩ := (HV.out.below hb).open (by intro h; rw [h] at hkl; simp at hkl)
      simp only [Value.slice.injEq] at e
      obtain ⟨rfl, _, rfl⟩ := e
      obtain ⟨vd, va, d0, d1, d2, d3, d4, d5, d6, d7, ⟨A1, q1, rfl, _⟩, ⟨A2, q2, rfl, _⟩⟩ := (hnd k hkl).cells
      have hkz : (k : Int) < (n : Int) := by omega
      have HF : Hid (topP l = topFrom (l.drop k) k) := topFrom_drop k (by omega) HNO.out
      have HD : Hid (l.drop k = l[k] :: l.drop (k + 1)) := List.drop_eq_getElem_cons hkl
      have HMO : Hid (l[k].k ≠ 1 → ∀ j (hj : j < l.length), j < k + 1 → l[j].k ≠ 1) := fun h j hj hjk => by
        rcases Nat.lt_or_eq_of_le (Nat.le_of_lt_succ hjk) with h1 | h1
        · exact HNO.out j hj h1
        · subst h1; exact h
      generalize l[k] = x at *
      clear hnd
      by_cases hx : x.k = 1
      · have t1 : (x.k == 1) = true := by simpa using hx
        have hRk : R = k := by rw [← HR.out, HF.out, HD.out, topFrom, if_pos hx]
        have HRK := Lib.hid hRk
        clear hx hRk
        go_wp2
        go_ret
        exact ⟨by rw [HRK.out]; rfl, hb.alloc hb.size _⟩
      · have t1 : (x.k == 1) = false := by simpa using hx
        have HMX := Lib.hid (HMO.out hx)
        clear hx
        go_wp2
        go_roundw
        case rel => exact ⟨k + 1, hkl, by go_num, HMX.out, hb.alloc hb.size _⟩
        case measure => simp [intOf]; omega
    · have hkz : ¬ (k : Int) < (n : Int) := by omega
      have hR0 : R = 0 := by
        rw [← HR.out, topFrom_drop k (by rw [HN.out]; exact hk) HNO.out, List.drop_of_length_le (by rw [HN.out]; omega)]; rfl
      subst hR0
      go_wp2
      go_ret
      exact ⟨rfl, hb⟩
theorem top_nil (w : World) : Calls Tryd.prog 15 #[.pointer none] w fun e w' => e = .returned (.int .i64 0) ∧ Below w.heap.size w w' :=
  top_of _ _ [] w (list_nil w) ⟨none, 0, rfl, Nat.le_refl _, by omega, fun h => absurd rfl h⟩ (by simp)
theorem top_doc {B d : Nat} {l : List Nd} (w : World) (h : DocAt w B d l) (hn : l.length ≤ 100000) (hs : ∀ x ∈ l, Sm x) : Calls Tryd.prog 15 #[.pointer (some ⟨d, 0, none⟩)] w fun e w' => e = .returned (.int .i64 (topP l : Nat)) ∧ Below w.heap.size w w' := by
  obtain ⟨v, hc, hv, _⟩ := h.list hn hs
  exact top_of _ v l w (list_doc d v w hc) hv hn
/-- The first node behind all below a node. -/
def endFrom (n : Nat) : List Nd → Nat → Nat
  | [], k => k
  | x :: r, k => if (n : Int) ≤ x.n then endFrom n r (k + 1) else k
def endP (l : List Nd) (n : Nat) : Nat := endFrom n (l.drop (n + 1)) (n + 1)
/-- What holds at each round's head. -/
def EdRel (w : World) (l : List Nd) (n : Nat) (i : Value) (wr : World) : Prop := ∃ k : Nat, n < k ∧ k ≤ l.length ∧ i = .int .i64 k ∧ endP l n = endFrom n (l.drop k) k ∧ wr = w
set_option maxHeartbeats 8000000 in
theorem end_doc {B d : Nat} {l : List Nd} (n : Nat) (w : World) (h : DocAt w B d l) (hn : l.length ≤ 100000) (hs : ∀ x ∈ l, Sm x) (hnl : n < l.length) : Calls Tryd.prog 25 #[.pointer (some ⟨d, 0, none⟩), .int .i64 (n : Int)] w fun e w' => e = .returned (.int .i64 (endP l n : Nat)) ∧ w' = w := by
  have HH := Lib.hid (has_doc (n : Int) w h hn hs)
  rw [decide_eq_true (by omega)] at HH
  obtain ⟨v, hc, hv, _⟩ := h.list hn hs
  obtain ⟨b, o, cap, rfl, hc1, hc2, hbB, hnd⟩ := hv.open (by intro h; rw [h] at hnl; simp at hnl)
  have HND := Lib.hid hnd
  obtain ⟨R, hR⟩ : ∃ R, endP l n = R := ⟨_, rfl⟩
  rw [hR]
  have HR := Lib.hid hR
  obtain ⟨m, hmE⟩ : ∃ m, l.length = m := ⟨_, rfl⟩
  have HM := Lib.hid hmE
  rw [hmE] at hn hc1 hnl hc
  clear hnd hv h hR hmE
  go_enter Tryd.func25, Tryd.ntmps25
  go_wp2_with fail
  refine HH.out.mono ?_
  rintro e w1 ⟨rfl, hw⟩
  rw [hw]
  clear hw
  go_wp2
  go_loopw [5] (EdRel w l n) (fun i _ => m - (intOf i).toNat)
  case atStart => exact ⟨n + 1, by omega, by rw [HM.out]; omega, by go_num, rfl, rfl⟩
  case round =>
    obtain ⟨k, hk1, hk, rfl, hE, rfl⟩ := hrel
    rw [HM.out] at hk
    have HE := Lib.hid hE
    clear hE
    by_cases hlt : k < m
    · have hkl : k < l.length := by rw [HM.out]; exact hlt
      obtain ⟨vd, va, d0, d1, _⟩ := (HND.out k hkl).cells
      have hkz : (k : Int) < (m : Int) := by omega
      have HD : Hid (l.drop k = l[k] :: l.drop (k + 1)) := List.drop_eq_getElem_cons hkl
      generalize l[k] = x at *
      clear d0
      by_cases hx : (n : Int) ≤ x.n
      · have HNX : Hid (EdRel wr l n (.int .i64 ((k + 1 : Nat) : Int)) wr) := ⟨k + 1, by omega, hkl, rfl, by rw [HE.out, HD.out, endFrom, if_pos hx], rfl⟩
        go_wp2
        go_roundw
        case rel => exact (show Value.int .i64 ((k + 1 : Nat) : Int) = _ by go_num) ▸ HNX.out
        case measure => simp [intOf]; omega
      · have hRk : R = k := by rw [← HR.out, HE.out, HD.out, endFrom, if_neg hx]
        have HRK := Lib.hid hRk
        have hx1 := decide_eq_false hx
        clear hRk
        go_wp2
        go_ret
        exact ⟨by rw [HRK.out]; rfl, rfl⟩
    · have hkz : ¬ (k : Int) < (m : Int) := by omega
      have hkz1 := decide_eq_false hkz
      have hRk : R = k := by rw [← HR.out, HE.out, List.drop_of_length_le (by rw [HM.out]; omega)]; rfl
      have HRK := Lib.hid hRk
      clear hRk
      go_wp2
      go_ret
      exact ⟨by rw [HRK.out]; rfl, rfl⟩
end Go.Proofs.YtchnmkagemmjoaaDoor
namespace Go.Proofs.YtchnmkagemmjoaaDoor
open Go.RowKit
set_option linter.unusedVariables false
set_option maxRecDepth 100000
def ndA : Nd := ⟨0, -1, ⟨#[]⟩, ⟨#[]⟩, ⟨#[]⟩, ⟨#[]⟩, [], []⟩
def ndB : Nd := ⟨1, 0, ⟨#[]⟩, ⟨#[97]⟩, ⟨#[]⟩, ⟨#[]⟩, [], []⟩
theorem sm_A : Sm ndA := ⟨by show 0 ≤ 2000000; omega, by show 0 ≤ 2000000; omega, by show 0 ≤ 2000000; omega, by show 0 ≤ 2000000; omega, by show 0 ≤ 2000000; omega, by show 0 ≤ 2000000; omega, (fun d h => by cases h), (fun d h => by cases h)⟩
theorem sm_B : Sm ndB := ⟨by show 0 ≤ 2000000; omega, by show 1 ≤ 2000000; omega, by show 0 ≤ 2000000; omega, by show 0 ≤ 2000000; omega, by show 0 ≤ 2000000; omega, by show 0 ≤ 2000000; omega, (fun d h => by cases h), (fun d h => by cases h)⟩
theorem sm_AB : ∀ x ∈ [ndA, ndB], Sm x := fun x h => by
  rcases List.mem_cons.1 h with rfl | h
  · exact sm_A
  · rcases List.mem_cons.1 h with rfl | h
    · exact sm_B
    · cases h
theorem nm_a : nmS ⟨#[97]⟩ = true := nmB_yes ⟨[97], by simp, by decide, by decide⟩
theorem chn_0 : chn [ndA, ndB] 0 = [0] := chn_stop (by decide)
theorem chn_1 : chn [ndA, ndB] 1 = [1, 0] := by rw [chn_step (by decide)]; rw [show (pa [ndA, ndB] 1).toNat = 0 from by decide, chn_0]
theorem hang_1 : hangB [ndA, ndB] 1 = true := by
  unfold hangB
  rw [show pa [ndA, ndB] 1 = 0 from by decide]
  simp [chn_0, show kd [ndA, ndB] 0 = 0 from by decide]
theorem placed_AB : placedB [ndA, ndB] = true := by
  rw [placed_end]
  · simp [tops, show pa [ndA, ndB] 1 = 0 from by decide, show kd [ndA, ndB] 1 = 1 from by decide]
  · intro j h1 h2
    have : j = 1 := by simp at h2; omega
    subst this
    unfold okP
    rw [hang_1]
    simp [besideB, show kd [ndA, ndB] 1 = 1 from by decide]
theorem elem_B : elemF ndB = true := by
  have h1 : nmS ndB.l = true := nm_a
  unfold elemF
  rw [h1]
  simp [ndB, prefB, eqL, dkeys, akeys, dupB]
theorem stk_1 : stk [ndA, ndB] 1 = [] := by
  unfold stk
  rw [chn_1]
  rfl
theorem within_AB : withinB [ndA, ndB] = true := by
  unfold withinB
  refine decide_eq_true ⟨by simp, fun i hi => ?_⟩
  have : i = 0 ∨ i = 1 := by simp at hi; omega
  rcases this with rfl | rfl
  · exact ⟨by unfold dp; rw [chn_0]; simp, by simp [mks, ndA]⟩
  · exact ⟨by unfold dp; rw [chn_1]; simp, by simp [mks, ndB]⟩
theorem names_AB : namesB [ndA, ndB] = true := by
  unfold namesB
  refine decide_eq_true (fun i hi => ?_)
  have : i = 0 ∨ i = 1 := by simp at hi; omega
  rcases this with rfl | rfl
  · rfl
  · rw [elmN_at hi, stk_1]
    show (!(ndB.k == 1) || elemM [] ndB) = true
    simp [elemM, meanB, findS, ndB, eqL, xmlP]
theorem formed_AB : formedP [ndA, ndB] = true := by
  rw [show formedP [ndA, ndB] = (rootB ndA && (placedB [ndA, ndB] && ([ndB].all nodeB && namesB [ndA, ndB]))) from rfl, placed_AB, names_AB]
  have h1 : rootB ndA = true := by simp [rootB, ndA, bareB, eqL]
  have h2 : nodeB ndB = true := by
    unfold nodeB
    rw [show (ndB.k == 1) = true from rfl, elem_B]
    rfl
  rw [h1]
  simp [h2]
theorem top_AB : topP [ndA, ndB] = 1 := by decide
theorem end_AB : endP [ndA, ndB] 0 = 2 := by decide
set_option maxHeartbeats 8000000 in
theorem awake_any (w : World) (hW : Wd w) : Calls Tryd.prog 9 #[] w fun e w' => e = .returned (.bool true) ∧ Below w.heap.size w w' := by
  obtain ⟨C, hC⟩ : ∃ C : Array Value, #[.int .i64 0, .int .i64 (-1), .string ⟨#[]⟩, .string ⟨#[]⟩, .string ⟨#[]⟩, .string ⟨#[]⟩, .slice none 0 0, .slice none 0 0, .int .i64 1, .int .i64 0, .string ⟨#[]⟩, .string ⟨#[97]⟩, .string ⟨#[]⟩, .string ⟨#[]⟩, .slice none 0 0, .slice none 0 0] = C := ⟨_, rfl⟩
  have HOF : Hid (Calls Tryd.prog 11 #[.slice (some ⟨w.heap.size, 0, none⟩) 2 2] (w.alloc (.cells C 38)) fun e w' => (∃ d, e = .returned (.tuple #[.pointer (some ⟨d, 0, none⟩), .int .i64 0]) ∧ DocAt w' (w.alloc (.cells C 38)).heap.size d [ndA, ndB]) ∧ Below (w.alloc (.cells C 38)).heap.size (w.alloc (.cells C 38)) w') := by
    have hh := heap_alloc_last w (.cells C 38)
    have hv : NsAt (w.alloc (.cells C 38)) (w.alloc (.cells C 38)).heap.size (.slice (some ⟨w.heap.size, 0, none⟩) 2 2) [ndA, ndB] := by
      refine ⟨some ⟨w.heap.size, 0, none⟩, 2, rfl, Nat.le_refl _, by omega, fun _ => ⟨w.heap.size, 0, rfl, block_lt hh, fun i hi => ?_⟩⟩
      have he : DsAt (w.alloc (.cells C 38)) (w.alloc (.cells C 38)).heap.size (.slice none 0 0) [] := ⟨none, 0, rfl, Nat.le_refl _, by omega, fun h => absurd rfl h⟩
      have hf : AsAt (w.alloc (.cells C 38)) (w.alloc (.cells C 38)).heap.size (.slice none 0 0) [] := ⟨none, 0, rfl, Nat.le_refl _, by omega, fun h => absurd rfl h⟩
      have : i = 0 ∨ i = 1 := by simp at hi; omega
      rcases this with rfl | rfl
      · refine ⟨.slice none 0 0, .slice none 0 0, fun j hj => ?_, he, hf⟩
        rw [cell_of_row _ w.heap.size _ _ _ _ hh, ← hC]
        match j, hj with
        | 0, _ => rfl
        | 1, _ => rfl
        | 2, _ => rfl
        | 3, _ => rfl
        | 4, _ => rfl
        | 5, _ => rfl
        | 6, _ => rfl
        | 7, _ => rfl
      · refine ⟨.slice none 0 0, .slice none 0 0, fun j hj => ?_, he, hf⟩
        rw [cell_of_row _ w.heap.size _ _ _ _ hh, ← hC]
        match j, hj with
        | 0, _ => rfl
        | 1, _ => rfl
        | 2, _ => rfl
        | 3, _ => rfl
        | 4, _ => rfl
        | 5, _ => rfl
        | 6, _ => rfl
        | 7, _ => rfl
    refine (of_any [ndA, ndB] _ _ hv (by simp) sm_AB (hW.later ((Below.refl _ _).alloc (Nat.le_refl _) _))).mono ?_
    rintro e w' ⟨h, hb⟩
    refine ⟨?_, hb⟩
    rcases h with ⟨h, _⟩ | ⟨_, h, _⟩ | ⟨_, _, h⟩
    · rw [formed_AB] at h; cases h
    · rw [within_AB] at h; cases h
    · exact h
  rw [← hC] at HOF
  clear hC hW
  go_enter Tryd.func9, Tryd.ntmps9
  go_wp2_with fail
  refine HOF.out.mono ?_
  rintro e w1 ⟨⟨d, rfl, hd⟩, hb1⟩
  have hbw := below_box hb1
  have HL := Lib.hid (len_doc w1 hd (by simp) sm_AB)
  have HT := Lib.hid (top_doc w1 hd (by simp) sm_AB)
  have HD := Lib.hid hd
  rw [top_AB] at HT
  clear hd hb1 HOF
  go_wp2_with fail
  refine HL.out.mono ?_
  rintro e w2 ⟨rfl, hw⟩
  rw [hw]
  clear hw
  go_wp2_with fail
  refine HT.out.mono ?_
  rintro e w3 ⟨rfl, hb3⟩
  have HE : Hid (Calls Tryd.prog 25 #[.pointer (some ⟨d, 0, none⟩), .int .i64 0] w3 fun e w' => e = .returned (.int .i64 2) ∧ w' = w3) := by
    have h := end_doc 0 w3 (HD.out.later hb3) (by simp) sm_AB (by simp)
    rw [end_AB] at h
    exact h
  go_wp2_with fail
  refine HE.out.mono ?_
  rintro e w4 ⟨rfl, hw⟩
  rw [hw]
  clear hw
  go_wp2
  go_ret
  exact ⟨rfl, hbw.trans (hb3.mono hbw.size)⟩
end Go.Proofs.YtchnmkagemmjoaaDoor
namespace Go.Proofs.YtchnmkagemmjoaaDoor
open Go.RowKit
set_option linter.unusedVariables false
set_option maxRecDepth 100000
def fewN (x : Nd) : Bool := decide (x.ds.length ≤ 70) && decide (x.ats.length ≤ 70) && decide (x.t.size ≤ 2000)
def fewB (l : List Nd) (m : Nat) : Bool := decide (l.length ≤ m) && l.all fewN
/-- What holds at each round's head. -/
def FwRel (w : World) (l : List Nd) (i : Value) (wr : World) : Prop := ∃ k : Nat, k ≤ l.length ∧ i = .int .i64 k ∧ (∀ j (hj : j < l.length), j < k → fewN l[j] = true) ∧ wr = w
set_option maxHeartbeats 8000000 in
theorem few_any (l : List Nd) (m : Nat) (v : Value) (w : World) (hm : m ≤ 1000) (hv : NsAt w w.heap.size v l) : Calls Tryd.prog 10 #[v, .int .i64 (m : Int)] w fun e w' => e = .returned (.bool (fewB l m)) ∧ w' = w := by
  have HV := Lib.hid hv
  obtain ⟨A, cap, rfl, hc1, hc2⟩ := hv.slice
  obtain ⟨R, hR⟩ : ∃ R, fewB l m = R := ⟨_, rfl⟩
  rw [hR]
  have HR := Lib.hid hR
  obtain ⟨n, hnE⟩ : ∃ n, l.length = n := ⟨_, rfl⟩
  have HN := Lib.hid hnE
  rw [hnE] at hc1 ⊢
  clear hR hnE
  by_cases hmn : (n : Int) > (m : Int)
  · have hR0 : R = false := by rw [← HR.out, fewB, HN.out, decide_eq_false (by omega)]; rfl
    subst hR0
    go_enter Tryd.func10, Tryd.ntmps10
    go_wp2
    go_ret
    exact ⟨rfl, rfl⟩
  · have hmn1 := decide_eq_false hmn
    have hn : n ≤ 1000 := by omega
    have HALL : Hid (R = l.all fewN) := by show R = _; rw [← HR.out, fewB, HN.out, decide_eq_true (by omega), Bool.true_and]
    go_enter Tryd.func10, Tryd.ntmps10
    go_wp2
    go_loopw [12] (FwRel w l) (fun i _ => n - (intOf i).toNat)
    case atStart => exact ⟨0, Nat.zero_le _, rfl, fun j _ h => by omega, rfl⟩
    case round =>
      obtain ⟨k, hk, rfl, hno, rfl⟩ := hrel
      rw [HN.out] at hk
      have HNO := Lib.hid hno
      clear hno
      by_cases hlt : k < n
      · have hkl : k < l.length := by rw [HN.out]; exact hlt
        obtain ⟨b, o, cap', e, _, _, hbB, hnd⟩ := HV.out.open (by intro h; rw [h] at hkl; simp at hkl)
        simp only [Value.slice.injEq] at e
        obtain ⟨rfl, _, rfl⟩ := e
        obtain ⟨vd, va, d0, d1, d2, d3, d4, d5, d6, d7, ⟨A1, q1, rfl, _, _, _⟩, ⟨A2, q2, rfl, _, _, _⟩⟩ := (hnd k hkl).cells
        have hkz : (k : Int) < (n : Int) := by omega
        have HMO : Hid (fewN l[k] = true → ∀ j (hj : j < l.length), j < k + 1 → fewN l[j] = true) := fun h j hj hjk => by
          rcases Nat.lt_or_eq_of_le (Nat.le_of_lt_succ hjk) with h1 | h1
          · exact HNO.out j hj h1
          · subst h1; exact h
        have HBAD : Hid (fewN l[k] = false → R = false) := fun h => by
          rw [HALL.out, List.all_eq_false]
          exact ⟨l[k], List.getElem_mem hkl, by simp [h]⟩
        generalize l[k] = x at *
        obtain ⟨t, ht⟩ : ∃ t, x.t = t := ⟨_, rfl⟩
        obtain ⟨a1, ha1⟩ : ∃ a, x.ds.length = a := ⟨_, rfl⟩
        obtain ⟨a2, ha2⟩ : ∃ a, x.ats.length = a := ⟨_, rfl⟩
        have HX : Hid (fewN x = (decide (a1 ≤ 70) && decide (a2 ≤ 70) && decide (t.size ≤ 2000))) := by show fewN x = _; rw [fewN, ht, ha1, ha2]
        rw [ht] at d5
        rw [ha1] at d6
        rw [ha2] at d7
        clear hnd d0 d1 d2 d3 d4 ht ha1 ha2
        by_cases h1 : (a1 : Int) > 70
        · have hR0 : R = false := HBAD.out (by rw [HX.out, decide_eq_false (show ¬ a1 ≤ 70 by omega)]; rfl)
          subst hR0
          go_wp2
          go_ret
          exact ⟨rfl, rfl⟩
        · have h1d := decide_eq_false h1
          by_cases h2 : (a2 : Int) > 70
          · have hR0 : R = false := HBAD.out (by rw [HX.out, decide_eq_false (show ¬ a2 ≤ 70 by omega)]; simp)
            subst hR0
            go_wp2
            go_ret
            exact ⟨rfl, rfl⟩
          · have h2d := decide_eq_false h2
            by_cases h3 : (t.size : Int) > 2000
            · have hR0 : R = false := HBAD.out (by rw [HX.out, decide_eq_false (show ¬ t.size ≤ 2000 by omega)]; simp)
              subst hR0
              go_wp2
              go_ret
              exact ⟨rfl, rfl⟩
            · have h3d := decide_eq_false h3
              have HMX := Lib.hid (HMO.out (by rw [HX.out, decide_eq_true (show a1 ≤ 70 by omega), decide_eq_true (show a2 ≤ 70 by omega), decide_eq_true (show t.size ≤ 2000 by omega)]; rfl))
              go_wp2
              go_roundw
              case rel => exact ⟨k + 1, hkl, by go_num, HMX.out, rfl⟩
              case measure => simp [intOf]; omega
      · have hkz : ¬ (k : Int) < (n : Int) := by omega
        have hR1 : R = true := by
          rw [HALL.out, List.all_eq_true]
          intro x hx
          obtain ⟨j, hj, rfl⟩ := List.getElem_of_mem hx
          exact HNO.out j hj (by rw [HN.out] at hj; omega)
        subst hR1
        go_wp2
        go_ret
        exact ⟨rfl, rfl⟩
end Go.Proofs.YtchnmkagemmjoaaDoor
namespace Go.Proofs.YtchnmkagemmjoaaDoor
open Go.RowKit
set_option linter.unusedVariables false
set_option maxRecDepth 100000
theorem NsOwn.form {w : World} {B : Nat} {v : Value} {l : List Nd} (h : NsOwn w B v l) : ∃ A c, v = .slice A l.length c := by
  rcases h with ⟨rfl, rfl⟩ | ⟨g, cur, rfl, _⟩
  · exact ⟨_, _, rfl⟩
  · exact ⟨_, _, rfl⟩
set_option maxHeartbeats 4000000 in
theorem nodes_doc {B d : Nat} {l : List Nd} (w : World) (h : DocAt w B d l) (hn : l.length ≤ 100000) (hs : ∀ x ∈ l, Sm x) : Calls Tryd.prog 14 #[.pointer (some ⟨d, 0, none⟩)] w fun e w' => ∃ v', e = .returned v' ∧ NsOwn w' w.heap.size v' l ∧ Below w.heap.size w w' := by
  obtain ⟨v, hc, hv, _⟩ := h.list hn hs
  have HL := Lib.hid (list_doc d v w hc)
  have HC := Lib.hid (ncopies_any l v w hv (by omega) hs)
  obtain ⟨A, cap, rfl, _, _⟩ := hv.slice
  clear hc hv h
  go_enter Tryd.func14, Tryd.ntmps14
  go_wp2_with fail
  refine HL.out.mono ?_
  rintro e w1 ⟨rfl, hw⟩
  rw [hw]
  clear hw
  go_wp2_with fail
  refine HC.out.mono ?_
  rintro e w2 ⟨v', rfl, ho, hb⟩
  have HO := Lib.hid ho
  obtain ⟨A', c', rfl⟩ := ho.form
  clear ho
  go_wp2
  go_ret
  exact ⟨_, rfl, HO.out, hb⟩
/-- The eight cells of a block, set one behind the other. -/
theorem eight_zero {w2 : World} {b : Nat} {cs : Array Value} {t : TypeId} {fz : Nat × Nat} (v0 v1 v2 v3 v4 v5 v6 v7 : Value) (h : w2.heap[b]? = some (.cells cs t fz)) (h8 : cs.size = 8) :
    ∃ W8, W8 = ((((((((w2.setCell ⟨b, 0, none⟩ v0).setCell ⟨b, 1, none⟩ v1).setCell ⟨b, 2, none⟩ v2).setCell ⟨b, 3, none⟩ v3).setCell ⟨b, 4, none⟩ v4).setCell ⟨b, 5, none⟩ v5).setCell ⟨b, 6, none⟩ v6).setCell ⟨b, 7, none⟩ v7) ∧ (∀ g, g ≠ b → W8.heap[g]? = w2.heap[g]?) ∧ (∀ (B : Nat) (a : World), Below B a w2 → B ≤ b → Below B a W8) ∧ W8.cell? ⟨b, 0, none⟩ = some v0 ∧ W8.cell? ⟨b, 1, none⟩ = some v1 ∧ W8.cell? ⟨b, 2, none⟩ = some v2 ∧ W8.cell? ⟨b, 3, none⟩ = some v3 ∧ W8.cell? ⟨b, 4, none⟩ = some v4 ∧ W8.cell? ⟨b, 5, none⟩ = some v5 ∧ W8.cell? ⟨b, 6, none⟩ = some v6 ∧ W8.cell? ⟨b, 7, none⟩ = some v7 := by
  have hb : (((((((((w2.setCell ⟨b, 0, none⟩ v0).setCell ⟨b, 1, none⟩ v1).setCell ⟨b, 2, none⟩ v2).setCell ⟨b, 3, none⟩ v3).setCell ⟨b, 4, none⟩ v4).setCell ⟨b, 5, none⟩ v5).setCell ⟨b, 6, none⟩ v6).setCell ⟨b, 7, none⟩ v7)).heap[b]? = some (.cells ((((((((cs.setIfInBounds 0 v0).setIfInBounds 1 v1).setIfInBounds 2 v2).setIfInBounds 3 v3).setIfInBounds 4 v4).setIfInBounds 5 v5).setIfInBounds 6 v6).setIfInBounds 7 v7) t fz) := (block_set (block_set (block_set (block_set (block_set (block_set (block_set (block_set h))))))))
  refine ⟨_, rfl, fun g hg => ((Below.heap_setCell _ _ _ _ hg).trans ((Below.heap_setCell _ _ _ _ hg).trans ((Below.heap_setCell _ _ _ _ hg).trans ((Below.heap_setCell _ _ _ _ hg).trans ((Below.heap_setCell _ _ _ _ hg).trans ((Below.heap_setCell _ _ _ _ hg).trans ((Below.heap_setCell _ _ _ _ hg).trans ((Below.heap_setCell _ _ _ _ hg).trans rfl)))))))), fun B a hB hle => ((((((((hB.setCell (p := ⟨b, 0, none⟩) hle v0).setCell (p := ⟨b, 1, none⟩) hle v1).setCell (p := ⟨b, 2, none⟩) hle v2).setCell (p := ⟨b, 3, none⟩) hle v3).setCell (p := ⟨b, 4, none⟩) hle v4).setCell (p := ⟨b, 5, none⟩) hle v5).setCell (p := ⟨b, 6, none⟩) hle v6).setCell (p := ⟨b, 7, none⟩) hle v7), ?_⟩
  have hc := fun j => cell_of_row _ b j _ _ _ hb
  refine ⟨?_, ?_, ?_, ?_, ?_, ?_, ?_, ?_⟩ <;> rw [hc] <;> simp [h8]
set_option maxHeartbeats 8000000 in
theorem node_doc {B d : Nat} {l : List Nd} (n : Nat) (w : World) (h : DocAt w B d l) (hn : l.length ≤ 100000) (hs : ∀ x ∈ l, Sm x) (hnl : n < l.length) : Calls Tryd.prog 19 #[.pointer (some ⟨d, 0, none⟩), .int .i64 (n : Int)] w fun e w' => ∃ vd va, e = .returned (.agg #[.int .i64 l[n].k, .int .i64 l[n].n, .string l[n].p, .string l[n].l, .string l[n].u, .string l[n].t, vd, va]) ∧ OwnDs w' w.heap.size vd l[n].ds ∧ OwnAs w' w.heap.size va l[n].ats ∧ Below w.heap.size w w' := by
  have HH : Hid (∀ w', Below w.heap.size w w' → Calls Tryd.prog 36 #[.pointer (some ⟨d, 0, none⟩), .int .i64 (n : Int)] w' fun e w'' => e = .returned (.bool true) ∧ w'' = w') := fun w' hb => by
    have := has_doc (n : Int) w' (h.later hb) hn hs
    rw [decide_eq_true (by omega)] at this
    exact this
  obtain ⟨v, hc, hv, hd⟩ := h.list hn hs
  obtain ⟨b, o, cap, rfl, hc1, hc2, hbB, hnd⟩ := hv.open (by intro h; rw [h] at hnl; simp at hnl)
  obtain ⟨vd, va, d0, d1, d2, d3, d4, d5, d6, d7, hds, has⟩ := (hnd n hnl).cells
  have HX : Hid (NdV w w.heap.size (.agg #[.int .i64 l[n].k, .int .i64 l[n].n, .string l[n].p, .string l[n].l, .string l[n].u, .string l[n].t, vd, va]) l[n]) := ⟨vd, va, rfl, hds, has⟩
  obtain ⟨A1, c1, rfl, _⟩ := hds
  obtain ⟨A2, c2, rfl, _⟩ := has
  have hsx := hs _ (List.getElem_mem hnl)
  have HCP : Hid (∀ w', Below w.heap.size w w' → Calls Tryd.prog 32 #[.agg #[.int .i64 l[n].k, .int .i64 l[n].n, .string l[n].p, .string l[n].l, .string l[n].u, .string l[n].t, .slice A1 l[n].ds.length c1, .slice A2 l[n].ats.length c2]] w' fun e w'' => ∃ vd va, e = .returned (.agg #[.int .i64 l[n].k, .int .i64 l[n].n, .string l[n].p, .string l[n].l, .string l[n].u, .string l[n].t, vd, va]) ∧ OwnDs w'' w'.heap.size vd l[n].ds ∧ OwnAs w'' w'.heap.size va l[n].ats ∧ Below w'.heap.size w' w'') := fun w' hb' =>
    nodeCopy_any l[n] _ hsx w' (HX.out.later hb')
  obtain ⟨m, hmE⟩ : ∃ m, l.length = m := ⟨_, rfl⟩
  rw [hmE] at hn hc1 hnl hc
  generalize l[n] = x at *
  clear hnd hv h hmE
  go_enter Tryd.func19, Tryd.ntmps19
  go_wp2_with fail
  refine (HH.out _ (by first | exact Below.refl _ _ | exact (Below.refl _ _).alloc (Nat.le_refl _) _)).mono ?_
  rintro e w1 ⟨rfl, hw⟩
  rw [hw]
  clear hw
  go_wp2_with fail
  refine (HCP.out _ (by first | exact Below.refl _ _ | exact (Below.refl _ _).alloc (Nat.le_refl _) _)).mono ?_
  rintro e w2 ⟨vd', va', rfl, ho1, ho2, hb1⟩
  obtain ⟨A3, c3, rfl⟩ := OwnSl.form ho1
  obtain ⟨A4, c4, rfl⟩ := OwnSl.form ho2
  have HO1 : Hid (OwnDs w2 w.heap.size (.slice A3 x.ds.length c3) x.ds) := OwnSl.mono ho1 (by simp)
  have HO2 : Hid (OwnAs w2 w.heap.size (.slice A4 x.ats.length c4) x.ats) := OwnSl.mono ho2 (by simp)
  have hbw := below_box hb1
  have hcur : w2.heap[w.heap.size]? = some (.cells #[.int .i64 0, .int .i64 0, .string ⟨#[]⟩, .string ⟨#[]⟩, .string ⟨#[]⟩, .string ⟨#[]⟩, .slice none 0 0, .slice none 0 0] 38 (0, 0)) := (hb1.block _ (by simp)).trans (heap_alloc_last w _)
  have hfz : ∀ j, w2.frozen? ⟨w.heap.size, j, none⟩ = false := fun j => by unfold World.frozen?; rw [hcur]; simp
  have g0 : w2.cell? ⟨w.heap.size, 0, none⟩ = some (.int .i64 0) := by rw [cell_of_row w2 w.heap.size _ _ _ _ hcur]; rfl
  have g1 : w2.cell? ⟨w.heap.size, 1, none⟩ = some (.int .i64 0) := by rw [cell_of_row w2 w.heap.size _ _ _ _ hcur]; rfl
  have g2 : w2.cell? ⟨w.heap.size, 2, none⟩ = some (.string ⟨#[]⟩) := by rw [cell_of_row w2 w.heap.size _ _ _ _ hcur]; rfl
  have g3 : w2.cell? ⟨w.heap.size, 3, none⟩ = some (.string ⟨#[]⟩) := by rw [cell_of_row w2 w.heap.size _ _ _ _ hcur]; rfl
  have g4 : w2.cell? ⟨w.heap.size, 4, none⟩ = some (.string ⟨#[]⟩) := by rw [cell_of_row w2 w.heap.size _ _ _ _ hcur]; rfl
  have g5 : w2.cell? ⟨w.heap.size, 5, none⟩ = some (.string ⟨#[]⟩) := by rw [cell_of_row w2 w.heap.size _ _ _ _ hcur]; rfl
  have g6 : w2.cell? ⟨w.heap.size, 6, none⟩ = some (.slice none 0 0) := by rw [cell_of_row w2 w.heap.size _ _ _ _ hcur]; rfl
  have g7 : w2.cell? ⟨w.heap.size, 7, none⟩ = some (.slice none 0 0) := by rw [cell_of_row w2 w.heap.size _ _ _ _ hcur]; rfl
  obtain ⟨W8, hW8, hoth, hbel, q0, q1, q2, q3, q4, q5, q6, q7⟩ := eight_zero (.int .i64 x.k) (.int .i64 x.n) (.string x.p) (.string x.l) (.string x.u) (.string x.t) (.slice A3 x.ds.length c3) (.slice A4 x.ats.length c4) hcur rfl
  have HO8 : Hid (OwnDs W8 w.heap.size (.slice A3 x.ds.length c3) x.ds) := OwnSl.aside HO1.out hcur (by decide) hoth
  have HA8 : Hid (OwnAs W8 w.heap.size (.slice A4 x.ats.length c4) x.ats) := OwnSl.aside HO2.out hcur (by decide) hoth
  have HB8 : Hid (Below w.heap.size w W8) := hbel _ _ hbw (Nat.le_refl _)
  have HW8 := Lib.hid hW8
  clear ho1 ho2 hcur hbw hb1 hW8 hoth hbel
  go_wp2
  rw [← HW8.out]
  refine bodyPost_ret (v := .agg #[.int .i64 x.k, .int .i64 x.n, .string x.p, .string x.l, .string x.u, .string x.t, .slice A3 x.ds.length c3, .slice A4 x.ats.length c4]) (by simp [results, Tryd.results19, go_sem, q0, q1, q2, q3, q4, q5, q6, q7]) rfl ⟨_, _, rfl, HO8.out, HA8.out, HB8.out⟩
end Go.Proofs.YtchnmkagemmjoaaDoor
namespace Go.Proofs.YtchnmkagemmjoaaDoor
set_option linter.unusedVariables false
theorem endFrom_spec {l : List Nd} {n : Nat} : ∀ (m k : Nat), l.length - k = m → k ≤ l.length → k ≤ endFrom n (l.drop k) k ∧ endFrom n (l.drop k) k ≤ l.length ∧ (∀ j, k ≤ j → j < endFrom n (l.drop k) k → (n : Int) ≤ pa l j) ∧ (endFrom n (l.drop k) k < l.length → pa l (endFrom n (l.drop k) k) < (n : Int))
  | 0, k, hm, hk => by
    rw [List.drop_of_length_le (by omega), endFrom]
    exact ⟨Nat.le_refl _, hk, fun j h1 h2 => by omega, fun h => by omega⟩
  | m + 1, k, hm, hk => by
    have hkl : k < l.length := by omega
    obtain ⟨h1, h2, h3, h4⟩ := endFrom_spec (l := l) (n := n) m (k + 1) (by omega) (by omega)
    rw [List.drop_eq_getElem_cons hkl, endFrom]
    by_cases hx : (n : Int) ≤ l[k].n
    · rw [if_pos hx]
      refine ⟨by omega, h2, fun j hj1 hj2 => ?_, h4⟩
      by_cases he : j = k
      · subst he; rw [pa_at hkl]; exact hx
      · exact h3 j (by omega) hj2
    · rw [if_neg hx]
      refine ⟨Nat.le_refl _, hk, fun j h1 h2 => by omega, fun _ => ?_⟩
      rw [pa_at hkl]; omega
theorem end_spec {l : List Nd} {n : Nat} (h : n < l.length) : n < endP l n ∧ endP l n ≤ l.length ∧ (∀ j, n < j → j < endP l n → (n : Int) ≤ pa l j) ∧ (endP l n < l.length → pa l (endP l n) < (n : Int)) := by
  obtain ⟨h1, h2, h3, h4⟩ := endFrom_spec (l := l) (n := n) _ (n + 1) rfl (by omega)
  exact ⟨h1, h2, fun j hj => h3 j hj, h4⟩
/-- What is above a node below c, and ahead of c, is above c's parent, or that itself. -/
theorem up_below {l : List Nd} {i c : Nat} (hh : Hung l i) : ∀ j, c ≤ j → j < i → (∀ q, c < q → q ≤ j → (c : Int) ≤ pa l q) → ∀ m, m ∈ chn l j → m < c → m ∈ chn l (pa l c).toNat := by
  intro j
  induction j using Nat.strongRecOn with
  | ind j ih =>
    intro hcj hj hq m hm hmc
    have hm' := (mem_step hh hj (by omega)).1 hm
    by_cases he : j = c
    · subst he; exact hm'
    · have hp := hq j (by omega) (Nat.le_refl _)
      have hl := hh j (by omega) hj
      exact ih _ (by omega) (by omega) (by omega) (fun q h1 h2 => hq q h1 (by omega)) m hm' hmc
theorem hang_mem {l : List Nd} {i : Nat} (h : hangB l i = true) : (pa l i).toNat ∈ chn l (i - 1) := by
  simp only [hangB, Bool.and_eq_true, decide_eq_true_eq] at h
  exact h.1.2
/-- Behind a child of n, and all below it, stands a child of n, unless all below n is over. -/
theorem next_kid {l : List Nd} {n c : Nat} (hh : Hung l l.length) (hg : ∀ i, 1 ≤ i → i < l.length → hangB l i = true) (hn : n < c) (hc : c < l.length) (hpc : pa l c = n) (he : endP l c < endP l n) : pa l (endP l c) = n := by
  obtain ⟨a1, a2, a3, a4⟩ := end_spec hc
  obtain ⟨b1, b2, b3, b4⟩ := end_spec (show n < l.length by omega)
  have h1 := b3 (endP l c) (by omega) he
  have h2 := a4 (by omega)
  have h3 := hang_mem (hg (endP l c) (by omega) (by omega))
  have h4 := up_below (c := c) hh (endP l c - 1) (by omega) (by omega) (fun q hq1 hq2 => a3 q hq1 (by omega)) _ h3 (by omega)
  rw [hpc] at h4
  have h5 := chn_le h4
  omega
/-- Right behind n stands its first child, unless it has none. -/
theorem first_kid {l : List Nd} {n : Nat} (hh : Hung l l.length) (hn : n < l.length) (he : n + 1 < endP l n) : pa l (n + 1) = n := by
  obtain ⟨b1, b2, b3, b4⟩ := end_spec hn
  have h1 := b3 (n + 1) (by omega) he
  have h2 := hh (n + 1) (by omega) (by omega)
  omega
/-- All below a child of n is below n. -/
theorem end_within {l : List Nd} {n c : Nat} (hn : n < c) (hc : c < endP l n) (hl : n < l.length) : endP l c ≤ endP l n := by
  obtain ⟨b1, b2, b3, b4⟩ := end_spec hl
  obtain ⟨a1, a2, a3, a4⟩ := end_spec (show c < l.length by omega)
  by_cases h : endP l n < endP l c
  · have h1 := a3 (endP l n) (by omega) h
    have h2 := b4 (by omega)
    omega
  · omega
end Go.Proofs.YtchnmkagemmjoaaDoor
namespace Go.Proofs.YtchnmkagemmjoaaDoor
open Go.RowKit
set_option linter.unusedVariables false
theorem intInf : (Tryd.prog.info? 3).map (fun i => (i.zero, i.size, i.bytes)) = some (some (.int .i64 0), 1, 8) := by kernel_rfl
def i64c (l : List Int) : List Value := l.map (.int .i64)
theorem i64c_length (l : List Int) : (i64c l).length = l.length := by simp [i64c]
theorem i64c_append (a b : List Int) : i64c (a ++ b) = i64c a ++ i64c b := by simp [i64c]
theorem i64c_one (l : List Int) : ∀ u ∈ i64c l, u.oneCell' = true := fun u hu => by
  simp [i64c] at hu; obtain ⟨z, _, rfl⟩ := hu; rfl
theorem addr_addI (b o j : Nat) : (⟨b, o, none⟩ : Addr).add j = ⟨b, o + j, none⟩ := by unfold Addr.add; split <;> simp_all
/-- A slice of these bytes in a row of the call's own, of which nothing is frozen; or no slice, and none. -/
def OwnI (w : World) (B : Nat) (v : Value) (l : List Int) : Prop :=
  (v = .slice none 0 0 ∧ l = []) ∨ ∃ g cap, v = .slice (some ⟨g, 0, none⟩) l.length cap ∧ B ≤ g ∧ g < w.heap.size ∧ l.length ≤ cap ∧ cap ≤ 9223372036854775807 ∧
    (∀ j, j < cap → (w.cell? ⟨g, j, none⟩).isSome = true ∧ w.frozen? ⟨g, j, none⟩ = false) ∧ ∀ j u, (i64c l)[j]? = some u → w.cell? ⟨g, j, none⟩ = some u
theorem OwnI.nil (w : World) (B : Nat) : OwnI w B (.slice none 0 0) [] := .inl ⟨rfl, rfl⟩
theorem OwnI.later {w w' : World} {B : Nat} {v : Value} {l : List Int} (h : OwnI w B v l) (hb : Below w.heap.size w w') : OwnI w' B v l := by
  rcases h with h | ⟨g, cap, e, h1, h2, h3, h4, h5, h6⟩
  · exact .inl h
  · exact .inr ⟨g, cap, e, h1, Nat.lt_of_lt_of_le h2 hb.size, h3, h4, fun j hj => by rw [hb.cell (p := ⟨g, j, none⟩) h2, hb.frozen (p := ⟨g, j, none⟩) h2]; exact h5 j hj, fun j u hu => by rw [hb.cell (p := ⟨g, j, none⟩) h2]; exact h6 j u hu⟩
theorem OwnI.of_row {w : World} {B n : Nat} {v : Value} {l : List Int} (h : w.ownsRow B 3 1 v n (i64c l)) : OwnI w B v l := by
  obtain ⟨hl, h | ⟨g, cap, cur, rfl, hg, hh, hn, hc, hs, ht⟩⟩ := h
  · obtain ⟨rfl, rfl⟩ := h
    rw [i64c_length] at hl
    exact .inl ⟨rfl, List.eq_nil_of_length_eq_zero (by simpa using hl)⟩
  · rw [i64c_length, Nat.mul_one] at hl
    subst hl
    rw [Nat.mul_one] at hs ht
    refine .inr ⟨g, cap, rfl, hg, (Array.getElem?_eq_some_iff.1 hh).1, hn, by unfold maxLen at hc; exact hc, fun j hj => ⟨?_, frozen_of_row w g j cur 3 hh⟩, fun j u hu => ?_⟩
    · rw [cell_of_row w g j cur 3 (0, 0) hh, Array.getElem?_eq_getElem (by omega)]; rfl
    · rw [cell_of_row w g j cur 3 (0, 0) hh, ← hu, ← ht]
      have hj : j < l.length := by
        have := (List.getElem?_eq_some_iff.1 hu).1
        rwa [i64c_length] at this
      rw [List.getElem?_take_of_lt hj, Array.getElem?_toList]
theorem OwnI.lies {w : World} {B : Nat} {v : Value} {l : List Int} (h : OwnI w B v l) : ∃ A cap, v = .slice A l.length cap ∧ l.length ≤ cap ∧ cap ≤ 9223372036854775807 ∧ Lies w w.heap.size A (i64c l) := by
  rcases h with ⟨rfl, rfl⟩ | ⟨g, cap, rfl, h1, h2, h3, h4, h5, h6⟩
  · exact ⟨none, 0, rfl, Nat.le_refl _, by omega, fun h => absurd rfl h⟩
  · exact ⟨some ⟨g, 0, none⟩, cap, rfl, h3, h4, fun _ => ⟨g, 0, rfl, h2, fun j hj => by rw [Nat.zero_add]; exact h6 j _ (List.getElem?_eq_getElem hj)⟩⟩
theorem below_setCellsI {B g : Nat} (hB : B ≤ g) {a : World} : ∀ (vs : List Value) (o : Nat) (w : World), Below B a w → Below B a (w.setCells g o vs)
  | [], _, _, h => h
  | v :: r, o, w, h => below_setCellsI hB r (o + 1) _ (h.setCell (p := ⟨g, o, none⟩) hB v)
theorem size_setCellsI {g : Nat} : ∀ (vs : List Value) (o : Nat) (w : World), (w.setCells g o vs).heap.size = w.heap.size
  | [], _, _ => rfl
  | v :: r, o, w => by rw [World.setCells, size_setCellsI r]; simp [World.setCell]
/-- A row that has room, written behind its bytes. -/
theorem own_roomI {w : World} {B g cap : Nat} {l y : List Int} (h1 : B ≤ g) (h2 : g < w.heap.size) (h4 : cap ≤ 9223372036854775807) (hroom : l.length + y.length ≤ cap)
    (h5 : ∀ j, j < cap → (w.cell? ⟨g, j, none⟩).isSome = true ∧ w.frozen? ⟨g, j, none⟩ = false) (h6 : ∀ j u, (i64c l)[j]? = some u → w.cell? ⟨g, j, none⟩ = some u) :
    OwnI (w.setCells g l.length (i64c y)) B (.slice (some ⟨g, 0, none⟩) (l.length + y.length) cap) (l ++ y) := by
  have hin := World.cell?_setCells_in g (i64c y) l.length w (fun j hj => (h5 (l.length + j) (by rw [i64c_length] at hj; omega)).1)
  refine .inr ⟨g, cap, by rw [List.length_append], h1, by rw [size_setCellsI]; exact h2, by rw [List.length_append]; exact hroom, h4, fun j hj => ⟨?_, by rw [World.frozen?_setCells]; exact (h5 j hj).2⟩, fun j u hu => ?_⟩
  · by_cases hj1 : l.length ≤ j ∧ j < l.length + y.length
    · have := hin (j - l.length) (by rw [i64c_length]; omega)
      rw [show l.length + (j - l.length) = j by omega] at this
      rw [this]; rfl
    · rw [World.cell?_setCells_out g (i64c y) l.length w ⟨g, j, none⟩ (fun _ _ => by rw [i64c_length]; show j < l.length ∨ l.length + y.length ≤ j; omega)]
      exact (h5 j hj).1
  · rw [i64c_append] at hu
    by_cases hj1 : j < l.length
    · rw [World.cell?_setCells_out g (i64c y) l.length w ⟨g, j, none⟩ (fun _ _ => .inl hj1)]
      rw [List.getElem?_append_left (by rw [i64c_length]; exact hj1)] at hu
      exact h6 j u hu
    · rw [List.getElem?_append_right (by rw [i64c_length]; omega), i64c_length] at hu
      have hj2 := (List.getElem?_eq_some_iff.1 hu).1
      have := hin (j - l.length) hj2
      rw [show l.length + (j - l.length) = j by omega] at this
      rw [this, ← hu, List.getElem?_eq_getElem hj2]
/-- A row that was laid anew. -/
theorem own_grownI {w : World} {B cap : Nat} {l y : List Int} (hB : B ≤ w.heap.size) (hge : l.length + y.length ≤ cap) (hcm : cap ≤ maxLen) (Z : Array Value) (hZ : Z.size = cap - (l.length + y.length)) :
    OwnI (w.drew.alloc (.cells ((i64c l).toArray ++ (i64c y).toArray ++ Z) 3)) B (.slice (some ⟨w.heap.size, 0, none⟩) (l.length + y.length) cap) (l ++ y) := by
  refine OwnI.of_row (n := l.length + y.length) ⟨by rw [i64c_length, List.length_append]; omega, .inr ⟨w.heap.size, cap, _, rfl, hB, heap_alloc_new w.drew _, hge, hcm, ?_, ?_⟩⟩
  · simp only [Array.size_append, List.size_toArray, i64c_length, hZ]; omega
  · rw [Nat.mul_one, i64c_append]
    simp only [Array.toList_append]
    rw [List.take_append_of_le_length (by simp [i64c_length])]
    exact List.take_of_length_le (by simp [i64c_length])
/-- append of bytes that lie somewhere. -/
theorem app_runI {w : World} {B : Nat} {v : Value} {l : List Int} (h : OwnI w B v l) (hB : B ≤ w.heap.size) (ad : Addr) (m c : Nat) (y : List Int) (hm : y.length = m) (hy : ∀ j u, (i64c y)[j]? = some u → w.cell? (ad.add j) = some u) (hn : l.length + m ≤ 1000000) (ty : TypeId) :
    ∃ v' w', (Builtin.append_ #[41, 41] ty #[v, .slice (some ad) m c]).run Tryd.prog w = .ok v' w' ∧ OwnI w' B v' (l ++ y) ∧ Below B w w' := by
  obtain ⟨i0, hi, hz0, hz1, hz2⟩ := info_parts intInf
  subst hm
  rcases h with ⟨rfl, rfl⟩ | ⟨g, cap, rfl, h1, h2, h3, h4, h5, h6⟩
  · obtain ⟨v', w', hr, ho, hg, _⟩ := run_append_own (P := Tryd.prog) w B 41 ty 3 i0 (.int .i64 0) 1 8 Tryd.underlying41 hi hz0 hz1 hz2 rfl (by omega) (.slice none 0 0) 0 [] (World.ownsRow_nil _ _ _ _) ad y.length c (i64c y) (by rw [i64c_length]; omega) hy (i64c_one y) (by unfold maxLen; omega) (by omega) hB
    exact ⟨v', w', hr, OwnI.of_row ho, (Below.refl B w).grown hg hB (fun k hk => by simp [Value.ownBlock] at hk)⟩
  · by_cases hroom : l.length + y.length ≤ cap
    · have hf := run_firstCells_some (P := Tryd.prog) w 1 y.length ad y.length c (i64c y) (by rw [i64c_length]; omega) hy
      have hst := run_storeCells_cells (P := Tryd.prog) g l.length (i64c y) 0 w (fun j hj => (h5 _ (by rw [i64c_length] at hj; omega)).1) (fun j hj => (h5 _ (by rw [i64c_length] at hj; omega)).2) (i64c_one y)
      rw [Nat.add_zero] at hst
      exact ⟨_, _, by simp [Builtin.append_, run_underlying Tryd.underlying41, sizeOf, typeInfo, hi, hz1, Builtin.lenOf, hroom, hf, Addr.add_lit, hst], own_roomI h1 h2 h4 hroom h5 h6, below_setCellsI h1 _ _ _ (Below.refl _ _)⟩
    · have hr := run_append_grow (P := Tryd.prog) w 41 ty 3 i0 (.int .i64 0) Tryd.underlying41 hi hz0 ⟨g, 0, none⟩ l.length cap (i64c l) (by rw [i64c_length, hz1]; omega) (fun j u hu => by rw [addr_addI, Nat.zero_add]; exact h6 j u hu) ad y.length c (i64c y) (by rw [i64c_length, hz1]; omega) hy (by omega) (by omega) (by rw [hz2]; exact growslice_fits (by omega) (by omega))
      refine ⟨_, _, hr, own_grownI hB (grownCap_ge w _ cap _) (grownCap_le_maxLen w _ cap _ (by unfold maxLen; omega)) _ ?_, ((Below.refl B w).drew).alloc hB _⟩
      rw [size_zeroCells]; simp [Value.cells]
/-- The same, as operations. -/
theorem app_listI {w : World} {ops : Array Oper} {rest : List Oper} {o : Oper} {a : Act} {Q : Exit → Act → World → Prop} (hgd : o.guard = none) (s x : Operand)
    (ho : o.op = .call { callee := .builtin .append, args := #[s, x], argTypes := #[41, 41] }) (B : Nat) (l : List Int) (v : Value) (hs : a.eval s = v) (hown : OwnI w B v l) (hB : B ≤ w.heap.size)
    (ad : Addr) (m c : Nat) (y : List Int) (hx : a.eval x = .slice (some ad) m c) (hm : y.length = m) (hy : ∀ j u, (i64c y)[j]? = some u → w.cell? (ad.add j) = some u) (hn : l.length + m ≤ 1000000)
    (h : ∀ v' w', OwnI w' B v' (l ++ y) → Below B w w' → wpList Tryd.prog ops Q rest (a.put o.dst v') w') : wpList Tryd.prog ops Q (o :: rest) a w := by
  refine wpList_plain hgd fun K hK => ?_
  obtain ⟨v', w', hr, h2, h3⟩ := app_runI hown hB ad m c y hm hy hn o.type
  unfold Oper.wp execOp
  simp only [ho, resolve, invoke, builtin, Sem.run_bind, Sem.run_pure, Result.andThen_ok, List.map_toArray, List.map_cons, List.map_nil, hs, hx, hr]
  exact hK _ _ (h v' w' h2 h3)
/-- append of one byte that the same round laid. -/
theorem app_byteI {w : World} {ops : Array Oper} {rest : List Oper} {o : Oper} {a : Act} {Q : Exit → Act → World → Prop} (hgd : o.guard = none) (s x : Operand)
    (ho : o.op = .call { callee := .builtin .append, args := #[s, x], argTypes := #[41, 41] }) (B : Nat) (l : List Int) (v : Value) (hs : a.eval s = v) (hown : OwnI w B v l) (hB : B ≤ w.heap.size)
    (y : Int) (hx : a.eval x = .slice (some ⟨w.heap.size, 0, none⟩) 1 1) (hn : l.length + 1 ≤ 1000000)
    (h : ∀ v' w', OwnI w' B v' (l ++ [y]) → Below B w w' → wpList Tryd.prog ops Q rest (a.put o.dst v') w') : wpList Tryd.prog ops Q (o :: rest) a (w.alloc (.cells #[.int .i64 y] 3)) := by
  have hb := (Below.refl w.heap.size w).alloc (Nat.le_refl _) (.cells #[.int .i64 y] 3)
  refine app_listI hgd s x ho B l v hs (hown.later hb) (Nat.le_trans hB hb.size) ⟨w.heap.size, 0, none⟩ 1 1 [y] hx rfl (fun j u hu => ?_) hn fun v' w' h2 h3 => h v' w' h2 ((hb.mono hB).trans h3)
  rw [addr_addI, Nat.zero_add, cell_of_row _ _ j _ _ _ (heap_alloc_last w _)]
  exact List.getElem?_toArray.trans hu
end Go.Proofs.YtchnmkagemmjoaaDoor
namespace Go.Proofs.YtchnmkagemmjoaaDoor
open Go.RowKit
set_option linter.unusedVariables false
set_option maxRecDepth 100000
/-- Those of the first k that stand behind n and hang on it. -/
def kidsL (l : List Nd) (n : Nat) : Nat → List Int
  | 0 => []
  | k + 1 => if n < k ∧ pa l k = (n : Int) then kidsL l n k ++ [(k : Int)] else kidsL l n k
theorem kidsL_len (l : List Nd) (n : Nat) : ∀ k, (kidsL l n k).length ≤ k
  | 0 => Nat.le_refl _
  | k + 1 => by
    have := kidsL_len l n k
    unfold kidsL; split
    · simp; exact this
    · omega
theorem kidsL_start (l : List Nd) (n : Nat) : ∀ k, k ≤ n + 1 → kidsL l n k = []
  | 0, _ => rfl
  | k + 1, h => by rw [kidsL, if_neg (by omega), kidsL_start l n k (by omega)]
/-- What holds at each round's head. -/
def KdRel (w : World) (l : List Nd) (n : Nat) (v i : Value) (wr : World) : Prop := ∃ k : Nat, n < k ∧ k ≤ endP l n ∧ i = .int .i64 k ∧ OwnI wr w.heap.size v (kidsL l n k) ∧ Below w.heap.size w wr
set_option maxHeartbeats 8000000 in
theorem kids_doc {B d : Nat} {l : List Nd} (n : Nat) (w : World) (h : DocAt w B d l) (hn : l.length ≤ 100000) (hs : ∀ x ∈ l, Sm x) (hnl : n < l.length) : Calls Tryd.prog 21 #[.pointer (some ⟨d, 0, none⟩), .int .i64 (n : Int)] w fun e w' => ∃ v', e = .returned v' ∧ OwnI w' w.heap.size v' (kidsL l n (endP l n)) ∧ Below w.heap.size w w' := by
  have HH := Lib.hid (has_doc (n : Int) w h hn hs)
  rw [decide_eq_true (by omega)] at HH
  have HE := Lib.hid (end_doc n w h hn hs hnl)
  obtain ⟨e1, e2, _, _⟩ := end_spec hnl
  have HK : Hid (∀ k, (kidsL l n k).length ≤ k) := kidsL_len l n
  obtain ⟨E, hE⟩ : ∃ E, endP l n = E := ⟨_, rfl⟩
  have HEE := Lib.hid hE
  rw [hE] at e1 e2 HE ⊢
  obtain ⟨v, hc, hv, hdl⟩ := h.list hn hs
  obtain ⟨b, o, cap, rfl, hc1, hc2, hbB, hnd⟩ := hv.open (by intro h; rw [h] at hnl; simp at hnl)
  have HND := Lib.hid hnd
  obtain ⟨m, hmE⟩ : ∃ m, l.length = m := ⟨_, rfl⟩
  have HM := Lib.hid hmE
  rw [hmE] at hn hc1 hnl hc e2
  have HC := Lib.hid hc
  clear hnd hv h hmE hE
  go_enter Tryd.func21, Tryd.ntmps21
  go_wp2_with fail
  refine HH.out.mono ?_
  rintro e w1 ⟨rfl, hw⟩
  rw [hw]
  clear hw
  go_wp2_with fail
  refine HE.out.mono ?_
  rintro e w1 ⟨rfl, hw⟩
  rw [hw]
  clear hw hc
  go_wp2
  go_loopw [5, 7] (KdRel w l n) (fun v i _ => E - (intOf i).toNat)
  case atStart => exact ⟨n + 1, by omega, by rw [HEE.out]; omega, by go_num, by rw [kidsL_start l n _ (Nat.le_refl _)]; exact OwnI.nil _ _, Below.refl _ _⟩
  case round =>
    obtain ⟨k, hk1, hk, rfl, hO, hb⟩ := hrel
    rw [HEE.out] at hk
    have HO := Lib.hid hO
    obtain ⟨A0, c0, hv0, _⟩ := hO.lies
    subst hv0
    clear hO
    by_cases hlt : k < E
    · have hkl : k < l.length := by rw [HM.out]; omega
      have hkm : k < m := by omega
      obtain ⟨vd, va, d0', d1', _⟩ := (HND.out k hkl).cells
      have hcr : wr.cell? ⟨d, 0, none⟩ = some (.slice (some ⟨b, o, none⟩) m cap) := (hb.cell (p := ⟨d, 0, none⟩) hdl).trans HC.out
      have d1 : wr.cell? ⟨b, o + k * 8 + 1, none⟩ = some (.int .i64 l[k].n) := (hb.cell (p := ⟨b, o + k * 8 + 1, none⟩) hbB).trans d1'
      have hkz : (k : Int) < (E : Int) := by omega
      have HP : Hid (pa l k = l[k].n) := pa_at hkl
      generalize l[k] = x at *
      clear d0' d1'
      by_cases hx : x.n = (n : Int)
      · have t1 : (x.n == (n : Int)) = true := by simpa using hx
        have HS : Hid (kidsL l n (k + 1) = kidsL l n k ++ [(k : Int)]) := by show _ = _; rw [kidsL, if_pos ⟨hk1, by rw [HP.out]; exact hx⟩]
        have hkn : (kidsL l n k).length + 1 ≤ 1000000 := by have := HK.out k; omega
        have hbs := hb.size
        clear hx
        go_wp2_with (at_builtin; refine app_byteI rfl _ _ rfl w.heap.size (kidsL l n k) _ rfl HO.out hbs _ rfl hkn ?_; intro v3 w3 hO3 hb3)
        go_roundw
        case rel => exact ⟨k + 1, by omega, by rw [HEE.out]; exact hlt, by go_num, by rw [HS.out]; exact hO3, hb.trans hb3⟩
        case measure => simp [intOf]; omega
      · have t1 : (x.n == (n : Int)) = false := by simpa using hx
        have HS : Hid (kidsL l n (k + 1) = kidsL l n k) := by show _ = _; rw [kidsL, if_neg (by rw [HP.out]; exact fun h => hx h.2)]
        clear hx
        go_wp2
        go_roundw
        case rel => exact ⟨k + 1, by omega, by rw [HEE.out]; exact hlt, by go_num, by rw [HS.out]; exact HO.out, hb⟩
        case measure => simp [intOf]; omega
    · have hkz : ¬ (k : Int) < (E : Int) := by omega
      have hkE : k = E := by omega
      have HKE := Lib.hid hkE
      clear hkE
      go_wp2
      go_ret
      exact ⟨_, rfl, by rw [← HKE.out]; exact HO.out, hb⟩
end Go.Proofs.YtchnmkagemmjoaaDoor
namespace Go.Proofs.YtchnmkagemmjoaaDoor
set_option linter.unusedVariables false
theorem kidsL_mono (l : List Nd) (n c : Nat) : ∀ e, c ≤ e → ∃ r, kidsL l n e = kidsL l n c ++ r
  | 0, h => ⟨[], by rw [show c = 0 by omega]; simp⟩
  | e + 1, h => by
    by_cases he : c = e + 1
    · subst he; exact ⟨[], by simp⟩
    · obtain ⟨r, hr⟩ := kidsL_mono l n c e (by omega)
      rw [kidsL]
      split
      · exact ⟨r ++ [(e : Int)], by rw [hr, List.append_assoc]⟩
      · exact ⟨r, hr⟩
theorem kidsL_kid {l : List Nd} {n c : Nat} (h : n < c) (hp : pa l c = (n : Int)) : kidsL l n (c + 1) = kidsL l n c ++ [(c : Int)] := by rw [kidsL, if_pos ⟨h, hp⟩]
theorem kidsL_skip {l : List Nd} {n c : Nat} : ∀ e, c ≤ e → (∀ j, c ≤ j → j < e → pa l j ≠ (n : Int)) → kidsL l n e = kidsL l n c
  | 0, h, _ => by rw [show c = 0 by omega]
  | e + 1, h, hn => by
    by_cases he : c = e + 1
    · subst he; rfl
    · rw [kidsL, if_neg (fun hh => hn e (by omega) (by omega) hh.2)]
      exact kidsL_skip e (by omega) (fun j h1 h2 => hn j h1 (by omega))
/-- The next child is the place itself. -/
theorem kid_here {l : List Nd} {n c e : Nat} (h : n < c) (hc : c < e) (hp : pa l c = (n : Int)) : (kidsL l n e)[(kidsL l n c).length]? = some (c : Int) := by
  obtain ⟨r, hr⟩ := kidsL_mono l n (c + 1) e (by omega)
  rw [hr, kidsL_kid h hp, List.append_assoc, List.getElem?_append_right (Nat.le_refl _)]
  simp
theorem kid_more {l : List Nd} {n c e : Nat} (h : n < c) (hc : c < e) (hp : pa l c = (n : Int)) : (kidsL l n c).length < (kidsL l n e).length := by
  have := kid_here h hc hp
  exact (List.getElem?_eq_some_iff.1 this).1
/-- Behind all below a child: one child more, and the next one, or the end. -/
theorem kid_step {l : List Nd} {n c : Nat} (hh : Hung l l.length) (hg : ∀ i, 1 ≤ i → i < l.length → hangB l i = true) (hl : n < l.length) (h : n < c) (hc : c < endP l n) (hp : pa l c = (n : Int)) :
    n < endP l c ∧ endP l c ≤ endP l n ∧ (kidsL l n (endP l c)).length = (kidsL l n c).length + 1 ∧ (endP l c < endP l n → pa l (endP l c) = (n : Int)) := by
  obtain ⟨e1, e2, _, _⟩ := end_spec hl
  have hcl : c < l.length := by omega
  obtain ⟨a1, a2, a3, a4⟩ := end_spec hcl
  refine ⟨by omega, end_within h hc hl, ?_, fun he => next_kid hh hg h hcl hp he⟩
  rw [kidsL_skip (c := c + 1) (endP l c) (by omega) (fun j h1 h2 hj => by have := a3 j (by omega) h2; omega), kidsL_kid h hp]
  simp
end Go.Proofs.YtchnmkagemmjoaaDoor
namespace Go.Proofs.YtchnmkagemmjoaaDoor
open Go.RowKit
set_option linter.unusedVariables false
set_option maxRecDepth 100000
/-- Those above a node, the nearest first. -/
def upL (l : List Nd) (n : Nat) : List Int :=
  if h : 0 ≤ pa l n ∧ (pa l n).toNat < n then pa l n :: upL l (pa l n).toNat else []
termination_by n
decreasing_by exact h.2
theorem upL_step {l : List Nd} {n : Nat} (h : 0 ≤ pa l n ∧ (pa l n).toNat < n) : upL l n = pa l n :: upL l (pa l n).toNat := by rw [upL, dif_pos h]
theorem upL_stop {l : List Nd} {n : Nat} (h : ¬ (0 ≤ pa l n ∧ (pa l n).toNat < n)) : upL l n = [] := by rw [upL, dif_neg h]
/-- What holds at each round's head: r is done, the node q is the last one looked at. -/
def UpRel (w : World) (l : List Nd) (n : Nat) (v a : Value) (wr : World) : Prop := ∃ (q : Nat) (r : List Int), q ≤ n ∧ a = .int .i64 (pa l q) ∧ upL l n = r ++ upL l q ∧ r.length + q ≤ n ∧ OwnI wr w.heap.size v r ∧ Below w.heap.size w wr
set_option maxHeartbeats 8000000 in
theorem up_doc {B d : Nat} {l : List Nd} (n : Nat) (w : World) (h : DocAt w B d l) (hn : l.length ≤ 100000) (hs : ∀ x ∈ l, Sm x) (hnl : n < l.length) (hh : Hung l l.length) (h0 : pa l 0 = -1) : Calls Tryd.prog 23 #[.pointer (some ⟨d, 0, none⟩), .int .i64 (n : Int)] w fun e w' => ∃ v', e = .returned v' ∧ OwnI w' w.heap.size v' (upL l n) ∧ Below w.heap.size w w' := by
  have HH := Lib.hid (has_doc (n : Int) w h hn hs)
  rw [decide_eq_true (by omega)] at HH
  obtain ⟨v, hc, hv, hdl⟩ := h.list hn hs
  obtain ⟨b, o, cap, rfl, hc1, hc2, hbB, hnd⟩ := hv.open (by intro h; rw [h] at hnl; simp at hnl)
  have HCELL : Hid (∀ k, k < l.length → w.cell? ⟨b, o + k * 8 + 1, none⟩ = some (.int .i64 (pa l k))) := fun k hk => by
    obtain ⟨vd, va, _, d1, _⟩ := (hnd k hk).cells
    rw [pa_at hk]; exact d1
  have HP : Hid (∀ q, q < l.length → 0 ≤ pa l q → (pa l q).toNat < q) := fun q hq hp => by
    rcases Nat.eq_zero_or_pos q with rfl | h1
    · rw [h0] at hp; omega
    · exact (hh.toNat h1 hq).2
  have hd1 := HCELL.out n hnl
  have HN0 : Hid (UpRel w l n (.slice none 0 0) (.int .i64 (pa l n)) w) := ⟨n, [], Nat.le_refl _, rfl, rfl, by simp, OwnI.nil _ _, Below.refl _ _⟩
  obtain ⟨R, hR⟩ : ∃ R, upL l n = R := ⟨_, rfl⟩
  rw [hR]
  have HR := Lib.hid hR
  obtain ⟨m, hmE⟩ : ∃ m, l.length = m := ⟨_, rfl⟩
  rw [hmE] at hn hc1 hnl hc HCELL HP
  have HC := Lib.hid hc
  clear hnd hv h hmE hh h0 hR
  generalize pa l n = p0 at *
  go_enter Tryd.func23, Tryd.ntmps23
  go_wp2_with fail
  refine HH.out.mono ?_
  rintro e w1 ⟨rfl, hw⟩
  rw [hw]
  clear hw
  go_wp2
  go_loopw [5, 6] (UpRel w l n) (fun v a _ => (intOf a + 1).toNat)
  case atStart => exact HN0.out
  case round =>
    obtain ⟨q, r, hq, rfl, hE, hrl, hO, hb⟩ := hrel
    have HO := Lib.hid hO
    have HE := Lib.hid hE
    obtain ⟨A0, c0, hv0, _⟩ := hO.lies
    subst hv0
    clear hO hE
    have HQ := Lib.hid (HP.out q (by omega))
    by_cases hp : 0 ≤ pa l q
    · have hlt := HQ.out hp
      obtain ⟨p, hpE⟩ : ∃ p : Nat, pa l q = (p : Int) := ⟨(pa l q).toNat, by omega⟩
      have HS : Hid (upL l q = (p : Int) :: upL l p) := by
        show _ = _
        rw [upL_step ⟨hp, hlt⟩, hpE]; rfl
      have hpq : p < q := by omega
      have hpm : p < m := by omega
      have hcr : wr.cell? ⟨d, 0, none⟩ = some (.slice (some ⟨b, o, none⟩) m cap) := (hb.cell (p := ⟨d, 0, none⟩) hdl).trans HC.out
      have d1 : wr.cell? ⟨b, o + p * 8 + 1, none⟩ = some (.int .i64 (pa l p)) := (hb.cell (p := ⟨b, o + p * 8 + 1, none⟩) hbB).trans (HCELL.out p hpm)
      have hPP := HP.out p hpm
      have HPP := Lib.hid hPP
      rw [hpE]
      have hrn : r.length + 1 ≤ 1000000 := by omega
      have hbs := hb.size
      clear hp hlt hpE hPP
      have hfin : ∀ v3 w3, OwnI w3 w.heap.size v3 (r ++ [(p : Int)]) → Below w.heap.size wr w3 → UpRel w l n v3 (.int .i64 (pa l p)) w3 := fun v3 w3 hO3 hb3 => ⟨p, r ++ [(p : Int)], by omega, rfl, by rw [HE.out, HS.out]; simp, by simp; omega, hO3, hb.trans hb3⟩
      have HFIN := Lib.hid hfin
      have hms : pa l p + 1 < (p : Int) + 1 := by
        rcases Int.lt_or_le (pa l p) 0 with h | h
        · omega
        · have := HPP.out h; omega
      have HMS := Lib.hid hms
      clear hfin hms
      generalize pa l p = z at *
      have hpz : (0 : Int) ≤ (p : Int) := by omega
      go_wp2_with (at_builtin; refine app_byteI rfl _ _ rfl w.heap.size r _ rfl HO.out hbs _ rfl hrn ?_; intro v3 w3 hO3 hb3; have hcr3 : w3.cell? ⟨d, 0, none⟩ = some (.slice (some ⟨b, o, none⟩) m cap) := (hb3.cell (p := ⟨d, 0, none⟩) hdl).trans hcr; have d13 : w3.cell? ⟨b, o + p * 8 + 1, none⟩ = some (.int .i64 z) := (hb3.cell (p := ⟨b, o + p * 8 + 1, none⟩) hbB).trans d1)
      go_roundw
      case rel => exact HFIN.out _ _ hO3 hb3
      case measure => have := HMS.out; simp [intOf]; omega
    · have hp1 := decide_eq_false hp
      have hRr : R = r := by rw [← HR.out, HE.out, upL_stop (fun h => hp h.1), List.append_nil]
      have HRR := Lib.hid hRr
      clear hRr
      go_wp2
      go_ret
      exact ⟨_, rfl, by rw [HRR.out]; exact HO.out, hb⟩
end Go.Proofs.YtchnmkagemmjoaaDoor
namespace Go.Proofs.YtchnmkagemmjoaaDoor
open Go.RowKit
set_option linter.unusedVariables false
set_option maxRecDepth 100000
theorem chn_up {l : List Nd} {m p a : Nat} (hp : pa l m = (p : Int)) (hlt : p < m) (hne : a ≠ m) : a ∈ chn l m ↔ a ∈ chn l p := by
  rw [chn_step (by rw [hp]; omega), List.mem_cons, hp]
  exact ⟨fun h => h.resolve_left hne, .inr⟩
theorem chn_root {l : List Nd} {m a : Nat} (hp : pa l m = -1) (hne : a ≠ m) : a ∉ chn l m := by
  rw [chn_stop (by rw [hp]; omega), List.mem_singleton]; exact hne
/-- A node's parent: none of the first one, a node ahead of the others. -/
theorem pa_cases {l : List Nd} {b m : Nat} (hh : Hung l (b + 1)) (h0 : pa l 0 = -1) (hm : m ≤ b) : (m = 0 ∧ pa l m = -1) ∨ ∃ p : Nat, pa l m = (p : Int) ∧ p < m := by
  rcases Nat.eq_zero_or_pos m with rfl | h1
  · exact .inl ⟨rfl, h0⟩
  · have := hh m h1 (by omega)
    exact .inr ⟨(pa l m).toNat, by omega, by omega⟩
/-- What holds at each round's head. -/
def AbRel (w : World) (l : List Nd) (a b : Nat) (i : Value) (wr : World) : Prop := wr = w ∧ ((∃ m : Nat, m ≤ b ∧ i = .int .i64 m ∧ (a ∈ chn l b ↔ a ∈ chn l m)) ∨ (i = .int .i64 (-1) ∧ a ∉ chn l b))
set_option maxHeartbeats 4000000 in
theorem above_any (l : List Nd) (v : Value) (a b : Nat) (w : World) (hv : NsAt w w.heap.size v l) (hb : b < l.length) (hh : Hung l (b + 1)) (h0 : pa l 0 = -1) :
    Calls Tryd.prog 37 #[v, .int .i64 (a : Int), .int .i64 (b : Int)] w fun e w' => e = .returned (.bool (decide (a ∈ chn l b))) ∧ w' = w := by
  obtain ⟨bl, o, cap, rfl, hc1, hc2, hbB, hnd⟩ := hv.open (by intro h; subst h; simp at hb)
  have HCELL : Hid (∀ k, k < l.length → w.cell? ⟨bl, o + k * 8 + 1, none⟩ = some (.int .i64 (pa l k))) := fun k hk => by
    obtain ⟨vd, va, _, d1, _⟩ := (hnd k hk).cells
    rw [pa_at hk]; exact d1
  have HPC : Hid (∀ m, m ≤ b → (m = 0 ∧ pa l m = -1) ∨ ∃ p : Nat, pa l m = (p : Int) ∧ p < m) := fun m hm => pa_cases hh h0 hm
  obtain ⟨R, hR⟩ : ∃ R, decide (a ∈ chn l b) = R := ⟨_, rfl⟩
  rw [hR]
  have HR := Lib.hid hR
  obtain ⟨n, hnE⟩ : ∃ n, l.length = n := ⟨_, rfl⟩
  rw [hnE] at hc1 hb HCELL ⊢
  clear hnd hv hnE hh h0 hR
  go_enter Tryd.func37, Tryd.ntmps37
  go_wp2
  go_loopw [2] (AbRel w l a b) (fun i _ => (intOf i + 1).toNat)
  case atStart => exact ⟨rfl, .inl ⟨b, Nat.le_refl _, rfl, Iff.rfl⟩⟩
  case round =>
    obtain ⟨rfl, ⟨m, hm, rfl, hiff⟩ | ⟨rfl, hno⟩⟩ := hrel
    · have HI := Lib.hid hiff
      clear hiff
      have hmn : m < n := by omega
      by_cases ham : a = m
      · have hR1 : R = true := by rw [← HR.out, decide_eq_true_eq, HI.out, ham]; exact chn_self l m
        subst hR1
        have t1 : ((a : Int) == (m : Int)) = true := by simp; omega
        clear ham
        go_wp2
        go_ret
        exact ⟨rfl, rfl⟩
      · have t1 : ((a : Int) == (m : Int)) = false := by rw [beq_eq_false_iff_ne]; omega
        have hc := HCELL.out m hmn
        rcases HPC.out m hm with ⟨rfl, hp⟩ | ⟨p, hp, hlt⟩
        · have HN : Hid (a ∉ chn l b) := fun h => chn_root hp ham (HI.out.1 h)
          rw [hp] at hc
          clear ham hp HI
          go_wp2
          go_roundw
          case rel => exact ⟨rfl, .inr ⟨rfl, HN.out⟩⟩
          case measure => simp [intOf]
        · have HN : Hid (a ∈ chn l b ↔ a ∈ chn l p) := HI.out.trans (chn_up hp hlt ham)
          rw [hp] at hc
          clear ham hp HI
          go_wp2
          go_roundw
          case rel => exact ⟨rfl, .inl ⟨p, by omega, rfl, HN.out⟩⟩
          case measure => simp [intOf]; omega
    · have hR0 : R = false := by rw [← HR.out, decide_eq_false_iff_not]; exact hno
      subst hR0
      clear hno
      go_wp2
      go_ret
      exact ⟨rfl, rfl⟩
/-- The first element whose parent is the Root. -/
def rtopFrom : List Nd → Nat → Nat
  | [], _ => 0
  | x :: r, k => if 0 < k ∧ x.n = 0 ∧ x.k = 1 then k else rtopFrom r (k + 1)
/-- What holds at each round's head. -/
def RtRel (w : World) (l : List Nd) (i : Value) (wr : World) : Prop := ∃ k : Nat, k ≤ l.length ∧ i = .int .i64 k ∧ rtopFrom l 0 = rtopFrom (l.drop k) k ∧ wr = w
set_option maxHeartbeats 8000000 in
theorem rtop_any (l : List Nd) (v : Value) (w : World) (hv : NsAt w w.heap.size v l) : Calls Tryd.prog 16 #[v] w fun e w' => e = .returned (.int .i64 (rtopFrom l 0 : Nat)) ∧ w' = w := by
  have HV := Lib.hid hv
  obtain ⟨A, cap, rfl, hc1, hc2⟩ := hv.slice
  obtain ⟨R, hR⟩ : ∃ R, rtopFrom l 0 = R := ⟨_, rfl⟩
  rw [hR]
  have HR := Lib.hid hR
  obtain ⟨n, hnE⟩ : ∃ n, l.length = n := ⟨_, rfl⟩
  have HN := Lib.hid hnE
  rw [hnE] at hc1 ⊢
  clear hR hnE hv
  go_enter Tryd.func16, Tryd.ntmps16
  go_wp2
  go_loopw [6] (RtRel w l) (fun i _ => n - (intOf i).toNat)
  case atStart => exact ⟨0, Nat.zero_le _, rfl, rfl, rfl⟩
  case round =>
    obtain ⟨k, hk, rfl, hE, rfl⟩ := hrel
    rw [HN.out] at hk
    have HE := Lib.hid hE
    clear hE
    by_cases hlt : k < n
    · have hkl : k < l.length := by rw [HN.out]; exact hlt
      obtain ⟨b, o, cap', e, _, _, hbB, hnd⟩ := HV.out.open (by intro h; rw [h] at hkl; simp at hkl)
      simp only [Value.slice.injEq] at e
      obtain ⟨rfl, _, rfl⟩ := e
      obtain ⟨vd, va, d0, d1, _⟩ := (hnd k hkl).cells
      have hkz : (k : Int) < (n : Int) := by omega
      have HD : Hid (l.drop k = l[k] :: l.drop (k + 1)) := List.drop_eq_getElem_cons hkl
      generalize l[k] = x at *
      clear hnd
      have HNX : Hid (¬ (0 < k ∧ x.n = 0 ∧ x.k = 1) → RtRel wr l (.int .i64 ((k + 1 : Nat) : Int)) wr) := fun h => ⟨k + 1, hkl, rfl, by rw [HE.out, HD.out, rtopFrom, if_neg h], rfl⟩
      by_cases h0 : (k : Int) > 0
      · by_cases h1 : x.n = 0
        · have t1 : (x.n == 0) = true := by simpa using h1
          by_cases h2 : x.k = 1
          · have t2 : (x.k == 1) = true := by simpa using h2
            have hRk : R = k := by rw [← HR.out, HE.out, HD.out, rtopFrom, if_pos ⟨by omega, h1, h2⟩]
            have HRK := Lib.hid hRk
            clear h1 h2 hRk
            go_wp2
            go_ret
            exact ⟨by rw [HRK.out]; rfl, rfl⟩
          · have t2 : (x.k == 1) = false := by simpa using h2
            have HNX' := Lib.hid (HNX.out (fun h => h2 h.2.2))
            clear h1 h2
            go_wp2
            go_roundw
            case rel => exact (show Value.int .i64 ((k + 1 : Nat) : Int) = _ by go_num) ▸ HNX'.out
            case measure => simp [intOf]; omega
        · have t1 : (x.n == 0) = false := by simpa using h1
          have HNX' := Lib.hid (HNX.out (fun h => h1 h.2.1))
          clear h1
          go_wp2
          go_roundw
          case rel => exact (show Value.int .i64 ((k + 1 : Nat) : Int) = _ by go_num) ▸ HNX'.out
          case measure => simp [intOf]; omega
      · have h0d := decide_eq_false h0
        have HNX' := Lib.hid (HNX.out (fun h => h0 (by omega)))
        go_wp2
        go_roundw
        case rel => exact (show Value.int .i64 ((k + 1 : Nat) : Int) = _ by go_num) ▸ HNX'.out
        case measure => simp [intOf]; omega
    · have hkz : ¬ (k : Int) < (n : Int) := by omega
      have hR0 : R = 0 := by rw [← HR.out, HE.out, List.drop_of_length_le (by rw [HN.out]; omega)]; rfl
      subst hR0
      go_wp2
      go_ret
      exact ⟨rfl, rfl⟩
/-- The child of the same parent right ahead of a node; -1: none. -/
def aheadP (l : List Nd) (n : Nat) : Nat → Int
  | 0 => -1
  | m + 1 => if 0 < m ∧ pa l m = pa l n then (m : Int) else aheadP l n m
/-- What holds at each round's head. -/
def AhRel (w : World) (l : List Nd) (n : Nat) (i : Value) (wr : World) : Prop := ∃ m : Nat, m ≤ n ∧ i = .int .i64 ((m : Int) - 1) ∧ aheadP l n n = aheadP l n m ∧ Below w.heap.size w wr
set_option maxHeartbeats 8000000 in
theorem ahead_any (l : List Nd) (v : Value) (n : Nat) (w : World) (hv : NsAt w w.heap.size v l) (hn : n < l.length) (hlen : l.length ≤ 2000000) : Calls Tryd.prog 68 #[v, .int .i64 (n : Int)] w fun e w' => e = .returned (.int .i64 (aheadP l n n)) ∧ Below w.heap.size w w' := by
  obtain ⟨bl, o, cap, rfl, hc1, hc2, hbB, hnd⟩ := hv.open (by intro h; subst h; simp at hn)
  have HCELL : Hid (∀ k, k < l.length → w.cell? ⟨bl, o + k * 8 + 1, none⟩ = some (.int .i64 (pa l k))) := fun k hk => by
    obtain ⟨vd, va, _, d1, _⟩ := (hnd k hk).cells
    rw [pa_at hk]; exact d1
  obtain ⟨R, hR⟩ : ∃ R, aheadP l n n = R := ⟨_, rfl⟩
  rw [hR]
  have HR := Lib.hid hR
  obtain ⟨q, hqE⟩ : ∃ q, l.length = q := ⟨_, rfl⟩
  rw [hqE] at hc1 hn hlen HCELL ⊢
  clear hnd hv hqE hR
  go_enter Tryd.func68, Tryd.ntmps68
  go_wp2
  go_loopw [5] (AhRel w l n) (fun i _ => (intOf i + 1).toNat)
  case atStart => exact ⟨n, Nat.le_refl _, by go_num, rfl, Below.refl _ _⟩
  case round =>
    obtain ⟨m, hm, rfl, hE, hb⟩ := hrel
    have HE := Lib.hid hE
    clear hE
    by_cases h1 : 2 ≤ m
    · obtain ⟨j, rfl⟩ : ∃ j, m = j + 1 := ⟨m - 1, by omega⟩
      have hj : ((j + 1 : Nat) : Int) - 1 = (j : Int) := by omega
      rw [hj]
      have hjq : j < q := by omega
      have hj0 : (j : Int) > 0 := by omega
      have c1 : wr.cell? ⟨bl, o + j * 8 + 1, none⟩ = some (.int .i64 (pa l j)) := (hb.cell (p := ⟨bl, o + j * 8 + 1, none⟩) hbB).trans (HCELL.out j hjq)
      have c2 : wr.cell? ⟨bl, o + n * 8 + 1, none⟩ = some (.int .i64 (pa l n)) := (hb.cell (p := ⟨bl, o + n * 8 + 1, none⟩) hbB).trans (HCELL.out n hn)
      have HS : Hid (aheadP l n (j + 1) = if pa l j = pa l n then (j : Int) else aheadP l n j) := by
        show _ = _
        rw [aheadP]
        by_cases h : pa l j = pa l n
        · rw [if_pos ⟨by omega, h⟩, if_pos h]
        · rw [if_neg (fun hh => h hh.2), if_neg h]
      generalize pa l j = x at *
      generalize pa l n = y at *
      by_cases he : x = y
      · have hRj : R = (j : Int) := by rw [← HR.out, HE.out, HS.out, if_pos he]
        have HRJ := Lib.hid hRj
        have t1 : (x == y) = true := by simpa using he
        clear he hRj hj
        go_wp2_with fail
        go_quiet (fail)
        go_wp2
        go_ret
        exact ⟨by rw [HRJ.out]; rfl, drewN_below hb _⟩
      · have HNX : Hid (aheadP l n n = aheadP l n j) := by show _ = _; rw [HE.out, HS.out, if_neg he]
        have t1 : (x == y) = false := by simpa using he
        clear he hj
        go_wp2_with fail
        go_quiet (fail)
        go_wp2
        go_roundw
        case rel => exact ⟨j, by omega, rfl, HNX.out, drewN_below hb _⟩
        case measure => simp [intOf]
    · have hz : ¬ (m : Int) - 1 > 0 := by omega
      have hzd := decide_eq_false hz
      have hR1 : R = -1 := by
        rw [← HR.out, HE.out]
        rcases (show m = 0 ∨ m = 1 by omega) with rfl | rfl
        · rfl
        · rw [aheadP, if_neg (by omega)]; rfl
      have HRJ := Lib.hid hR1
      clear hR1
      go_wp2
      go_ret
      exact ⟨by rw [HRJ.out]; rfl, hb⟩
end Go.Proofs.YtchnmkagemmjoaaDoor
namespace Go.Proofs.YtchnmkagemmjoaaDoor
open Go.RowKit
set_option linter.unusedVariables false
set_option maxRecDepth 100000
/-- The place behind the last of the first k that n is above of. -/
def rendL (l : List Nd) (n : Nat) : Nat → Nat
  | 0 => 0
  | k + 1 => if n ∈ chn l k then k + 1 else rendL l n k
/-- What holds at each round's head. -/
def ReRel (w : World) (l : List Nd) (n : Nat) (out i : Value) (wr : World) : Prop := ∃ k : Nat, k ≤ l.length ∧ i = .int .i64 k ∧ out = .int .i64 (rendL l n k : Nat) ∧ wr = w
set_option maxHeartbeats 8000000 in
theorem rend_any (l : List Nd) (v : Value) (n : Nat) (w : World) (hv : NsAt w w.heap.size v l) (hn : n < l.length) (hh : Hung l l.length) (h0 : pa l 0 = -1) (hlen : l.length ≤ 2000000) :
    Calls Tryd.prog 26 #[v, .int .i64 (n : Int)] w fun e w' => e = .returned (.int .i64 (rendL l n l.length : Nat)) ∧ w' = w := by
  have HA : Hid (∀ k, k < l.length → Calls Tryd.prog 37 #[v, .int .i64 (n : Int), .int .i64 (k : Int)] w fun e w' => e = .returned (.bool (decide (n ∈ chn l k))) ∧ w' = w) := fun k hk => above_any l v n k w hv hk (hh.mono (by omega)) h0
  obtain ⟨A, cap, rfl, hc1, hc2⟩ := hv.slice
  obtain ⟨R, hR⟩ : ∃ R, rendL l n l.length = R := ⟨_, rfl⟩
  have HR := Lib.hid hR
  rw [hR]
  obtain ⟨q, hqE⟩ : ∃ q, l.length = q := ⟨_, rfl⟩
  have HQ := Lib.hid hqE
  rw [hqE] at hc1 hn hlen HA ⊢
  clear hv hh h0 hqE hR
  go_enter Tryd.func26, Tryd.ntmps26
  go_wp2
  go_loopw [5, 9] (ReRel w l n) (fun _ i _ => q - (intOf i).toNat)
  case atStart => exact ⟨0, Nat.zero_le _, rfl, rfl, rfl⟩
  case round =>
    obtain ⟨k, hk, rfl, rfl, rfl⟩ := hrel
    rw [HQ.out] at hk
    by_cases hlt : k < q
    · have hkz : (k : Int) < (q : Int) := by omega
      have hn0 : (n : Int) ≥ 0 := by omega
      have hnq : (n : Int) < (q : Int) := by omega
      have HAK := Lib.hid (HA.out k hlt)
      have HS : Hid (rendL l n (k + 1) = if n ∈ chn l k then k + 1 else rendL l n k) := rfl
      have hkl : k < l.length := by rw [HQ.out]; exact hlt
      have HKL := Lib.hid hkl
      clear hkl
      by_cases hm : n ∈ chn l k
      · rw [decide_eq_true hm] at HAK
        have HS' : Hid (rendL l n (k + 1) = k + 1) := by show _ = _; rw [HS.out, if_pos hm]
        generalize rendL l n k = r at *
        clear hm HS HA
        go_wp2_with fail
        refine HAK.out.mono ?_
        rintro e w1 ⟨rfl, hw⟩
        rw [hw]
        clear hw
        go_wp2
        go_roundw
        case rel => exact ⟨k + 1, HKL.out, by go_num, by rw [HS'.out]; go_num, rfl⟩
        case measure => simp [intOf]; omega
      · rw [decide_eq_false hm] at HAK
        have HS' : Hid (rendL l n (k + 1) = rendL l n k) := by show _ = _; rw [HS.out, if_neg hm]
        generalize rendL l n k = r at *
        clear hm HS HA
        go_wp2_with fail
        refine HAK.out.mono ?_
        rintro e w1 ⟨rfl, hw⟩
        rw [hw]
        clear hw
        go_wp2
        go_roundw
        case rel => exact ⟨k + 1, HKL.out, by go_num, by rw [HS'.out], rfl⟩
        case measure => simp [intOf]; omega
    · have hkz : ¬ (k : Int) < (q : Int) := by omega
      have hkq : rendL l n k = R := by rw [← HR.out, HQ.out, show k = q by omega]
      rw [hkq]
      clear hkq
      go_wp2
      go_ret
      exact ⟨rfl, rfl⟩
/-- Those of the first k, the first one aside, that hang on n. -/
def rkidsL (l : List Nd) (n : Nat) : Nat → List Int
  | 0 => []
  | k + 1 => if 0 < k ∧ pa l k = (n : Int) then rkidsL l n k ++ [(k : Int)] else rkidsL l n k
theorem rkidsL_len (l : List Nd) (n : Nat) : ∀ k, (rkidsL l n k).length ≤ k
  | 0 => Nat.le_refl _
  | k + 1 => by
    have := rkidsL_len l n k
    unfold rkidsL; split
    · simp; exact this
    · omega
/-- What holds at each round's head. -/
def RkRel (w : World) (l : List Nd) (n : Nat) (v i : Value) (wr : World) : Prop := ∃ k : Nat, k ≤ l.length ∧ i = .int .i64 k ∧ OwnI wr w.heap.size v (rkidsL l n k) ∧ Below w.heap.size w wr
set_option maxHeartbeats 8000000 in
theorem rkids_any (l : List Nd) (v : Value) (n : Nat) (w : World) (hv : NsAt w w.heap.size v l) (hlen : l.length ≤ 100000) :
    Calls Tryd.prog 22 #[v, .int .i64 (n : Int)] w fun e w' => ∃ v', e = .returned v' ∧ OwnI w' w.heap.size v' (rkidsL l n l.length) ∧ Below w.heap.size w w' := by
  have HV := Lib.hid hv
  obtain ⟨A, cap, rfl, hc1, hc2⟩ := hv.slice
  obtain ⟨q, hqE⟩ : ∃ q, l.length = q := ⟨_, rfl⟩
  have HQ := Lib.hid hqE
  rw [hqE] at hc1 hlen ⊢
  clear hv hqE
  go_enter Tryd.func22, Tryd.ntmps22
  go_wp2
  go_loopw [5, 9] (RkRel w l n) (fun _ i _ => q - (intOf i).toNat)
  case atStart => exact ⟨0, Nat.zero_le _, rfl, OwnI.nil _ _, Below.refl _ _⟩
  case round =>
    obtain ⟨k, hk, rfl, hO, hb⟩ := hrel
    rw [HQ.out] at hk
    have HO := Lib.hid hO
    obtain ⟨A0, c0, hv0, _⟩ := hO.lies
    subst hv0
    clear hO
    by_cases hlt : k < q
    · have hkz : (k : Int) < (q : Int) := by omega
      have hkl : k < l.length := by rw [HQ.out]; exact hlt
      have HKL := Lib.hid hkl
      obtain ⟨b, o, cap', e, _, _, hbB, hnd⟩ := HV.out.open (by intro h; rw [h] at hkl; simp at hkl)
      simp only [Value.slice.injEq] at e
      obtain ⟨rfl, _, rfl⟩ := e
      obtain ⟨vd, va, -, d1', -⟩ := (hnd k hkl).cells
      have d1 : wr.cell? ⟨b, o + k * 8 + 1, none⟩ = some (.int .i64 (pa l k)) := by rw [pa_at hkl]; exact (hb.cell (p := ⟨b, o + k * 8 + 1, none⟩) hbB).trans d1'
      have HS : Hid (rkidsL l n (k + 1) = if 0 < k ∧ pa l k = (n : Int) then rkidsL l n k ++ [(k : Int)] else rkidsL l n k) := rfl
      have HKN : Hid ((rkidsL l n k).length ≤ k) := rkidsL_len l n k
      generalize pa l k = x at *
      clear hnd d1' hkl
      by_cases hk0 : (k : Int) > 0
      · by_cases hx : x = (n : Int)
        · have t1 : (x == (n : Int)) = true := by simpa using hx
          have HS' : Hid (rkidsL l n (k + 1) = rkidsL l n k ++ [(k : Int)]) := by show _ = _; rw [HS.out, if_pos ⟨by omega, hx⟩]
          have hkn : (rkidsL l n k).length + 1 ≤ 1000000 := by have := HKN.out; omega
          have hbs := hb.size
          clear hx HS
          go_wp2_with (at_builtin; refine app_byteI rfl _ _ rfl w.heap.size (rkidsL l n k) _ rfl HO.out hbs _ rfl hkn ?_; intro v3 w3 hO3 hb3)
          go_roundw
          case rel => exact ⟨k + 1, HKL.out, by go_num, by rw [HS'.out]; exact hO3, hb.trans hb3⟩
          case measure => simp [intOf]; omega
        · have t1 : (x == (n : Int)) = false := by simpa using hx
          have HS' : Hid (rkidsL l n (k + 1) = rkidsL l n k) := by show _ = _; rw [HS.out, if_neg (fun h => hx h.2)]
          clear hx HS
          go_wp2
          go_roundw
          case rel => exact ⟨k + 1, HKL.out, by go_num, by rw [HS'.out]; exact HO.out, hb⟩
          case measure => simp [intOf]; omega
      · have hk0d := decide_eq_false hk0
        have HS' : Hid (rkidsL l n (k + 1) = rkidsL l n k) := by show _ = _; rw [HS.out, if_neg (fun h => hk0 (by omega))]
        clear HS
        go_wp2
        go_roundw
        case rel => exact ⟨k + 1, HKL.out, by go_num, by rw [HS'.out]; exact HO.out, hb⟩
        case measure => simp [intOf]; omega
    · have hkz : ¬ (k : Int) < (q : Int) := by omega
      have hkq : k = q := by omega
      have HKE := Lib.hid hkq
      clear hkq
      go_wp2
      go_ret
      exact ⟨_, rfl, by rw [← HKE.out]; exact HO.out, hb⟩
set_option maxHeartbeats 8000000 in
theorem rup_any (l : List Nd) (v : Value) (n : Nat) (w : World) (hv : NsAt w w.heap.size v l) (hn : l.length ≤ 100000) (hnl : n < l.length) (hh : Hung l l.length) (h0 : pa l 0 = -1) :
    Calls Tryd.prog 24 #[v, .int .i64 (n : Int)] w fun e w' => ∃ v', e = .returned v' ∧ OwnI w' w.heap.size v' (upL l n) ∧ Below w.heap.size w w' := by
  obtain ⟨b, o, cap, rfl, hc1, hc2, hbB, hnd⟩ := hv.open (by intro h; rw [h] at hnl; simp at hnl)
  have HCELL : Hid (∀ k, k < l.length → w.cell? ⟨b, o + k * 8 + 1, none⟩ = some (.int .i64 (pa l k))) := fun k hk => by
    obtain ⟨vd, va, _, d1, _⟩ := (hnd k hk).cells
    rw [pa_at hk]; exact d1
  have HP : Hid (∀ q, q < l.length → 0 ≤ pa l q → (pa l q).toNat < q) := fun q hq hp => by
    rcases Nat.eq_zero_or_pos q with rfl | h1
    · rw [h0] at hp; omega
    · exact (hh.toNat h1 hq).2
  have hd1 := HCELL.out n hnl
  have HN0 : Hid (UpRel w l n (.slice none 0 0) (.int .i64 (pa l n)) w) := ⟨n, [], Nat.le_refl _, rfl, rfl, by simp, OwnI.nil _ _, Below.refl _ _⟩
  obtain ⟨R, hR⟩ : ∃ R, upL l n = R := ⟨_, rfl⟩
  rw [hR]
  have HR := Lib.hid hR
  obtain ⟨m, hmE⟩ : ∃ m, l.length = m := ⟨_, rfl⟩
  rw [hmE] at hn hc1 hnl HCELL HP ⊢
  have hnz : ¬ (n : Int) < 0 := by omega
  have hnm : ¬ (n : Int) ≥ (m : Int) := by omega
  have hnzd := decide_eq_false hnz
  have hnmd := decide_eq_false hnm
  clear hnd hv hmE hh h0 hR
  generalize pa l n = p0 at *
  go_enter Tryd.func24, Tryd.ntmps24
  go_wp2
  go_loopw [5, 6] (UpRel w l n) (fun v a _ => (intOf a + 1).toNat)
  case atStart => exact HN0.out
  case round =>
    obtain ⟨q, r, hq, rfl, hE, hrl, hO, hb⟩ := hrel
    have HO := Lib.hid hO
    have HE := Lib.hid hE
    obtain ⟨A0, c0, hv0, _⟩ := hO.lies
    subst hv0
    clear hO hE
    have HQ := Lib.hid (HP.out q (by omega))
    by_cases hp : 0 ≤ pa l q
    · have hlt := HQ.out hp
      obtain ⟨p, hpE⟩ : ∃ p : Nat, pa l q = (p : Int) := ⟨(pa l q).toNat, by omega⟩
      have HS : Hid (upL l q = (p : Int) :: upL l p) := by
        show _ = _
        rw [upL_step ⟨hp, hlt⟩, hpE]; rfl
      have hpq : p < q := by omega
      have hpm : p < m := by omega
      have d1 : wr.cell? ⟨b, o + p * 8 + 1, none⟩ = some (.int .i64 (pa l p)) := (hb.cell (p := ⟨b, o + p * 8 + 1, none⟩) hbB).trans (HCELL.out p hpm)
      have hPP := HP.out p hpm
      have HPP := Lib.hid hPP
      rw [hpE]
      have hrn : r.length + 1 ≤ 1000000 := by omega
      have hbs := hb.size
      clear hp hlt hpE hPP
      have hfin : ∀ v3 w3, OwnI w3 w.heap.size v3 (r ++ [(p : Int)]) → Below w.heap.size wr w3 → UpRel w l n v3 (.int .i64 (pa l p)) w3 := fun v3 w3 hO3 hb3 => ⟨p, r ++ [(p : Int)], by omega, rfl, by rw [HE.out, HS.out]; simp, by simp; omega, hO3, hb.trans hb3⟩
      have HFIN := Lib.hid hfin
      have hms : pa l p + 1 < (p : Int) + 1 := by
        rcases Int.lt_or_le (pa l p) 0 with h | h
        · omega
        · have := HPP.out h; omega
      have HMS := Lib.hid hms
      clear hfin hms
      generalize pa l p = z at *
      have hpz : (0 : Int) ≤ (p : Int) := by omega
      go_wp2_with (at_builtin; refine app_byteI rfl _ _ rfl w.heap.size r _ rfl HO.out hbs _ rfl hrn ?_; intro v3 w3 hO3 hb3; have d13 : w3.cell? ⟨b, o + p * 8 + 1, none⟩ = some (.int .i64 z) := (hb3.cell (p := ⟨b, o + p * 8 + 1, none⟩) hbB).trans d1)
      go_roundw
      case rel => exact HFIN.out _ _ hO3 hb3
      case measure => have := HMS.out; simp [intOf]; omega
    · have hp1 := decide_eq_false hp
      have hRr : R = r := by rw [← HR.out, HE.out, upL_stop (fun h => hp h.1), List.append_nil]
      have HRR := Lib.hid hRr
      clear hRr
      go_wp2
      go_ret
      exact ⟨_, rfl, by rw [HRR.out]; exact HO.out, hb⟩
end Go.Proofs.YtchnmkagemmjoaaDoor
namespace Go.Proofs.YtchnmkagemmjoaaDoor
set_option linter.unusedVariables false
theorem chn_trans {l : List Nd} {a b : Nat} : ∀ c, b ∈ chn l c → a ∈ chn l b → a ∈ chn l c := by
  intro c
  induction c using Nat.strongRecOn with
  | ind c ih =>
    intro hb ha
    by_cases hp : 0 ≤ pa l c ∧ (pa l c).toNat < c
    · rw [chn_step hp, List.mem_cons] at hb
      rcases hb with rfl | hb
      · exact ha
      · rw [chn_step hp, List.mem_cons]
        exact .inr (ih _ hp.2 hb ha)
    · rw [chn_stop hp, List.mem_singleton] at hb
      subst hb; exact ha
theorem chn_in {l : List Nd} {n : Nat} (hh : Hung l l.length) (hl : n < l.length) : ∀ j, n ≤ j → j < endP l n → n ∈ chn l j := by
  obtain ⟨e1, e2, e3, e4⟩ := end_spec hl
  intro j
  induction j using Nat.strongRecOn with
  | ind j ih =>
    intro h1 h2
    by_cases he : n = j
    · subst he; exact chn_self l n
    · have hp := e3 j (by omega) h2
      have hl' := hh j (by omega) (by omega)
      refine (mem_step hh (show j < l.length by omega) (by omega)).2 (ih _ (by omega) (by omega) (by omega))
theorem chn_out {l : List Nd} {n : Nat} (hh : Hung l l.length) (hg : ∀ i, 1 ≤ i → i < l.length → hangB l i = true) (hl : n < l.length) : ∀ j, endP l n ≤ j → j < l.length → n ∉ chn l j := by
  obtain ⟨e1, e2, e3, e4⟩ := end_spec hl
  intro j
  induction j using Nat.strongRecOn with
  | ind j ih =>
    intro h1 h2 hm
    have hm' := (mem_step hh h2 (by omega)).1 hm
    by_cases he : j = endP l n
    · subst he
      have := e4 h2
      have hj := hh _ (by omega) h2
      have := chn_le hm'
      omega
    · exact ih (j - 1) (by omega) (by omega) (by omega) (chn_trans _ (hang_mem (hg j (by omega) h2)) hm')
theorem rend_eq {l : List Nd} {n : Nat} (hh : Hung l l.length) (hg : ∀ i, 1 ≤ i → i < l.length → hangB l i = true) (hl : n < l.length) : rendL l n l.length = endP l n := by
  obtain ⟨e1, e2, e3, e4⟩ := end_spec hl
  have h1 : ∀ k, endP l n ≤ k → k ≤ l.length → rendL l n k = rendL l n (endP l n) := fun k => by
    induction k with
    | zero => intro h _; rw [show endP l n = 0 by omega]
    | succ k ih =>
      intro ha hb
      by_cases he : endP l n = k + 1
      · rw [he]
      · rw [rendL, if_neg (chn_out hh hg hl k (by omega) (by omega))]
        exact ih (by omega) (by omega)
  rw [h1 _ e2 (Nat.le_refl _)]
  obtain ⟨k, hk⟩ : ∃ k, endP l n = k + 1 := ⟨endP l n - 1, by omega⟩
  rw [hk, rendL, if_pos (chn_in hh hl k (by omega) (by omega))]
theorem rkids_eq {l : List Nd} {n : Nat} (hh : Hung l l.length) (hg : ∀ i, 1 ≤ i → i < l.length → hangB l i = true) (hl : n < l.length) : rkidsL l n l.length = kidsL l n (endP l n) := by
  obtain ⟨e1, e2, e3, e4⟩ := end_spec hl
  have h0 : ∀ k, k ≤ l.length → rkidsL l n k = kidsL l n k := fun k => by
    induction k with
    | zero => intro _; rfl
    | succ k ih =>
      intro hk
      rw [rkidsL, kidsL, ih (by omega)]
      by_cases hp : pa l k = (n : Int)
      · by_cases hk0 : 0 < k
        · have := hh k (by omega) (by omega)
          rw [if_pos ⟨hk0, hp⟩, if_pos ⟨by omega, hp⟩]
        · rw [if_neg (fun h => hk0 h.1), if_neg (fun h => by omega)]
      · rw [if_neg (fun h => hp h.2), if_neg (fun h => hp h.2)]
  rw [h0 _ (Nat.le_refl _)]
  refine kidsL_skip _ e2 (fun j h1 h2 hp => ?_)
  refine chn_out hh hg hl j h1 h2 ?_
  have hj := hh j (by omega) h2
  refine (mem_step hh h2 (by omega)).2 ?_
  rw [hp]
  exact chn_self l n
theorem top_from : ∀ (r : List Nd) (k : Nat), (∀ i (hi : i < r.length), r[i].k = 1 → (∀ j (hj : j < r.length), j < i → r[j].k ≠ 1) → 0 < k + i ∧ r[i].n = 0) → rtopFrom r k = topFrom r k
  | [], _, _ => rfl
  | x :: r, k, h => by
    rw [rtopFrom, topFrom]
    by_cases hx : x.k = 1
    · have := h 0 (by simp) hx (fun j _ hj => by omega)
      simp only [List.getElem_cons_zero] at this
      rw [if_pos hx, if_pos ⟨by omega, this.2, hx⟩]
    · rw [if_neg hx, if_neg (fun hh => hx hh.2.2)]
      refine top_from r (k + 1) (fun i hi h1 h2 => ?_)
      have := h (i + 1) (by simp; omega) (by simpa using h1) (fun j hj hji => by
        match j with
        | 0 => simpa using hx
        | j + 1 => simpa using h2 j (by simpa using hj) (by omega))
      simp only [List.getElem_cons_succ] at this
      exact ⟨by omega, this.2⟩
theorem formed_nodes {l : List Nd} (h : formedP l = true) : (∃ h0 : 0 < l.length, l[0].k = 0) ∧ ∀ i (hi : i < l.length), 1 ≤ i → nodeB l[i] = true := by
  match l, h with
  | x :: r, h =>
    rw [show formedP (x :: r) = (rootB x && (placedB (x :: r) && (r.all nodeB && namesB (x :: r)))) from rfl] at h
    simp only [Bool.and_eq_true] at h
    refine ⟨⟨by simp, ?_⟩, fun i hi h1 => ?_⟩
    · have := h.1
      unfold rootB at this
      simp only [Bool.and_eq_true, beq_iff_eq] at this
      simpa using this.1
    · obtain ⟨j, rfl⟩ : ∃ j, i = j + 1 := ⟨i - 1, by omega⟩
      have := List.all_eq_true.1 h.2.2.1 (r[j]'(by simpa using hi)) (List.getElem_mem _)
      simpa using this
/-- The first element hangs on the Root. -/
theorem rtop_eq {l : List Nd} (h : formedP l = true) : rtopFrom l 0 = topP l := by
  obtain ⟨_, _, hh, hg⟩ := formed_hung h
  obtain ⟨⟨h0, hk0⟩, hn⟩ := formed_nodes h
  refine top_from l 0 (fun i hi h1 h2 => ?_)
  have hi0 : 0 < i := by
    rcases Nat.eq_zero_or_pos i with rfl | h
    · rw [hk0] at h1; cases h1
    · exact h
  refine ⟨by omega, ?_⟩
  have hgi := hg i hi0 hi
  have hhi := hh i hi0 hi
  unfold hangB at hgi
  simp only [Bool.and_eq_true, Bool.or_eq_true, beq_iff_eq] at hgi
  have hpl : (pa l i).toNat < l.length := by omega
  have hk := hgi.2
  rw [kd_at hpl] at hk
  have hk' := hk.resolve_right (h2 _ hpl (by omega))
  rw [← pa_at hi]
  rcases Nat.eq_zero_or_pos (pa l i).toNat with hz | hz
  · omega
  · have := hn _ hpl hz
    unfold nodeB at this
    rw [hk'] at this
    simp at this
end Go.Proofs.YtchnmkagemmjoaaDoor
namespace Go.Proofs.YtchnmkagemmjoaaDoor
open Go.RowKit
set_option linter.unusedVariables false
set_option maxRecDepth 100000
/-- What holds at each round's head. -/
def InsRel (w : World) (n : Nat) (i : Value) (wr : World) : Prop := ∃ k : Nat, k ≤ n ∧ i = .int .i64 k ∧ Below w.heap.size w wr
set_option maxHeartbeats 8000000 in
theorem ints_any (L : List Int) (A1 A2 : Option Addr) (c1 c2 : Nat) (w : World) (h1 : Lies w w.heap.size A1 (i64c L)) (h2 : Lies w w.heap.size A2 (i64c L)) (hl1 : L.length ≤ c1) (hc1 : c1 ≤ 9223372036854775807) (hl2 : L.length ≤ c2) (hc2 : c2 ≤ 9223372036854775807) :
    Calls Tryd.prog 20 #[.slice A1 L.length c1, .slice A2 L.length c2] w fun e w' => e = .returned (.bool true) ∧ Below w.heap.size w w' := by
  have H1 := Lib.hid h1
  have H2 := Lib.hid h2
  obtain ⟨n, hnE⟩ : ∃ n, L.length = n := ⟨_, rfl⟩
  have HN := Lib.hid hnE
  rw [hnE] at hl1 hl2 ⊢
  have hnn : ((n : Int) != (n : Int)) = false := by simp
  clear h1 h2 hnE
  go_enter Tryd.func20, Tryd.ntmps20
  go_wp2
  go_loopw [13] (InsRel w n) (fun i _ => n - (intOf i).toNat)
  case atStart => exact ⟨0, Nat.zero_le _, rfl, Below.refl _ _⟩
  case round =>
    obtain ⟨k, hk, rfl, hb⟩ := hrel
    by_cases hlt : k < n
    · have hkl : k < L.length := by rw [HN.out]; exact hlt
      have hki : k < (i64c L).length := by rw [i64c_length]; exact hkl
      obtain ⟨b1, o1, rfl, hB1, hc1'⟩ := H1.out (by intro h; rw [h] at hki; simp at hki)
      obtain ⟨b2, o2, rfl, hB2, hc2'⟩ := H2.out (by intro h; rw [h] at hki; simp at hki)
      have d1 : wr.cell? ⟨b1, o1 + k, none⟩ = some (.int .i64 L[k]) := by
        have := (hb.cell (p := ⟨b1, o1 + k, none⟩) hB1).trans (hc1' k hki)
        simpa [i64c] using this
      have d2 : wr.cell? ⟨b2, o2 + k, none⟩ = some (.int .i64 L[k]) := by
        have := (hb.cell (p := ⟨b2, o2 + k, none⟩) hB2).trans (hc2' k hki)
        simpa [i64c] using this
      clear hc1' hc2' hki
      generalize L[k] = z at *
      have hzz : (z != z) = false := by simp
      have hkz : (k : Int) < (n : Int) := by omega
      go_wp2_with fail
      go_quiet (fail)
      go_wp2
      go_roundw
      case rel => exact ⟨k + 1, hlt, by go_num, drewN_below hb _⟩
      case measure => simp [intOf]; omega
    · have hkz : ¬ (k : Int) < (n : Int) := by omega
      go_wp2
      go_ret
      exact ⟨rfl, hb⟩
theorem two_boxes (w : World) (C1 C2 : Array Value) (t1 t2 : TypeId) (z1 z2 : Nat × Nat) (j : Nat) : ((w.alloc (.cells C1 t1 z1)).alloc (.cells C2 t2 z2)).cell? ⟨w.heap.size, j, none⟩ = C1[j]? ∧ ((w.alloc (.cells C1 t1 z1)).alloc (.cells C2 t2 z2)).cell? ⟨w.heap.size + 1, j, none⟩ = C2[j]? := by
  have h2 := heap_alloc_last (w.alloc (.cells C1 t1 z1)) (.cells C2 t2 z2)
  rw [show (w.alloc (.cells C1 t1 z1)).heap.size = w.heap.size + 1 by simp] at h2
  refine ⟨?_, cell_of_row _ (w.heap.size + 1) j _ _ _ h2⟩
  have hb : Below (w.alloc (.cells C1 t1 z1)).heap.size (w.alloc (.cells C1 t1 z1)) ((w.alloc (.cells C1 t1 z1)).alloc (.cells C2 t2 z2)) := (Below.refl _ _).alloc (Nat.le_refl _) _
  rw [hb.cell (p := ⟨w.heap.size, j, none⟩) (by simp)]
  exact cell_of_row _ w.heap.size j _ _ _ (heap_alloc_last w _)
/-- What holds at each round's head: the two nodes' lists lie in their boxes. -/
def OnRel (w : World) (n : Nat) (vd va vd' va' : Value) (i : Value) (wr : World) : Prop := ∃ k : Nat, k ≤ n ∧ i = .int .i64 k ∧ wr.cell? ⟨w.heap.size, 6, none⟩ = some vd ∧ wr.cell? ⟨w.heap.size, 7, none⟩ = some va ∧ wr.cell? ⟨w.heap.size + 1, 6, none⟩ = some vd' ∧ wr.cell? ⟨w.heap.size + 1, 7, none⟩ = some va' ∧ Below w.heap.size w wr
/-- What holds at each round's head of the second rounds. -/
def On2Rel (w : World) (n : Nat) (va va' : Value) (i : Value) (wr : World) : Prop := ∃ k : Nat, k ≤ n ∧ i = .int .i64 k ∧ wr.cell? ⟨w.heap.size, 7, none⟩ = some va ∧ wr.cell? ⟨w.heap.size + 1, 7, none⟩ = some va' ∧ Below w.heap.size w wr
set_option maxHeartbeats 8000000 in
theorem one_any (x : Nd) (va vb : Value) (w : World) (ha : NdV w w.heap.size va x) (hb : NdV w w.heap.size vb x) :
    Calls Tryd.prog 18 #[va, vb] w fun e w' => e = .returned (.bool true) ∧ Below w.heap.size w w' := by
  obtain ⟨d1, a1, rfl, hd1, ha1⟩ := ha
  obtain ⟨d2, a2, rfl, hd2, ha2⟩ := hb
  have HD1 := Lib.hid hd1
  have HD2 := Lib.hid hd2
  have HA1 := Lib.hid ha1
  have HA2 := Lib.hid ha2
  obtain ⟨D1, e1, rfl, _, _, _⟩ := hd1
  obtain ⟨D2, e2, rfl, _, _, _⟩ := hd2
  obtain ⟨T1, f1, rfl, _, _, _⟩ := ha1
  obtain ⟨T2, f2, rfl, _, _, _⟩ := ha2
  obtain ⟨nd, hnd⟩ : ∃ n, x.ds.length = n := ⟨_, rfl⟩
  obtain ⟨na, hna⟩ : ∃ n, x.ats.length = n := ⟨_, rfl⟩
  have HND := Lib.hid hnd
  have HNA := Lib.hid hna
  rw [hnd, hna]
  have t1 : (x.k != x.k) = false := by simp
  have t2 : (x.n != x.n) = false := by simp
  have t3 : ((nd : Int) != (nd : Int)) = false := by simp
  have t4 : ((na : Int) != (na : Int)) = false := by simp
  clear hnd hna
  go_enter Tryd.func18, Tryd.ntmps18
  go_wp2
  go_loopw [68] (OnRel w nd (.slice D1 nd e1) (.slice T1 na f1) (.slice D2 nd e2) (.slice T2 na f2)) (fun i _ => nd - (intOf i).toNat)
  case atStart => exact ⟨0, Nat.zero_le _, rfl, (two_boxes _ _ _ _ _ _ _ 6).1, (two_boxes _ _ _ _ _ _ _ 7).1, (two_boxes _ _ _ _ _ _ _ 6).2, (two_boxes _ _ _ _ _ _ _ 7).2, ((Below.refl _ _).alloc (Nat.le_refl _) _).alloc (by simp) _⟩
  case round =>
    obtain ⟨k, hk, rfl, q1, q2, q3, q4, hb⟩ := hrel
    by_cases hlt : k < nd
    · have hkl : k < x.ds.length := by rw [HND.out]; exact hlt
      obtain ⟨b1, o1, cap1, r1, _, _, hB1, hc1⟩ := HD1.out.open (by omega)
      obtain ⟨b2, o2, cap2, r2, _, _, hB2, hc2⟩ := HD2.out.open (by omega)
      rw [HND.out] at r1 r2
      simp only [Value.slice.injEq] at r1 r2
      obtain ⟨rfl, _, rfl⟩ := r1
      obtain ⟨rfl, _, rfl⟩ := r2
      obtain ⟨m1, m2⟩ := hc1 k hkl
      obtain ⟨m3, m4⟩ := hc2 k hkl
      replace m1 := (hb.cell (p := ⟨b1, o1 + k * 2, none⟩) hB1).trans m1
      replace m2 := (hb.cell (p := ⟨b1, o1 + k * 2 + 1, none⟩) hB1).trans m2
      replace m3 := (hb.cell (p := ⟨b2, o2 + k * 2, none⟩) hB2).trans m3
      replace m4 := (hb.cell (p := ⟨b2, o2 + k * 2 + 1, none⟩) hB2).trans m4
      clear hc1 hc2
      generalize x.ds[k] = y at *
      obtain ⟨P, U⟩ := y
      dsimp only at m1 m2 m3 m4
      have hkz : (k : Int) < (nd : Int) := by omega
      go_wp2_with fail
      go_quiet (fail)
      go_wp2
      go_roundw
      case rel => exact ⟨k + 1, hlt, by go_num, q1, q2, q3, q4, drewN_below hb _⟩
      case measure => simp [intOf]; omega
    · have hkz : ¬ (k : Int) < (nd : Int) := by omega
      clear q1 q3
      go_wp2
      go_loopw [86] (On2Rel w na (.slice T1 na f1) (.slice T2 na f2)) (fun i _ => na - (intOf i).toNat)
      case atStart => exact ⟨0, Nat.zero_le _, rfl, q2, q4, hb⟩
      case round =>
        clear hb q2 q4 hkz hlt hk
        obtain ⟨k, hk, rfl, q2, q4, hb⟩ := hrel
        by_cases hlt : k < na
        · have hkl : k < x.ats.length := by rw [HNA.out]; exact hlt
          obtain ⟨b1, o1, cap1, r1, _, _, hB1, hc1⟩ := HA1.out.open (by omega)
          obtain ⟨b2, o2, cap2, r2, _, _, hB2, hc2⟩ := HA2.out.open (by omega)
          rw [HNA.out] at r1 r2
          simp only [Value.slice.injEq] at r1 r2
          obtain ⟨rfl, _, rfl⟩ := r1
          obtain ⟨rfl, _, rfl⟩ := r2
          obtain ⟨m1, m2, m3, m4⟩ := hc1 k hkl
          obtain ⟨m5, m6, m7, m8⟩ := hc2 k hkl
          replace m1 := (hb.cell (p := ⟨b1, o1 + k * 4, none⟩) hB1).trans m1
          replace m2 := (hb.cell (p := ⟨b1, o1 + k * 4 + 1, none⟩) hB1).trans m2
          replace m3 := (hb.cell (p := ⟨b1, o1 + k * 4 + 2, none⟩) hB1).trans m3
          replace m4 := (hb.cell (p := ⟨b1, o1 + k * 4 + 3, none⟩) hB1).trans m4
          replace m5 := (hb.cell (p := ⟨b2, o2 + k * 4, none⟩) hB2).trans m5
          replace m6 := (hb.cell (p := ⟨b2, o2 + k * 4 + 1, none⟩) hB2).trans m6
          replace m7 := (hb.cell (p := ⟨b2, o2 + k * 4 + 2, none⟩) hB2).trans m7
          replace m8 := (hb.cell (p := ⟨b2, o2 + k * 4 + 3, none⟩) hB2).trans m8
          clear hc1 hc2
          generalize x.ats[k] = y at *
          obtain ⟨P, L, U, V⟩ := y
          dsimp only at m1 m2 m3 m4 m5 m6 m7 m8
          have hkz : (k : Int) < (na : Int) := by omega
          go_wp2_with fail
          go_quiet (fail)
          go_wp2
          go_roundw
          case rel => exact ⟨k + 1, hlt, by go_num, q2, q4, drewN_below hb _⟩
          case measure => simp [intOf]; omega
        · have hkz : ¬ (k : Int) < (na : Int) := by omega
          go_wp2
          go_ret
          exact ⟨rfl, hb⟩
/-- What holds at each round's head. -/
def SmRel (w : World) (n : Nat) (i : Value) (wr : World) : Prop := ∃ k : Nat, k ≤ n ∧ i = .int .i64 k ∧ Below w.heap.size w wr
set_option maxHeartbeats 8000000 in
theorem same_any (l : List Nd) (v1 v2 : Value) (w : World) (h1 : NsAt w w.heap.size v1 l) (h2 : NsAt w w.heap.size v2 l) :
    Calls Tryd.prog 17 #[v1, v2] w fun e w' => e = .returned (.bool true) ∧ Below w.heap.size w w' := by
  have HO : Hid (∀ x wr va vb, Below w.heap.size w wr → NdV w w.heap.size va x → NdV w w.heap.size vb x → Calls Tryd.prog 18 #[va, vb] wr fun e w' => e = .returned (.bool true) ∧ Below wr.heap.size wr w') := fun x wr va vb hb ha hb' => one_any x va vb wr (ha.later hb) (hb'.later hb)
  have H1 := Lib.hid h1
  have H2 := Lib.hid h2
  obtain ⟨A1, c1, rfl, hl1, hm1⟩ := h1.slice
  obtain ⟨A2, c2, rfl, hl2, hm2⟩ := h2.slice
  obtain ⟨n, hnE⟩ : ∃ n, l.length = n := ⟨_, rfl⟩
  have HN := Lib.hid hnE
  rw [hnE] at hl1 hl2 ⊢
  have hnn : ((n : Int) != (n : Int)) = false := by simp
  clear h1 h2 hnE
  go_enter Tryd.func17, Tryd.ntmps17
  go_wp2
  go_loopw [13] (SmRel w n) (fun i _ => n - (intOf i).toNat)
  case atStart => exact ⟨0, Nat.zero_le _, rfl, Below.refl _ _⟩
  case round =>
    obtain ⟨k, hk, rfl, hb⟩ := hrel
    by_cases hlt : k < n
    · have hkl : k < l.length := by rw [HN.out]; exact hlt
      obtain ⟨b1, o1, cap1, r1, _, _, hB1, hnd1⟩ := H1.out.open (by intro h; rw [h] at hkl; simp at hkl)
      obtain ⟨b2, o2, cap2, r2, _, _, hB2, hnd2⟩ := H2.out.open (by intro h; rw [h] at hkl; simp at hkl)
      simp only [Value.slice.injEq] at r1 r2
      obtain ⟨rfl, _, rfl⟩ := r1
      obtain ⟨rfl, _, rfl⟩ := r2
      obtain ⟨vd, va, m0, m1, m2, m3, m4, m5, m6, m7, hds, has⟩ := (hnd1 k hkl).cells
      obtain ⟨vd', va', p0, p1, p2, p3, p4, p5, p6, p7, hds', has'⟩ := (hnd2 k hkl).cells
      have HC : Hid (∀ wr, Below w.heap.size w wr → Calls Tryd.prog 18 #[.agg #[.int .i64 l[k].k, .int .i64 l[k].n, .string l[k].p, .string l[k].l, .string l[k].u, .string l[k].t, vd, va], .agg #[.int .i64 l[k].k, .int .i64 l[k].n, .string l[k].p, .string l[k].l, .string l[k].u, .string l[k].t, vd', va']] wr fun e w' => e = .returned (.bool true) ∧ Below wr.heap.size wr w') := fun wr hb => HO.out l[k] wr _ _ hb ⟨vd, va, rfl, hds, has⟩ ⟨vd', va', rfl, hds', has'⟩
      obtain ⟨T1, f1, rfl, -⟩ := hds
      obtain ⟨T2, f2, rfl, -⟩ := has
      obtain ⟨T3, f3, rfl, -⟩ := hds'
      obtain ⟨T4, f4, rfl, -⟩ := has'
      replace m0 := (hb.cell (p := ⟨b1, o1 + k * 8, none⟩) hB1).trans m0
      replace m1 := (hb.cell (p := ⟨b1, o1 + k * 8 + 1, none⟩) hB1).trans m1
      replace m2 := (hb.cell (p := ⟨b1, o1 + k * 8 + 2, none⟩) hB1).trans m2
      replace m3 := (hb.cell (p := ⟨b1, o1 + k * 8 + 3, none⟩) hB1).trans m3
      replace m4 := (hb.cell (p := ⟨b1, o1 + k * 8 + 4, none⟩) hB1).trans m4
      replace m5 := (hb.cell (p := ⟨b1, o1 + k * 8 + 5, none⟩) hB1).trans m5
      replace m6 := (hb.cell (p := ⟨b1, o1 + k * 8 + 6, none⟩) hB1).trans m6
      replace m7 := (hb.cell (p := ⟨b1, o1 + k * 8 + 7, none⟩) hB1).trans m7
      replace p0 := (hb.cell (p := ⟨b2, o2 + k * 8, none⟩) hB2).trans p0
      replace p1 := (hb.cell (p := ⟨b2, o2 + k * 8 + 1, none⟩) hB2).trans p1
      replace p2 := (hb.cell (p := ⟨b2, o2 + k * 8 + 2, none⟩) hB2).trans p2
      replace p3 := (hb.cell (p := ⟨b2, o2 + k * 8 + 3, none⟩) hB2).trans p3
      replace p4 := (hb.cell (p := ⟨b2, o2 + k * 8 + 4, none⟩) hB2).trans p4
      replace p5 := (hb.cell (p := ⟨b2, o2 + k * 8 + 5, none⟩) hB2).trans p5
      replace p6 := (hb.cell (p := ⟨b2, o2 + k * 8 + 6, none⟩) hB2).trans p6
      replace p7 := (hb.cell (p := ⟨b2, o2 + k * 8 + 7, none⟩) hB2).trans p7
      generalize l[k] = x at *
      clear hnd1 hnd2
      have hkz : (k : Int) < (n : Int) := by omega
      go_wp2_with fail
      go_still_tail 8, (by kernel_rfl)
      change wpList _ _ _ _ _ wr.drew
      have hbd : Below w.heap.size w wr.drew := drewN_below hb 1
      generalize wr.drew = w2 at *
      clear m0 m1 m2 m3 m4 m5 m6 m7 p0 p1 p2 p3 p4 p5 p6 p7 hb
      go_wp2_with fail
      refine (HC.out _ hbd).mono ?_
      rintro e w3 ⟨rfl, hb3⟩
      go_wp2
      go_roundw
      case rel => exact ⟨k + 1, hlt, by go_num, hbd.trans (hb3.mono hbd.size)⟩
      case measure => simp [intOf]; omega
    · have hkz : ¬ (k : Int) < (n : Int) := by omega
      go_wp2
      go_ret
      exact ⟨rfl, hb⟩
end Go.Proofs.YtchnmkagemmjoaaDoor
namespace Go.Proofs.YtchnmkagemmjoaaDoor
open Go.RowKit
set_option linter.unusedVariables false
set_option maxRecDepth 100000
set_option maxHeartbeats 8000000 in
theorem one_zero (w : World) : Calls Tryd.prog 18 #[zeroN, zeroN] w fun e w' => e = .returned (.bool true) ∧ Below w.heap.size w w' := by
  unfold zeroN
  go_enter Tryd.func18, Tryd.ntmps18
  go_wp2
  refine wp_loop_rounds 1 ?_
  rw [rounds_succ]
  go_wp2
  refine wp_loop_rounds 1 ?_
  rw [rounds_succ]
  go_wp2
  go_ret
  exact ⟨rfl, ((Below.refl _ _).alloc (Nat.le_refl _) _).alloc (by simp) _⟩
set_option maxHeartbeats 8000000 in
theorem nil_law (z : Int) (w : World) (hW : Wd w) : Calls Tryd.prog 6 #[.int .i64 z] w fun e w' => e = .returned (.bool true) ∧ Below w.heap.size w w' := by
  have HA := Lib.hid (awake_any w hW)
  have HH : ∀ w, Hid (Calls Tryd.prog 36 #[.pointer none, .int .i64 z] w fun e w' => e = .returned (.bool false) ∧ w' = w) := fun w => has_nil z w
  have HN := Lib.hid (fun w => node_none (.pointer none) z w HH)
  have HE := Lib.hid (fun w => end_none (.pointer none) z w (HH w))
  have HK := Lib.hid (fun w => kids_none (.pointer none) z w (HH w))
  have HU := Lib.hid (fun w => up_none (.pointer none) z w (HH w))
  have HL := Lib.hid (fun w => len_nil w)
  have HT := Lib.hid (fun w => top_nil w)
  have HO := Lib.hid (fun w => one_zero w)
  have HNS := Lib.hid (fun w => nodes_nil w)
  have hzn : (Value.agg #[.int .i64 0, .int .i64 0, .string ⟨#[]⟩, .string ⟨#[]⟩, .string ⟨#[]⟩, .string ⟨#[]⟩, .slice none 0 0, .slice none 0 0]) = zeroN := rfl
  unfold zeroN at HN HO
  clear hW HH
  go_enter Tryd.func6, Tryd.ntmps6
  go_wp2_with fail
  refine HA.out.mono ?_
  rintro e w1 ⟨rfl, hb1⟩
  clear hzn
  go_wp2_with fail
  refine (HL.out w1).mono ?_
  rintro e w2 ⟨rfl, hw⟩
  rw [hw]
  clear hw
  go_wp2_with fail
  refine (HT.out w1).mono ?_
  rintro e w3 ⟨rfl, hb3⟩
  have hbw := hb1.trans (hb3.mono hb1.size)
  go_wp2_with fail
  refine (HN.out w3).mono ?_
  rintro e w4 ⟨rfl, hb4⟩
  have hbw4 := hbw.trans (hb4.mono hbw.size)
  go_wp2_with fail
  refine (HO.out w4).mono ?_
  rintro e w5 ⟨rfl, hb5⟩
  have hbw5 := hbw4.trans (hb5.mono hbw4.size)
  clear hb1 hb3 hb4 hb5 hbw hbw4
  go_wp2_with fail
  refine (HK.out w5).mono ?_
  rintro e w6 ⟨rfl, hw⟩
  rw [hw]
  clear hw
  go_wp2_with fail
  refine (HU.out w5).mono ?_
  rintro e w6 ⟨rfl, hw⟩
  rw [hw]
  clear hw
  go_wp2_with fail
  refine (HE.out w5).mono ?_
  rintro e w6 ⟨rfl, hw⟩
  rw [hw]
  clear hw
  go_wp2_with fail
  refine (HNS.out w5).mono ?_
  rintro e w6 ⟨A, c, rfl, hb6⟩
  go_wp2
  go_ret
  exact ⟨rfl, hbw5.trans (hb6.mono hbw5.size)⟩
end Go.Proofs.YtchnmkagemmjoaaDoor
namespace Go.Proofs.YtchnmkagemmjoaaDoor
open Go.RowKit
set_option linter.unusedVariables false
set_option maxRecDepth 100000
theorem wpOp_if {P : Program} {ops : Array Oper} {Q : Exit → Act → World → Prop} {i j : Nat} {b : Bool} {o : Oper} {a : Act} {w : World} {K : Act → World → Prop} (ho : ops[i]? = some o) (hg : o.guard = some (j, b)) (hy : yielded ops a.tmps j = some b) (h : o.wp P a w K Q) : wpOp P ops Q i K a w := by
  unfold wpOp
  rw [ho]
  simp only [Region.wanted, hg, hy, beq_self_eq_true, if_true]
  exact .inl h
theorem yielded_of {ops : Array Oper} {tmps : Array Value} {j d : Nat} {o : Oper} {v : Value} {b : Bool} (ho : ops[j]? = some o) (hd : o.dst = some d) (ht : tmps[d]? = some v) (hv : v = .bool b) : yielded ops tmps j = some b := by
  unfold yielded
  rw [ho, Option.bind_some, hd, Option.bind_some, ht, hv]
/-- A slice of these numbers, somewhere. -/
def InAt (w : World) (v : Value) (L : List Int) : Prop := ∃ A c, v = .slice A L.length c ∧ L.length ≤ c ∧ c ≤ 9223372036854775807 ∧ Lies w w.heap.size A (i64c L)
theorem InAt.later {w w' : World} {v : Value} {L : List Int} (h : InAt w v L) (hb : Below w.heap.size w w') : InAt w' v L := by
  obtain ⟨A, c, e, h1, h2, h3⟩ := h
  exact ⟨A, c, e, h1, h2, (h3.below hb).mono hb.size⟩
theorem OwnI.inAt {w : World} {B : Nat} {v : Value} {L : List Int} (h : OwnI w B v L) : InAt w v L := by
  obtain ⟨A, c, e, h1, h2, h3⟩ := h.lies
  exact ⟨A, c, e, h1, h2, h3⟩
theorem ints_at_any {w : World} {v1 v2 : Value} {L : List Int} (h1 : InAt w v1 L) (h2 : InAt w v2 L) : Calls Tryd.prog 20 #[v1, v2] w fun e w' => e = .returned (.bool true) ∧ Below w.heap.size w w' := by
  obtain ⟨A1, c1, rfl, a1, a2, a3⟩ := h1
  obtain ⟨A2, c2, rfl, b1, b2, b3⟩ := h2
  exact ints_any L A1 A2 c1 c2 w a3 b3 a1 a2 b1 b2
set_option maxHeartbeats 4000000 in
theorem node_none_from (P : Value) (z : Int) (w : World) (H : ∀ w', Below w.heap.size w w' → Calls Tryd.prog 36 #[P, .int .i64 z] w' fun e w'' => e = .returned (.bool false) ∧ w'' = w') : Calls Tryd.prog 19 #[P, .int .i64 z] w fun e w' => e = .returned zeroN ∧ Below w.heap.size w w' := by
  have HH := Lib.hid H
  clear H
  go_enter Tryd.func19, Tryd.ntmps19
  go_wp2_with fail
  refine (HH.out _ ((Below.refl _ _).alloc (Nat.le_refl _) _)).mono ?_
  rintro e w1 ⟨rfl, hw⟩
  rw [hw]
  clear hw
  go_wp2
  refine bodyPost_ret (v := zeroN) (by simp [results, zeroN, Tryd.results19, go_sem]) rfl ⟨rfl, ?_⟩
  exact (Below.refl _ _).alloc (Nat.le_refl _) _
/-- What each operation of the round's test yields. -/
def tlF (b o m cap d k en : Nat) (x : Nd) (LK LU : List Int) : Nat → Value → World → Prop
  | 0, v, _ => v = .pointer (some ⟨d, 0, none⟩)
  | 1, v, _ => v = .int .i64 (k : Int)
  | 2, v, w => NdV w w.heap.size v x
  | 3, v, _ => v = .slice (some ⟨b, o, none⟩) m cap
  | 4, v, _ => v = .int .i64 (k : Int)
  | 5, v, _ => v = .pointer (some ⟨b, o + k * 8, none⟩)
  | 6, v, w => NdV w w.heap.size v x
  | 7, v, _ => v = .bool true
  | 8, v, _ => v = .bool false
  | 9, v, _ => v = .bool false
  | 10, v, _ => v = .pointer (some ⟨d, 0, none⟩)
  | 11, v, _ => v = .int .i64 (k : Int)
  | 12, v, w => InAt w v LK
  | 13, v, _ => v = .slice (some ⟨b, o, none⟩) m cap
  | 14, v, _ => v = .int .i64 (k : Int)
  | 15, v, w => InAt w v LK
  | 16, v, _ => v = .bool true
  | 17, v, _ => v = .bool false
  | 18, v, _ => v = .bool false
  | 19, v, _ => v = .bool false
  | 20, v, _ => v = .pointer (some ⟨d, 0, none⟩)
  | 21, v, _ => v = .int .i64 (k : Int)
  | 22, v, w => InAt w v LU
  | 23, v, _ => v = .slice (some ⟨b, o, none⟩) m cap
  | 24, v, _ => v = .int .i64 (k : Int)
  | 25, v, w => InAt w v LU
  | 26, v, _ => v = .bool true
  | 27, v, _ => v = .bool false
  | 28, v, _ => v = .bool false
  | 29, v, _ => v = .bool false
  | 30, v, _ => v = .pointer (some ⟨d, 0, none⟩)
  | 31, v, _ => v = .int .i64 (k : Int)
  | 32, v, _ => v = .int .i64 (en : Int)
  | 33, v, _ => v = .slice (some ⟨b, o, none⟩) m cap
  | 34, v, _ => v = .int .i64 (k : Int)
  | 35, v, _ => v = .int .i64 (en : Int)
  | 36, v, _ => v = .bool false
  | _, _, _ => True
theorem tlF_mono {b o m cap d k en : Nat} {x : Nd} {LK LU : List Int} (j : Nat) (v : Value) (w w' : World) (h : tlF b o m cap d k en x LK LU j v w) (hb : Below w.heap.size w w') : tlF b o m cap d k en x LK LU j v w' := by
  match j, h with
  | 0, h => exact h
  | 1, h => exact h
  | 2, h => exact NdV.later h hb
  | 3, h => exact h
  | 4, h => exact h
  | 5, h => exact h
  | 6, h => exact NdV.later h hb
  | 7, h => exact h
  | 8, h => exact h
  | 9, h => exact h
  | 10, h => exact h
  | 11, h => exact h
  | 12, h => exact InAt.later h hb
  | 13, h => exact h
  | 14, h => exact h
  | 15, h => exact InAt.later h hb
  | 16, h => exact h
  | 17, h => exact h
  | 18, h => exact h
  | 19, h => exact h
  | 20, h => exact h
  | 21, h => exact h
  | 22, h => exact InAt.later h hb
  | 23, h => exact h
  | 24, h => exact h
  | 25, h => exact InAt.later h hb
  | 26, h => exact h
  | 27, h => exact h
  | 28, h => exact h
  | 29, h => exact h
  | 30, h => exact h
  | 31, h => exact h
  | 32, h => exact h
  | 33, h => exact h
  | 34, h => exact h
  | 35, h => exact h
  | 36, h => exact h
  | _ + 37, _ => exact trivial
/-- What holds at each round's head. -/
def TlRel (w : World) (l : List Nd) (i : Value) (wr : World) : Prop := ∃ k : Nat, k ≤ l.length ∧ i = .int .i64 k ∧ Below w.heap.size w wr
set_option maxHeartbeats 32000000 in
theorem tells_law (l : List Nd) (v : Value) (z : Int) (w : World) (hv : NsAt w w.heap.size v l) (hs : ∀ x ∈ l, Sm x) (hW : Wd w) : Calls Tryd.prog 4 #[v, .int .i64 z] w fun e w' => e = .returned (.bool true) ∧ Below w.heap.size w w' := by
  have HA : Hid (∀ w', Below w.heap.size w w' → Calls Tryd.prog 9 #[] w' fun e w'' => e = .returned (.bool true) ∧ Below w'.heap.size w' w'') := fun w' hb => awake_any w' (hW.later hb)
  have HF : Hid (∀ w', Below w.heap.size w w' → Calls Tryd.prog 10 #[v, .int .i64 30] w' fun e w'' => e = .returned (.bool (fewB l 30)) ∧ w'' = w') := fun w' hb => few_any l 30 v w' (by omega) (hv.later hb)
  have HO : Hid (l.length ≤ 30 → ∀ w', Below w.heap.size w w' → Calls Tryd.prog 11 #[v] w' fun e w'' => OfAns l w'.heap.size e w'' ∧ Below w'.heap.size w' w'') := fun h w' hb => of_any l v w' (hv.later hb) (by omega) hs (hW.later hb)
  have HV := Lib.hid hv
  obtain ⟨A, cap, rfl, hc1, hc2⟩ := hv.slice
  have hr0 := Below.refl w.heap.size w
  have HS := Lib.hid hs
  clear hW hv hs
  cases hf : fewB l 30 with
  | false =>
    rw [hf] at HF
    clear hf HO
    go_enter Tryd.func4, Tryd.ntmps4
    go_wp2_with fail
    refine (HA.out _ hr0).mono ?_
    rintro e w1 ⟨rfl, hb1⟩
    go_wp2_with fail
    refine (HF.out _ hb1).mono ?_
    rintro e w2 ⟨rfl, hw⟩
    rw [hw]
    clear hw
    go_wp2_with fail
    refine (HA.out _ hb1).mono ?_
    rintro e w2 ⟨rfl, hb2⟩
    go_wp2
    go_ret
    exact ⟨rfl, hb1.trans (hb2.mono hb1.size)⟩
  | true =>
    rw [hf] at HF
    have hl : l.length ≤ 30 := by
      unfold fewB at hf
      rw [Bool.and_eq_true, decide_eq_true_eq] at hf
      exact hf.1
    have HL := Lib.hid hl
    have HO' := Lib.hid (HO.out hl)
    have HLN := Lib.hid (fun w => len_nil w)
    have HNN := Lib.hid (fun w => nodes_nil w)
    obtain ⟨m, hmE⟩ : ∃ m, l.length = m := ⟨_, rfl⟩
    have HM := Lib.hid hmE
    rw [hmE] at HO' hl hc1 HV ⊢
    rw [hmE] at HF
    clear hf HO hmE
    go_enter Tryd.func4, Tryd.ntmps4
    go_wp2_with fail
    refine (HA.out _ hr0).mono ?_
    rintro e w1 ⟨rfl, hb1⟩
    go_wp2_with fail
    refine (HF.out _ hb1).mono ?_
    rintro e w2 ⟨rfl, hw⟩
    rw [hw]
    clear hw
    go_wp2_with fail
    refine (HO'.out _ hb1).mono ?_
    rintro e w2 ⟨ho, hb2⟩
    have hbw := hb1.trans (hb2.mono hb1.size)
    clear hb1 hb2 hr0 HO' HF HA
    rcases ho with ⟨_, rfl⟩ | ⟨_, _, rfl⟩ | ⟨hfo, hwi, d, rfl, hd⟩
    · go_wp2_with fail
      refine (HLN.out w2).mono ?_
      rintro e w3 ⟨rfl, hw⟩
      rw [hw]
      clear hw
      go_wp2_with fail
      refine (HNN.out w2).mono ?_
      rintro e w3 ⟨A0, c0, rfl, hb3⟩
      go_wp2
      go_ret
      exact ⟨rfl, hbw.trans (hb3.mono hbw.size)⟩
    · go_wp2_with fail
      refine (HLN.out w2).mono ?_
      rintro e w3 ⟨rfl, hw⟩
      rw [hw]
      clear hw
      go_wp2_with fail
      refine (HNN.out w2).mono ?_
      rintro e w3 ⟨A0, c0, rfl, hb3⟩
      go_wp2
      go_ret
      exact ⟨rfl, hbw.trans (hb3.mono hbw.size)⟩
    · obtain ⟨_, h0, hh, hg⟩ := formed_hung hfo
      have hl1 := HL.out
      have HD : Hid (∀ w', Below w2.heap.size w2 w' → DocAt w' w1.heap.size d l) := fun w' hb => hd.later hb
      have HNV : Hid (∀ w', Below w2.heap.size w2 w' → NsAt w' w'.heap.size (.slice A m cap) l) := fun w' hb => (HV.out.later hbw).later hb
      have HLE : Hid (Calls Tryd.prog 13 #[.pointer (some ⟨d, 0, none⟩)] w2 fun e w' => e = .returned (.int .i64 (m : Nat)) ∧ w' = w2) := by rw [← HM.out]; exact len_doc w2 hd (by omega) HS.out
      have HTO := Lib.hid (top_doc w2 hd (by omega) HS.out)
      have HRT : Hid (∀ w', Below w2.heap.size w2 w' → Calls Tryd.prog 16 #[.slice A m cap] w' fun e w'' => e = .returned (.int .i64 (topP l : Nat)) ∧ w'' = w') := fun w' hb => by rw [← rtop_eq hfo]; exact rtop_any l _ w' (HNV.out w' hb)
      have HND : Hid (∀ w', Below w2.heap.size w2 w' → Calls Tryd.prog 14 #[.pointer (some ⟨d, 0, none⟩)] w' fun e w'' => ∃ v', e = .returned v' ∧ NsOwn w'' w'.heap.size v' l ∧ Below w'.heap.size w' w'') := fun w' hb => nodes_doc w' (HD.out w' hb) (by omega) HS.out
      have HSA : Hid (∀ w' v', Below w2.heap.size w2 w' → NsAt w' w'.heap.size v' l → Calls Tryd.prog 17 #[v', .slice A m cap] w' fun e w'' => e = .returned (.bool true) ∧ Below w'.heap.size w' w'') := fun w' v' hb h => same_any l v' _ w' h (HNV.out w' hb)
      have hr2 := Below.refl w2.heap.size w2
      have htt : ((topP l : Int) != (topP l : Int)) = false := by simp
      generalize topP l = tp at *
      have hmm : ((m : Int) != (m : Int)) = false := by simp
      clear hd
      go_wp2_with fail
      refine HLE.out.mono ?_
      rintro e w3 ⟨rfl, hw⟩
      rw [hw]
      clear hw HLE
      go_wp2_with fail
      refine HTO.out.mono ?_
      rintro e w3 ⟨rfl, hb3⟩
      clear HTO
      go_wp2_with fail
      refine (HRT.out w3 hb3).mono ?_
      rintro e w4 ⟨rfl, hw⟩
      rw [hw]
      clear hw HRT
      go_wp2_with fail
      refine (HND.out w3 hb3).mono ?_
      rintro e w4 ⟨v', rfl, hno, hb4⟩
      have hb24 := hb3.trans (hb4.mono hb3.size)
      have hat := hno.at (by omega) HS.out
      obtain ⟨A9, c9, rfl⟩ := hno.form
      clear hno hb4 hb3 HND
      go_wp2_with fail
      refine (HSA.out w4 _ hb24 hat).mono ?_
      rintro e w5 ⟨rfl, hb5⟩
      have hb25 := hb24.trans (hb5.mono hb24.size)
      clear hat hb24 hb5 HSA htt hmm
      go_wp2
      go_loopw [58] (TlRel w5 l) (fun i _ => m - (intOf i).toNat)
      case atStart => exact ⟨0, Nat.zero_le _, rfl, Below.refl _ _⟩
      case round =>
        obtain ⟨k, hk, rfl, hbr⟩ := hrel
        rw [HM.out] at hk
        by_cases hlt : k < m
        · have hkz : (k : Int) < (m : Int) := by omega
          have hkl : k < l.length := by rw [HM.out]; exact hlt
          obtain ⟨b, o, cap', e, _, _, hbB, hnd⟩ := (HNV.out w5 hb25).open (by intro h; rw [h] at hkl; simp at hkl)
          simp only [Value.slice.injEq] at e
          obtain ⟨rfl, -, rfl⟩ := e
          obtain ⟨vd, va, d0, d1, d2, d3, d4, d5, d6, d7, hds, has⟩ := ((hnd k hkl).below hbB hbr).cells
          have hb2r : Below w2.heap.size w2 wr := hb25.trans (hbr.mono hb25.size)
          have hbr' : b < wr.heap.size := Nat.lt_of_lt_of_le hbB hbr.size
          have HX : Hid (NdV wr wr.heap.size (.agg #[.int .i64 l[k].k, .int .i64 l[k].n, .string l[k].p, .string l[k].l, .string l[k].u, .string l[k].t, vd, va]) l[k]) := NdV.mono ⟨vd, va, rfl, hds, has⟩ hbr.size
          have HN1 : Hid (∀ y, Below w2.heap.size w2 y → Calls Tryd.prog 19 #[.pointer (some ⟨d, 0, none⟩), .int .i64 (k : Int)] y fun e w'' => ∃ v, e = .returned v ∧ NdV w'' w''.heap.size v l[k] ∧ Below y.heap.size y w'') := fun y hb => by
            refine (node_doc k y (HD.out y hb) (by have := HL.out; omega) HS.out hkl).mono ?_
            rintro e w'' ⟨vd, va, rfl, h1, h2, hb'⟩
            have hsx := HS.out _ (List.getElem_mem hkl)
            exact ⟨_, rfl, ⟨vd, va, rfl, OwnSl.at h1 (by have := hsx.nd; omega) (fun h => by rw [List.eq_nil_of_length_eq_zero h]; rfl), OwnSl.at h2 (by have := hsx.na; omega) (fun h => by rw [List.eq_nil_of_length_eq_zero h]; rfl)⟩, hb'⟩
          have HK1 : Hid (∀ y, Below w2.heap.size w2 y → Calls Tryd.prog 21 #[.pointer (some ⟨d, 0, none⟩), .int .i64 (k : Int)] y fun e w'' => ∃ v, e = .returned v ∧ InAt w'' v (kidsL l k (endP l k)) ∧ Below y.heap.size y w'') := fun y hb => by
            refine (kids_doc k y (HD.out y hb) (by have := HL.out; omega) HS.out hkl).mono ?_
            rintro e w'' ⟨v', rfl, h1, hb'⟩
            exact ⟨v', rfl, h1.inAt, hb'⟩
          have HK2 : Hid (∀ y, Below w2.heap.size w2 y → Calls Tryd.prog 22 #[.slice (some ⟨b, o, none⟩) m cap, .int .i64 (k : Int)] y fun e w'' => ∃ v, e = .returned v ∧ InAt w'' v (kidsL l k (endP l k)) ∧ Below y.heap.size y w'') := fun y hb => by
            refine (rkids_any l _ k y (HNV.out y hb) (by have := HL.out; omega)).mono ?_
            rintro e w'' ⟨v', rfl, h1, hb'⟩
            rw [rkids_eq hh hg hkl] at h1
            exact ⟨v', rfl, h1.inAt, hb'⟩
          have HU1 : Hid (∀ y, Below w2.heap.size w2 y → Calls Tryd.prog 23 #[.pointer (some ⟨d, 0, none⟩), .int .i64 (k : Int)] y fun e w'' => ∃ v, e = .returned v ∧ InAt w'' v (upL l k) ∧ Below y.heap.size y w'') := fun y hb => by
            refine (up_doc k y (HD.out y hb) (by have := HL.out; omega) HS.out hkl hh h0).mono ?_
            rintro e w'' ⟨v', rfl, h1, hb'⟩
            exact ⟨v', rfl, h1.inAt, hb'⟩
          have HU2 : Hid (∀ y, Below w2.heap.size w2 y → Calls Tryd.prog 24 #[.slice (some ⟨b, o, none⟩) m cap, .int .i64 (k : Int)] y fun e w'' => ∃ v, e = .returned v ∧ InAt w'' v (upL l k) ∧ Below y.heap.size y w'') := fun y hb => by
            refine (rup_any l _ k y (HNV.out y hb) (by have := HL.out; omega) hkl hh h0).mono ?_
            rintro e w'' ⟨v', rfl, h1, hb'⟩
            exact ⟨v', rfl, h1.inAt, hb'⟩
          have HE1 : Hid (∀ y, Below w2.heap.size w2 y → Calls Tryd.prog 25 #[.pointer (some ⟨d, 0, none⟩), .int .i64 (k : Int)] y fun e w'' => e = .returned (.int .i64 (endP l k : Nat)) ∧ w'' = y) := fun y hb => end_doc k y (HD.out y hb) (by have := HL.out; omega) HS.out hkl
          have HE2 : Hid (∀ y, Below w2.heap.size w2 y → Calls Tryd.prog 26 #[.slice (some ⟨b, o, none⟩) m cap, .int .i64 (k : Int)] y fun e w'' => e = .returned (.int .i64 (endP l k : Nat)) ∧ w'' = y) := fun y hb => by
            have h := rend_any l _ k y (HNV.out y hb) hkl hh h0 (by have := HL.out; omega)
            rw [rend_eq hh hg hkl] at h
            exact h
          obtain ⟨A3, c3, rfl, -⟩ := hds
          obtain ⟨A4, c4, rfl, -⟩ := has
          have hq : ∀ j (hj : j < 8), wr.cell? ⟨b, o + k * 8 + j, none⟩ = some (([.int .i64 l[k].k, .int .i64 l[k].n, .string l[k].p, .string l[k].l, .string l[k].u, .string l[k].t, .slice A3 l[k].ds.length c3, .slice A4 l[k].ats.length c4] : List Value)[j]'hj) := fun j hj => by
            match j, hj with
            | 0, _ => exact d0
            | 1, _ => exact d1
            | 2, _ => exact d2
            | 3, _ => exact d3
            | 4, _ => exact d4
            | 5, _ => exact d5
            | 6, _ => exact d6
            | 7, _ => exact d7
            | j + 8, hj => omega
          have HNL := Lib.hid hkl
          generalize kidsL l k (endP l k) = LK at *
          generalize upL l k = LU at *
          generalize endP l k = en at *
          generalize l[k] = x at *
          clear hnd d0 d1 d2 d3 d4 d5 d6 d7
          have hee : ((en : Int) != (en : Int)) = false := by simp
          go_wp2_with fail
          go_cut [98] from 61 to 99 (fun t wx => t = .bool false ∧ Below w5.heap.size w5 wx)
          case first =>
            refine region_facts (n := 37) (by kernel_rfl) rfl (by kernel_rfl) (by kernel_rfl) (fun f => { tmps := #[Value.slice (some ⟨b, o, none⟩) m cap, Value.int IntKind.i64 z, undef, undef, u4, Value.pointer (some ⟨d, 0, none⟩), Value.int IntKind.i64 0, Value.int IntKind.i64 k, undef, Value.bool true, Value.bool false, Value.bool false, Value.slice (some ⟨b, o, none⟩) m cap, Value.bool true, Value.bool false, Value.bool false, undef, Value.tuple #[Value.pointer (some ⟨d, 0, none⟩), Value.int IntKind.i64 0], Value.slice (some ⟨b, o, none⟩) m cap, Value.tuple #[Value.pointer (some ⟨d, 0, none⟩), Value.int IntKind.i64 0], Value.pointer (some ⟨d, 0, none⟩), Value.int IntKind.i64 0, Value.int IntKind.i64 0, Value.bool false, undef, undef, undef, undef, undef, undef, undef, undef, undef, undef, undef, undef, undef, Value.pointer (some ⟨d, 0, none⟩), Value.int IntKind.i64 m, Value.slice (some ⟨b, o, none⟩) m cap, Value.int IntKind.i64 m, Value.bool false, Value.bool false, Value.pointer (some ⟨d, 0, none⟩), Value.int IntKind.i64 tp, Value.slice (some ⟨b, o, none⟩) m cap, Value.int IntKind.i64 tp, Value.bool false, Value.bool false, Value.bool false, Value.pointer (some ⟨d, 0, none⟩), Value.slice A9 l.length c9, Value.slice (some ⟨b, o, none⟩) m cap, Value.bool true, Value.bool false, Value.bool false, Value.slice (some ⟨b, o, none⟩) m cap, Value.int IntKind.i64 m, Value.int IntKind.i64 k, Value.bool true, Value.int IntKind.i64 k, f 0, f 1, f 2, f 3, f 4, f 5, f 6, f 7, f 8, f 9, f 10, f 11, f 12, f 13, f 14, f 15, f 16, f 17, f 18, f 19, f 20, f 21, f 22, f 23, f 24, f 25, f 26, f 27, f 28, f 29, f 30, f 31, f 32, f 33, f 34, f 35, f 36, f 37, u99, undef, undef, undef, undef, undef, undef, undef, undef, undef, undef, undef, undef, undef, undef, undef, undef, undef, undef, undef, undef, undef, undef, undef, undef, undef, undef, undef, undef, undef, undef, undef, undef], defers := [] }) (tlF b o m cap d k en x LK LU) (Below wr.heap.size wr) (fun j => (#[u61, u62, u63, u64, u65, u66, u67, u68, u69, u70, u71, u72, u73, u74, u75, u76, u77, u78, u79, u80, u81, u82, u83, u84, u85, u86, u87, u88, u89, u90, u91, u92, u93, u94, u95, u96, u97, u98] : Array Value).getD j undef) _ (fun j v w w' h hb => tlF_mono j v w w' h hb) (drewN_below (Below.refl _ _) 1) ?step ?last
            case step =>
              intro i hi f y hG hF K hK
              have hc : ∀ j v, wr.cell? ⟨b, o + k * 8 + j, none⟩ = some v → y.cell? ⟨b, o + k * 8 + j, none⟩ = some v := fun j v h => (hG.cell (p := ⟨b, o + k * 8 + j, none⟩) hbr').trans h
              have hwy : Below w2.heap.size w2 y := hb2r.trans (hG.mono hb2r.size)
              match i, hi with
              | 0, _ =>
                clear hF
                refine wpOp_one rfl rfl ?_
                try dsimp only
                go_simp
                refine K_eq (hK (.pointer (some ⟨d, 0, none⟩)) y rfl hG (Below.refl _ _)) ?_
                simp [upd]
              | 1, _ =>
                clear hF
                refine wpOp_one rfl rfl ?_
                try dsimp only
                go_simp
                refine K_eq (hK (.int .i64 k) y rfl hG (Below.refl _ _)) ?_
                simp [upd]
              | 2, _ =>
                have e0 : f 0 = .pointer (some ⟨d, 0, none⟩) := hF 0 (by kernel_rfl)
                have e1 : f 1 = .int .i64 k := hF 1 (by kernel_rfl)
                clear hF
                refine wpOp_one rfl rfl ?_
                try dsimp only
                go_simp
                refine (HN1.out y hwy).mono ?_
                rintro e y1 ⟨v', rfl, hv', hb1⟩
                dsimp only
                refine K_eq (hK v' y1 hv' (hG.trans (hb1.mono hG.size)) hb1) ?_
                simp [upd, e0, e1]
              | 3, _ =>
                clear hF
                refine wpOp_one rfl rfl ?_
                try dsimp only
                go_simp
                refine K_eq (hK (.slice (some ⟨b, o, none⟩) m cap) y rfl hG (Below.refl _ _)) ?_
                simp [upd]
              | 4, _ =>
                clear hF
                refine wpOp_one rfl rfl ?_
                try dsimp only
                go_simp
                refine K_eq (hK (.int .i64 k) y rfl hG (Below.refl _ _)) ?_
                simp [upd]
              | 5, _ =>
                have e3 : f 3 = .slice (some ⟨b, o, none⟩) m cap := hF 3 (by kernel_rfl)
                have e4 : f 4 = .int .i64 k := hF 4 (by kernel_rfl)
                clear hF
                refine wpOp_one rfl rfl ?_
                try dsimp only
                go_simp
                refine K_eq (hK (.pointer (some ⟨b, o + k * 8, none⟩)) y rfl hG (Below.refl _ _)) ?_
                simp [upd, e3, e4]
              | 6, _ =>
                have e5 : f 5 = .pointer (some ⟨b, o + k * 8, none⟩) := hF 5 (by kernel_rfl)
                have cc0 : y.cell? ⟨b, o + k * 8, none⟩ = some (.int .i64 x.k) := hc 0 _ (hq 0 (by omega))
                have cc1 : y.cell? ⟨b, o + k * 8 + 1, none⟩ = some (.int .i64 x.n) := hc 1 _ (hq 1 (by omega))
                have cc2 : y.cell? ⟨b, o + k * 8 + 2, none⟩ = some (.string x.p) := hc 2 _ (hq 2 (by omega))
                have cc3 : y.cell? ⟨b, o + k * 8 + 3, none⟩ = some (.string x.l) := hc 3 _ (hq 3 (by omega))
                have cc4 : y.cell? ⟨b, o + k * 8 + 4, none⟩ = some (.string x.u) := hc 4 _ (hq 4 (by omega))
                have cc5 : y.cell? ⟨b, o + k * 8 + 5, none⟩ = some (.string x.t) := hc 5 _ (hq 5 (by omega))
                have cc6 : y.cell? ⟨b, o + k * 8 + 6, none⟩ = some (.slice A3 x.ds.length c3) := hc 6 _ (hq 6 (by omega))
                have cc7 : y.cell? ⟨b, o + k * 8 + 7, none⟩ = some (.slice A4 x.ats.length c4) := hc 7 _ (hq 7 (by omega))
                clear hF
                refine wpOp_one rfl rfl ?_
                try dsimp only
                go_simp
                refine K_eq (hK (.agg #[.int .i64 x.k, .int .i64 x.n, .string x.p, .string x.l, .string x.u, .string x.t, .slice A3 x.ds.length c3, .slice A4 x.ats.length c4]) y (NdV.mono (NdV.below HX.out hG) hG.size) hG (Below.refl _ _)) ?_
                simp [upd, e5]
              | 7, _ =>
                have n2 : NdV y y.heap.size (f 2) x := hF 2 (by kernel_rfl)
                have n6 : NdV y y.heap.size (f 6) x := hF 6 (by kernel_rfl)
                have N2 := Lib.hid n2
                have N6 := Lib.hid n6
                clear n2 n6
                clear hF
                refine wpOp_one rfl rfl ?_
                try dsimp only
                go_simp
                refine (one_any x _ _ y N2.out N6.out).mono ?_
                rintro e y1 ⟨rfl, hb1⟩
                dsimp only
                refine K_eq (hK (.bool true) y1 rfl (hG.trans (hb1.mono hG.size)) hb1) ?_
                simp [upd]
              | 8, _ =>
                have e7 : f 7 = .bool true := hF 7 (by kernel_rfl)
                clear hF
                refine wpOp_one rfl rfl ?_
                try dsimp only
                go_simp
                refine K_eq (hK (.bool false) y rfl hG (Below.refl _ _)) ?_
                simp [upd, e7]
              | 9, _ =>
                have e8 : f 8 = .bool false := hF 8 (by kernel_rfl)
                clear hF
                refine wpOp_one rfl rfl ?_
                try dsimp only
                go_simp
                refine K_eq (hK (.bool false) y rfl hG (Below.refl _ _)) ?_
                simp [upd, e8]
              | 10, _ =>
                have e9 : f 9 = .bool false := hF 9 (by kernel_rfl)
                clear hF
                refine wpOp_if rfl rfl (yielded_of (v := f 9) rfl rfl rfl e9) ?_
                try dsimp only
                go_simp
                refine K_eq (hK (.pointer (some ⟨d, 0, none⟩)) y rfl hG (Below.refl _ _)) ?_
                simp [upd, e9]
              | 11, _ =>
                have e9 : f 9 = .bool false := hF 9 (by kernel_rfl)
                clear hF
                refine wpOp_if rfl rfl (yielded_of (v := f 9) rfl rfl rfl e9) ?_
                try dsimp only
                go_simp
                refine K_eq (hK (.int .i64 k) y rfl hG (Below.refl _ _)) ?_
                simp [upd, e9]
              | 12, _ =>
                have e9 : f 9 = .bool false := hF 9 (by kernel_rfl)
                have e10 : f 10 = .pointer (some ⟨d, 0, none⟩) := hF 10 (by kernel_rfl)
                have e11 : f 11 = .int .i64 k := hF 11 (by kernel_rfl)
                clear hF
                refine wpOp_if rfl rfl (yielded_of (v := f 9) rfl rfl rfl e9) ?_
                try dsimp only
                go_simp
                refine (HK1.out y hwy).mono ?_
                rintro e y1 ⟨v', rfl, hv', hb1⟩
                dsimp only
                refine K_eq (hK v' y1 hv' (hG.trans (hb1.mono hG.size)) hb1) ?_
                simp [upd, e10, e11, e9]
              | 13, _ =>
                have e9 : f 9 = .bool false := hF 9 (by kernel_rfl)
                clear hF
                refine wpOp_if rfl rfl (yielded_of (v := f 9) rfl rfl rfl e9) ?_
                try dsimp only
                go_simp
                refine K_eq (hK (.slice (some ⟨b, o, none⟩) m cap) y rfl hG (Below.refl _ _)) ?_
                simp [upd, e9]
              | 14, _ =>
                have e9 : f 9 = .bool false := hF 9 (by kernel_rfl)
                clear hF
                refine wpOp_if rfl rfl (yielded_of (v := f 9) rfl rfl rfl e9) ?_
                try dsimp only
                go_simp
                refine K_eq (hK (.int .i64 k) y rfl hG (Below.refl _ _)) ?_
                simp [upd, e9]
              | 15, _ =>
                have e9 : f 9 = .bool false := hF 9 (by kernel_rfl)
                have e13 : f 13 = .slice (some ⟨b, o, none⟩) m cap := hF 13 (by kernel_rfl)
                have e14 : f 14 = .int .i64 k := hF 14 (by kernel_rfl)
                clear hF
                refine wpOp_if rfl rfl (yielded_of (v := f 9) rfl rfl rfl e9) ?_
                try dsimp only
                go_simp
                refine (HK2.out y hwy).mono ?_
                rintro e y1 ⟨v', rfl, hv', hb1⟩
                dsimp only
                refine K_eq (hK v' y1 hv' (hG.trans (hb1.mono hG.size)) hb1) ?_
                simp [upd, e13, e14, e9]
              | 16, _ =>
                have e9 : f 9 = .bool false := hF 9 (by kernel_rfl)
                have n12 : InAt y (f 12) LK := hF 12 (by kernel_rfl)
                have N12 := Lib.hid n12
                clear n12
                have n15 : InAt y (f 15) LK := hF 15 (by kernel_rfl)
                have N15 := Lib.hid n15
                clear n15
                clear hF
                refine wpOp_if rfl rfl (yielded_of (v := f 9) rfl rfl rfl e9) ?_
                try dsimp only
                go_simp
                refine (ints_at_any N12.out N15.out).mono ?_
                rintro e y1 ⟨rfl, hb1⟩
                dsimp only
                refine K_eq (hK (.bool true) y1 rfl (hG.trans (hb1.mono hG.size)) hb1) ?_
                simp [upd, e9]
              | 17, _ =>
                have e9 : f 9 = .bool false := hF 9 (by kernel_rfl)
                have e16 : f 16 = .bool true := hF 16 (by kernel_rfl)
                clear hF
                refine wpOp_if rfl rfl (yielded_of (v := f 9) rfl rfl rfl e9) ?_
                try dsimp only
                go_simp
                refine K_eq (hK (.bool false) y rfl hG (Below.refl _ _)) ?_
                simp [upd, e16, e9]
              | 18, _ =>
                have e9 : f 9 = .bool false := hF 9 (by kernel_rfl)
                have e17 : f 17 = .bool false := hF 17 (by kernel_rfl)
                clear hF
                refine wpOp_one rfl rfl ?_
                try dsimp only
                go_simp
                refine K_eq (hK (.bool false) y rfl hG (Below.refl _ _)) ?_
                simp [upd, e17, e9]
              | 19, _ =>
                have e18 : f 18 = .bool false := hF 18 (by kernel_rfl)
                clear hF
                refine wpOp_one rfl rfl ?_
                try dsimp only
                go_simp
                refine K_eq (hK (.bool false) y rfl hG (Below.refl _ _)) ?_
                simp [upd, e18]
              | 20, _ =>
                have e19 : f 19 = .bool false := hF 19 (by kernel_rfl)
                clear hF
                refine wpOp_if rfl rfl (yielded_of (v := f 19) rfl rfl rfl e19) ?_
                try dsimp only
                go_simp
                refine K_eq (hK (.pointer (some ⟨d, 0, none⟩)) y rfl hG (Below.refl _ _)) ?_
                simp [upd, e19]
              | 21, _ =>
                have e19 : f 19 = .bool false := hF 19 (by kernel_rfl)
                clear hF
                refine wpOp_if rfl rfl (yielded_of (v := f 19) rfl rfl rfl e19) ?_
                try dsimp only
                go_simp
                refine K_eq (hK (.int .i64 k) y rfl hG (Below.refl _ _)) ?_
                simp [upd, e19]
              | 22, _ =>
                have e19 : f 19 = .bool false := hF 19 (by kernel_rfl)
                have e20 : f 20 = .pointer (some ⟨d, 0, none⟩) := hF 20 (by kernel_rfl)
                have e21 : f 21 = .int .i64 k := hF 21 (by kernel_rfl)
                clear hF
                refine wpOp_if rfl rfl (yielded_of (v := f 19) rfl rfl rfl e19) ?_
                try dsimp only
                go_simp
                refine (HU1.out y hwy).mono ?_
                rintro e y1 ⟨v', rfl, hv', hb1⟩
                dsimp only
                refine K_eq (hK v' y1 hv' (hG.trans (hb1.mono hG.size)) hb1) ?_
                simp [upd, e19, e20, e21]
              | 23, _ =>
                have e19 : f 19 = .bool false := hF 19 (by kernel_rfl)
                clear hF
                refine wpOp_if rfl rfl (yielded_of (v := f 19) rfl rfl rfl e19) ?_
                try dsimp only
                go_simp
                refine K_eq (hK (.slice (some ⟨b, o, none⟩) m cap) y rfl hG (Below.refl _ _)) ?_
                simp [upd, e19]
              | 24, _ =>
                have e19 : f 19 = .bool false := hF 19 (by kernel_rfl)
                clear hF
                refine wpOp_if rfl rfl (yielded_of (v := f 19) rfl rfl rfl e19) ?_
                try dsimp only
                go_simp
                refine K_eq (hK (.int .i64 k) y rfl hG (Below.refl _ _)) ?_
                simp [upd, e19]
              | 25, _ =>
                have e19 : f 19 = .bool false := hF 19 (by kernel_rfl)
                have e23 : f 23 = .slice (some ⟨b, o, none⟩) m cap := hF 23 (by kernel_rfl)
                have e24 : f 24 = .int .i64 k := hF 24 (by kernel_rfl)
                clear hF
                refine wpOp_if rfl rfl (yielded_of (v := f 19) rfl rfl rfl e19) ?_
                try dsimp only
                go_simp
                refine (HU2.out y hwy).mono ?_
                rintro e y1 ⟨v', rfl, hv', hb1⟩
                dsimp only
                refine K_eq (hK v' y1 hv' (hG.trans (hb1.mono hG.size)) hb1) ?_
                simp [upd, e19, e23, e24]
              | 26, _ =>
                have e19 : f 19 = .bool false := hF 19 (by kernel_rfl)
                have n22 : InAt y (f 22) LU := hF 22 (by kernel_rfl)
                have N22 := Lib.hid n22
                clear n22
                have n25 : InAt y (f 25) LU := hF 25 (by kernel_rfl)
                have N25 := Lib.hid n25
                clear n25
                clear hF
                refine wpOp_if rfl rfl (yielded_of (v := f 19) rfl rfl rfl e19) ?_
                try dsimp only
                go_simp
                refine (ints_at_any N22.out N25.out).mono ?_
                rintro e y1 ⟨rfl, hb1⟩
                dsimp only
                refine K_eq (hK (.bool true) y1 rfl (hG.trans (hb1.mono hG.size)) hb1) ?_
                simp [upd, e19]
              | 27, _ =>
                have e19 : f 19 = .bool false := hF 19 (by kernel_rfl)
                have e26 : f 26 = .bool true := hF 26 (by kernel_rfl)
                clear hF
                refine wpOp_if rfl rfl (yielded_of (v := f 19) rfl rfl rfl e19) ?_
                try dsimp only
                go_simp
                refine K_eq (hK (.bool false) y rfl hG (Below.refl _ _)) ?_
                simp [upd, e19, e26]
              | 28, _ =>
                have e19 : f 19 = .bool false := hF 19 (by kernel_rfl)
                have e27 : f 27 = .bool false := hF 27 (by kernel_rfl)
                clear hF
                refine wpOp_one rfl rfl ?_
                try dsimp only
                go_simp
                refine K_eq (hK (.bool false) y rfl hG (Below.refl _ _)) ?_
                simp [upd, e19, e27]
              | 29, _ =>
                have e28 : f 28 = .bool false := hF 28 (by kernel_rfl)
                clear hF
                refine wpOp_one rfl rfl ?_
                try dsimp only
                go_simp
                refine K_eq (hK (.bool false) y rfl hG (Below.refl _ _)) ?_
                simp [upd, e28]
              | 30, _ =>
                have e29 : f 29 = .bool false := hF 29 (by kernel_rfl)
                clear hF
                refine wpOp_if rfl rfl (yielded_of (v := f 29) rfl rfl rfl e29) ?_
                try dsimp only
                go_simp
                refine K_eq (hK (.pointer (some ⟨d, 0, none⟩)) y rfl hG (Below.refl _ _)) ?_
                simp [upd, e29]
              | 31, _ =>
                have e29 : f 29 = .bool false := hF 29 (by kernel_rfl)
                clear hF
                refine wpOp_if rfl rfl (yielded_of (v := f 29) rfl rfl rfl e29) ?_
                try dsimp only
                go_simp
                refine K_eq (hK (.int .i64 k) y rfl hG (Below.refl _ _)) ?_
                simp [upd, e29]
              | 32, _ =>
                have e29 : f 29 = .bool false := hF 29 (by kernel_rfl)
                have e30 : f 30 = .pointer (some ⟨d, 0, none⟩) := hF 30 (by kernel_rfl)
                have e31 : f 31 = .int .i64 k := hF 31 (by kernel_rfl)
                clear hF
                refine wpOp_if rfl rfl (yielded_of (v := f 29) rfl rfl rfl e29) ?_
                try dsimp only
                go_simp
                refine (HE1.out y hwy).mono ?_
                rintro e y1 ⟨rfl, hw⟩
                rw [hw]
                dsimp only
                refine K_eq (hK (.int .i64 en) y rfl hG (Below.refl _ _)) ?_
                simp [upd, e29, e30, e31]
              | 33, _ =>
                have e29 : f 29 = .bool false := hF 29 (by kernel_rfl)
                clear hF
                refine wpOp_if rfl rfl (yielded_of (v := f 29) rfl rfl rfl e29) ?_
                try dsimp only
                go_simp
                refine K_eq (hK (.slice (some ⟨b, o, none⟩) m cap) y rfl hG (Below.refl _ _)) ?_
                simp [upd, e29]
              | 34, _ =>
                have e29 : f 29 = .bool false := hF 29 (by kernel_rfl)
                clear hF
                refine wpOp_if rfl rfl (yielded_of (v := f 29) rfl rfl rfl e29) ?_
                try dsimp only
                go_simp
                refine K_eq (hK (.int .i64 k) y rfl hG (Below.refl _ _)) ?_
                simp [upd, e29]
              | 35, _ =>
                have e29 : f 29 = .bool false := hF 29 (by kernel_rfl)
                have e33 : f 33 = .slice (some ⟨b, o, none⟩) m cap := hF 33 (by kernel_rfl)
                have e34 : f 34 = .int .i64 k := hF 34 (by kernel_rfl)
                clear hF
                refine wpOp_if rfl rfl (yielded_of (v := f 29) rfl rfl rfl e29) ?_
                try dsimp only
                go_simp
                refine (HE2.out y hwy).mono ?_
                rintro e y1 ⟨rfl, hw⟩
                rw [hw]
                dsimp only
                refine K_eq (hK (.int .i64 en) y rfl hG (Below.refl _ _)) ?_
                simp [upd, e29, e33, e34]
              | 36, _ =>
                have e29 : f 29 = .bool false := hF 29 (by kernel_rfl)
                have e32 : f 32 = .int .i64 en := hF 32 (by kernel_rfl)
                have e35 : f 35 = .int .i64 en := hF 35 (by kernel_rfl)
                clear hF
                refine wpOp_if rfl rfl (yielded_of (v := f 29) rfl rfl rfl e29) ?_
                try dsimp only
                go_simp
                refine K_eq (hK (.bool false) y rfl hG (Below.refl _ _)) ?_
                simp [upd, e29, e32, e35]
              | n + 37, hi => exact absurd hi (by omega)
            case last =>
              intro f y hG hF K hK
              have e29 : f 29 = .bool false := hF 29 (by omega)
              have e36 : f 36 = .bool false := hF 36 (by omega)
              clear hF
              refine wpOp_one rfl rfl ?_
              try dsimp only
              go_simp
              refine hK _ _ ?_
              go_wp2_with fail
              go_meet
              exact ⟨rfl, hbr.trans (hG.mono hbr.size)⟩
          case rest =>
            obtain ⟨rfl, hbc⟩ := hcut
            clear hq
            go_wp2
            go_roundw
            case rel => exact ⟨k + 1, HNL.out, by go_num, hbc⟩
            case measure => simp [intOf]; omega
        · have hkz : ¬ (k : Int) < (m : Int) := by omega
          have hb2r : Below w2.heap.size w2 wr := hb25.trans (hbr.mono hb25.size)
          have hbwr := hbw.trans (hb2r.mono hbw.size)
          by_cases hz0 : z ≥ 0
          · by_cases hzm : z < (m : Int)
            · go_wp2
              go_ret
              exact ⟨rfl, hbwr⟩
            · have hzmd := decide_eq_false hzm
              have HH : Hid (∀ w', Below w2.heap.size w2 w' → Calls Tryd.prog 36 #[.pointer (some ⟨d, 0, none⟩), .int .i64 z] w' fun e w'' => e = .returned (.bool false) ∧ w'' = w') := fun w' hb => by
                have h := has_doc z w' (HD.out w' hb) (by have := HL.out; omega) HS.out
                rw [HM.out, decide_eq_false (by omega)] at h
                exact h
              have HN := Lib.hid (fun w' (hb : Below w2.heap.size w2 w') => node_none_from (.pointer (some ⟨d, 0, none⟩)) z w' (fun w'' hb' => HH.out w'' (hb.trans (hb'.mono hb.size))))
              have HE := Lib.hid (fun w' (hb : Below w2.heap.size w2 w') => end_none (.pointer (some ⟨d, 0, none⟩)) z w' (HH.out w' hb))
              have HK := Lib.hid (fun w' (hb : Below w2.heap.size w2 w') => kids_none (.pointer (some ⟨d, 0, none⟩)) z w' (HH.out w' hb))
              have HU := Lib.hid (fun w' (hb : Below w2.heap.size w2 w') => up_none (.pointer (some ⟨d, 0, none⟩)) z w' (HH.out w' hb))
              have HOZ := Lib.hid (fun w => one_zero w)
              unfold zeroN at HN HOZ
              clear HH
              go_wp2_with fail
              refine (HN.out wr hb2r).mono ?_
              rintro e w6 ⟨rfl, hb6⟩
              have hb26 := hb2r.trans (hb6.mono hb2r.size)
              go_wp2_with fail
              refine (HOZ.out w6).mono ?_
              rintro e w7 ⟨rfl, hb7⟩
              have hb27 := hb26.trans (hb7.mono hb26.size)
              clear hb26 hb6 hb7
              go_wp2_with fail
              refine (HK.out w7 hb27).mono ?_
              rintro e w8 ⟨rfl, hw⟩
              rw [hw]
              clear hw
              go_wp2_with fail
              refine (HU.out w7 hb27).mono ?_
              rintro e w8 ⟨rfl, hw⟩
              rw [hw]
              clear hw
              go_wp2_with fail
              refine (HE.out w7 hb27).mono ?_
              rintro e w8 ⟨rfl, hw⟩
              rw [hw]
              clear hw
              go_wp2
              go_ret
              exact ⟨rfl, hbw.trans (hb27.mono hbw.size)⟩
          · have hz0d := decide_eq_false hz0
            have HH : Hid (∀ w', Below w2.heap.size w2 w' → Calls Tryd.prog 36 #[.pointer (some ⟨d, 0, none⟩), .int .i64 z] w' fun e w'' => e = .returned (.bool false) ∧ w'' = w') := fun w' hb => by
              have h := has_doc z w' (HD.out w' hb) (by have := HL.out; omega) HS.out
              rw [decide_eq_false (by omega)] at h
              exact h
            have HN := Lib.hid (fun w' (hb : Below w2.heap.size w2 w') => node_none_from (.pointer (some ⟨d, 0, none⟩)) z w' (fun w'' hb' => HH.out w'' (hb.trans (hb'.mono hb.size))))
            have HE := Lib.hid (fun w' (hb : Below w2.heap.size w2 w') => end_none (.pointer (some ⟨d, 0, none⟩)) z w' (HH.out w' hb))
            have HK := Lib.hid (fun w' (hb : Below w2.heap.size w2 w') => kids_none (.pointer (some ⟨d, 0, none⟩)) z w' (HH.out w' hb))
            have HU := Lib.hid (fun w' (hb : Below w2.heap.size w2 w') => up_none (.pointer (some ⟨d, 0, none⟩)) z w' (HH.out w' hb))
            have HOZ := Lib.hid (fun w => one_zero w)
            unfold zeroN at HN HOZ
            clear HH
            go_wp2_with fail
            refine (HN.out wr hb2r).mono ?_
            rintro e w6 ⟨rfl, hb6⟩
            have hb26 := hb2r.trans (hb6.mono hb2r.size)
            go_wp2_with fail
            refine (HOZ.out w6).mono ?_
            rintro e w7 ⟨rfl, hb7⟩
            have hb27 := hb26.trans (hb7.mono hb26.size)
            clear hb26 hb6 hb7
            go_wp2_with fail
            refine (HK.out w7 hb27).mono ?_
            rintro e w8 ⟨rfl, hw⟩
            rw [hw]
            clear hw
            go_wp2_with fail
            refine (HU.out w7 hb27).mono ?_
            rintro e w8 ⟨rfl, hw⟩
            rw [hw]
            clear hw
            go_wp2_with fail
            refine (HE.out w7 hb27).mono ?_
            rintro e w8 ⟨rfl, hw⟩
            rw [hw]
            clear hw
            go_wp2
            go_ret
            exact ⟨rfl, hbw.trans (hb27.mono hbw.size)⟩
end Go.Proofs.YtchnmkagemmjoaaDoor
