/-
  (*Doc).list, Len, has, Top and End: of a document, and of none. Conditions: the document lies as it is; there are not too many nodes.
  (*Doc).Top and End of a document. Conditions: the document lies as it is; there are not too many nodes.
  The laws' own look whether the program does anything. Conditions: the tables lie as they are laid, internal/bytealg.MaxLen holds some number.
  apostilleref07.Few: has a list few nodes, with few things. Conditions: the list lies as it is.
  (*Doc).Nodes and Node of a document: copies in new memory. Conditions: the document lies as it is; there are not too many nodes, the texts are not too long.
  A node's children, each with all below it, stand side by side: numbers alone. Conditions: the nodes hang where they may.
  append to one's own row of ints. Conditions: there are not too many.
  (*Doc).Kids of a document. Conditions: the document lies as it is; there are not too many nodes.
  The children that are counted as far as a place: numbers alone. Conditions: the nodes hang where they may.
  DocParts walked. Conditions: the list lies as it is, its texts are not too long; the tables lie as they are laid, internal/bytealg.MaxLen holds some number.
-/
import Derived.Test.YtchnmkagemmjoaaDoorDOf
import Derived.Test.YtchnmkagemmjoaaDoorDMem
import Derived.Test.YtchnmkagemmjoaaDoorDForm2
import Derived.Laws.IdiomCopy
import Derived.Laws.AppendOwn
import Derived.Laws.AppendOwnNone
import Derived.Laws.MakeOwn
import Derived.Laws.Externs
import Derived.Lib.AppendStr
import Derived.OwnWalk
import Derived.Deep.Draws
import Derived.Deep.QuietTactic
import Derived.BigQuiet
import Derived.Deep.WholeRow
namespace Go.Proofs.YtchnmkagemmjoaaDoor
open Go.RowKit
set_option linter.unusedVariables false
set_option maxRecDepth 100000
set_option maxHeartbeats 4000000
theorem DocAt.cell {w : World} {B d : Nat} {l : List Nd} (h : DocAt w B d l) : ∃ v, w.cell? ⟨d, 0, none⟩ = some v ∧ NsOwn w B v l := by
  obtain ⟨v, _, h2, h3⟩ := h
  exact ⟨v, by rw [cell_of_row w d 0 _ _ _ h2]; rfl, h3⟩
/-- The document's list, whatever world comes later. -/
theorem DocAt.list {w : World} {B d : Nat} {l : List Nd} (h : DocAt w B d l) (hn : l.length ≤ 100000) (hs : ∀ x ∈ l, Sm x) : ∃ v, w.cell? ⟨d, 0, none⟩ = some v ∧ NsAt w w.heap.size v l ∧ d < w.heap.size := by
  obtain ⟨v, _, h2, h3⟩ := h
  exact ⟨v, by rw [cell_of_row w d 0 _ _ _ h2]; rfl, h3.at (by omega) hs, block_lt h2⟩
theorem list_doc (d : Nat) (v : Value) (w : World) (hc : w.cell? ⟨d, 0, none⟩ = some v) : Calls Tryd.prog 35 #[.pointer (some ⟨d, 0, none⟩)] w fun e w' => e = .returned v ∧ w' = w := by
  go_enter Tryd.func35, Tryd.ntmps35
  go_wp2
  go_ret
  exact ⟨rfl, rfl⟩
theorem list_nil (w : World) : Calls Tryd.prog 35 #[.pointer none] w fun e w' => e = .returned (.slice none 0 0) ∧ w' = w := by
  go_enter Tryd.func35, Tryd.ntmps35
  go_wp2
  go_ret
  exact ⟨rfl, rfl⟩
theorem len_of (P : Value) (A : Option Addr) (n c : Nat) (w : World) (H : Hid (Calls Tryd.prog 35 #[P] w fun e w' => e = .returned (.slice A n c) ∧ w' = w)) : Calls Tryd.prog 13 #[P] w fun e w' => e = .returned (.int .i64 (n : Nat)) ∧ w' = w := by
  go_enter Tryd.func13, Tryd.ntmps13
  go_wp2_with fail
  refine H.out.mono ?_
  rintro e w1 ⟨rfl, hw⟩
  rw [hw]
  go_wp2
  go_ret
  exact ⟨rfl, rfl⟩
theorem len_nil (w : World) : Calls Tryd.prog 13 #[.pointer none] w fun e w' => e = .returned (.int .i64 0) ∧ w' = w := len_of _ none 0 0 w (list_nil w)
theorem len_doc {B d : Nat} {l : List Nd} (w : World) (h : DocAt w B d l) (hn : l.length ≤ 100000) (hs : ∀ x ∈ l, Sm x) : Calls Tryd.prog 13 #[.pointer (some ⟨d, 0, none⟩)] w fun e w' => e = .returned (.int .i64 (l.length : Nat)) ∧ w' = w := by
  obtain ⟨v, hc, hv, _⟩ := h.list hn hs
  obtain ⟨A, cap, rfl, _⟩ := hv.slice
  exact len_of _ A l.length cap w (list_doc d _ w hc)
theorem has_of (P : Value) (n : Nat) (z : Int) (w : World) (H : Hid (Calls Tryd.prog 13 #[P] w fun e w' => e = .returned (.int .i64 (n : Nat)) ∧ w' = w)) : Calls Tryd.prog 36 #[P, .int .i64 z] w fun e w' => e = .returned (.bool (decide (0 ≤ z ∧ z < (n : Int)))) ∧ w' = w := by
  by_cases h0 : 0 ≤ z
  · go_enter Tryd.func36, Tryd.ntmps36
    go_wp2_with fail
    refine H.out.mono ?_
    rintro e w1 ⟨rfl, hw⟩
    rw [hw]
    go_wp2
    go_ret
    exact ⟨ret_bool (by simp [h0]), rfl⟩
  · have h1 := decide_eq_false h0
    go_enter Tryd.func36, Tryd.ntmps36
    go_wp2
    go_ret
    exact ⟨ret_bool (by simp), rfl⟩
theorem has_nil (z : Int) (w : World) : Calls Tryd.prog 36 #[.pointer none, .int .i64 z] w fun e w' => e = .returned (.bool false) ∧ w' = w := by
  have h := has_of (.pointer none) 0 z w (len_nil w)
  rw [decide_eq_false (by omega)] at h
  exact h
theorem has_doc {B d : Nat} {l : List Nd} (z : Int) (w : World) (h : DocAt w B d l) (hn : l.length ≤ 100000) (hs : ∀ x ∈ l, Sm x) : Calls Tryd.prog 36 #[.pointer (some ⟨d, 0, none⟩), .int .i64 z] w fun e w' => e = .returned (.bool (decide (0 ≤ z ∧ z < (l.length : Int)))) ∧ w' = w :=
  has_of _ l.length z w (len_doc w h hn hs)
/-- Of nodes that there aren't. -/
theorem end_none (P : Value) (z : Int) (w : World) (H : Hid (Calls Tryd.prog 36 #[P, .int .i64 z] w fun e w' => e = .returned (.bool false) ∧ w' = w)) : Calls Tryd.prog 25 #[P, .int .i64 z] w fun e w' => e = .returned (.int .i64 0) ∧ w' = w := by
  go_enter Tryd.func25, Tryd.ntmps25
  go_wp2_with fail
  refine H.out.mono ?_
  rintro e w1 ⟨rfl, hw⟩
  rw [hw]
  go_wp2
  go_ret
  exact ⟨rfl, rfl⟩
theorem kids_none (P : Value) (z : Int) (w : World) (H : Hid (Calls Tryd.prog 36 #[P, .int .i64 z] w fun e w' => e = .returned (.bool false) ∧ w' = w)) : Calls Tryd.prog 21 #[P, .int .i64 z] w fun e w' => e = .returned (.slice none 0 0) ∧ w' = w := by
  go_enter Tryd.func21, Tryd.ntmps21
  go_wp2_with fail
  refine H.out.mono ?_
  rintro e w1 ⟨rfl, hw⟩
  rw [hw]
  go_wp2
  go_ret
  exact ⟨rfl, rfl⟩
theorem up_none (P : Value) (z : Int) (w : World) (H : Hid (Calls Tryd.prog 36 #[P, .int .i64 z] w fun e w' => e = .returned (.bool false) ∧ w' = w)) : Calls Tryd.prog 23 #[P, .int .i64 z] w fun e w' => e = .returned (.slice none 0 0) ∧ w' = w := by
  go_enter Tryd.func23, Tryd.ntmps23
  go_wp2_with fail
  refine H.out.mono ?_
  rintro e w1 ⟨rfl, hw⟩
  rw [hw]
  go_wp2
  go_ret
  exact ⟨rfl, rfl⟩
/-- A node of nothing. -/
def zeroN : Value := .agg #[.int .i64 0, .int .i64 0, .string ⟨#[]⟩, .string ⟨#[]⟩, .string ⟨#[]⟩, .string ⟨#[]⟩, .slice none 0 0, .slice none 0 0]
theorem node_none (P : Value) (z : Int) (w : World) (H : ∀ w, Hid (Calls Tryd.prog 36 #[P, .int .i64 z] w fun e w' => e = .returned (.bool false) ∧ w' = w)) : Calls Tryd.prog 19 #[P, .int .i64 z] w fun e w' => e = .returned zeroN ∧ Below w.heap.size w w' := by
  have HH := Lib.hid H
  clear H
  go_enter Tryd.func19, Tryd.ntmps19
  go_wp2_with fail
  refine ((HH.out _).out).mono ?_
  rintro e w1 ⟨rfl, hw⟩
  rw [hw]
  clear hw
  go_wp2
  refine bodyPost_ret (v := zeroN) (by simp [results, zeroN, Tryd.results19, go_sem]) rfl ⟨rfl, ?_⟩
  exact (Below.refl _ _).alloc (Nat.le_refl _) _
theorem nodes_nil (w : World) : Calls Tryd.prog 14 #[.pointer none] w fun e w' => ∃ A c, e = .returned (.slice A 0 c) ∧ Below w.heap.size w w' := by
  have HL := Lib.hid (list_nil w)
  have HC : Hid (Calls Tryd.prog 31 #[.slice none 0 0, .func (.func 32) #[] #[]] w fun e w' => ∃ A c, e = .returned (.slice A 0 c) ∧ Below w.heap.size w w') := by
    refine (ncopies_any [] (.slice none 0 0) w ⟨none, 0, rfl, Nat.le_refl _, by omega, fun h => absurd rfl h⟩ (by simp) (by simp)).mono ?_
    rintro e w' ⟨v', rfl, h, hb⟩
    rcases h with ⟨_, rfl⟩ | ⟨g, cur, rfl, _, h3, h4, _⟩
    · exact ⟨_, _, rfl, hb⟩
    · exact ⟨_, _, rfl, hb⟩
  go_enter Tryd.func14, Tryd.ntmps14
  go_wp2_with fail
  refine HL.out.mono ?_
  rintro e w1 ⟨rfl, hw⟩
  rw [hw]
  clear hw
  go_wp2_with fail
  refine HC.out.mono ?_
  rintro e w2 ⟨A, c, rfl, hb⟩
  go_wp2
  go_ret
  exact ⟨_, _, rfl, hb⟩
end Go.Proofs.YtchnmkagemmjoaaDoor
namespace Go.Proofs.YtchnmkagemmjoaaDoor
open Go.RowKit
set_option linter.unusedVariables false
set_option maxRecDepth 100000
/-- The first element. -/
def topFrom : List Nd → Nat → Nat
  | [], _ => 0
  | x :: r, k => if x.k = 1 then k else topFrom r (k + 1)
def topP (l : List Nd) : Nat := topFrom l 0
theorem topFrom_drop {l : List Nd} : ∀ k, k ≤ l.length → (∀ j (hj : j < l.length), j < k → l[j].k ≠ 1) → topP l = topFrom (l.drop k) k
  | 0, _, _ => rfl
  | k + 1, h, hn => by
    rw [topFrom_drop k (by omega) (fun j hj hk => hn j hj (by omega)), List.drop_eq_getElem_cons (show k < l.length by omega), topFrom, if_neg (hn k (by omega) (by omega))]
/-- What holds at each round's head. -/
def TpRel (w : World) (l : List Nd) (i : Value) (wr : World) : Prop := ∃ k : Nat, k ≤ l.length ∧ i = .int .i64 k ∧ (∀ j (hj : j < l.length), j < k → l[j].k ≠ 1) ∧ Below w.heap.size w wr
set_option maxHeartbeats 8000000 in
theorem top_of (P v : Value) (l : List Nd) (w : World) (H : Hid (Calls Tryd.prog 35 #[P] w fun e w' => e = .returned v ∧ w' = w)) (hv : NsAt w w.heap.size v l) (hn : l.length ≤ 100000) : Calls Tryd.prog 15 #[P] w fun e w' => e = .returned (.int .i64 (topP l : Nat)) ∧ Below w.heap.size w w' := by
  have HV := Lib.hid hv
  obtain ⟨A, cap, rfl, hc1, hc2⟩ := hv.slice
  obtain ⟨R, hR⟩ : ∃ R, topP l = R := ⟨_, rfl⟩
  rw [hR]
  have HR := Lib.hid hR
  obtain ⟨n, hnE⟩ : ∃ n, l.length = n := ⟨_, rfl⟩
  have HN := Lib.hid hnE
  rw [hnE] at hn hc1 H
  clear hR hnE
  go_enter Tryd.func15, Tryd.ntmps15
  go_wp2_with fail
  refine H.out.mono ?_
  rintro e w1 ⟨rfl, hw⟩
  rw [hw]
  clear hw
  go_wp2
  go_loopw [8] (TpRel w l) (fun i _ => n - (intOf i).toNat)
  case atStart => exact ⟨0, Nat.zero_le _, rfl, fun j _ h => by omega, Below.refl _ _⟩
  case round =>
    obtain ⟨k, hk, rfl, hno, hb⟩ := hrel
    rw [HN.out] at hk
    have HNO := Lib.hid hno
    clear hno
    by_cases hlt : k < n
    · have hkl : k < l.length := by rw [HN.out]; exact hlt
      obtain ⟨b, o, cap', e, _, _, hbB, hnd⟩ := (HV.out.below hb).open (by intro h; rw [h] at hkl; simp at hkl)
      simp only [Value.slice.injEq] at e
      obtain ⟨rfl, _, rfl⟩ := e
      obtain ⟨vd, va, d0, d1, d2, d3, d4, d5, d6, d7, ⟨A1, q1, rfl, _⟩, ⟨A2, q2, rfl, _⟩⟩ := (hnd k hkl).cells
      have hkz : (k : Int) < (n : Int) := by omega
      have HF : Hid (topP l = topFrom (l.drop k) k) := topFrom_drop k (by omega) HNO.out
      have HD : Hid (l.drop k = l[k] :: l.drop (k + 1)) := List.drop_eq_getElem_cons hkl
      have HMO : Hid (l[k].k ≠ 1 → ∀ j (hj : j < l.length), j < k + 1 → l[j].k ≠ 1) := fun h j hj hjk => by
        rcases Nat.lt_or_eq_of_le (Nat.le_of_lt_succ hjk) with h1 | h1
        · exact HNO.out j hj h1
        · subst h1; exact h
      generalize l[k] = x at *
      clear hnd
      by_cases hx : x.k = 1
      · have t1 : (x.k == 1) = true := by simpa using hx
        have hRk : R = k := by rw [← HR.out, HF.out, HD.out, topFrom, if_pos hx]
        have HRK := Lib.hid hRk
        clear hx hRk
        go_wp2
        go_ret
        exact ⟨by rw [HRK.out]; rfl, hb.alloc hb.size _⟩
      · have t1 : (x.k == 1) = false := by simpa using hx
        have HMX := Lib.hid (HMO.out hx)
        clear hx
        go_wp2
        go_roundw
        case rel => exact ⟨k + 1, hkl, by go_num, HMX.out, hb.alloc hb.size _⟩
        case measure => simp [intOf]; omega
    · have hkz : ¬ (k : Int) < (n : Int) := by omega
      have hR0 : R = 0 := by
        rw [← HR.out, topFrom_drop k (by rw [HN.out]; exact hk) HNO.out, List.drop_of_length_le (by rw [HN.out]; omega)]; rfl
      subst hR0
      go_wp2
      go_ret
      exact ⟨rfl, hb⟩
theorem top_nil (w : World) : Calls Tryd.prog 15 #[.pointer none] w fun e w' => e = .returned (.int .i64 0) ∧ Below w.heap.size w w' :=
  top_of _ _ [] w (list_nil w) ⟨none, 0, rfl, Nat.le_refl _, by omega, fun h => absurd rfl h⟩ (by simp)
theorem top_doc {B d : Nat} {l : List Nd} (w : World) (h : DocAt w B d l) (hn : l.length ≤ 100000) (hs : ∀ x ∈ l, Sm x) : Calls Tryd.prog 15 #[.pointer (some ⟨d, 0, none⟩)] w fun e w' => e = .returned (.int .i64 (topP l : Nat)) ∧ Below w.heap.size w w' := by
  obtain ⟨v, hc, hv, _⟩ := h.list hn hs
  exact top_of _ v l w (list_doc d v w hc) hv hn
/-- The first node behind all below a node. -/
def endFrom (n : Nat) : List Nd → Nat → Nat
  | [], k => k
  | x :: r, k => if (n : Int) ≤ x.n then endFrom n r (k + 1) else k
def endP (l : List Nd) (n : Nat) : Nat := endFrom n (l.drop (n + 1)) (n + 1)
/-- What holds at each round's head. -/
def EdRel (w : World) (l : List Nd) (n : Nat) (i : Value) (wr : World) : Prop := ∃ k : Nat, n < k ∧ k ≤ l.length ∧ i = .int .i64 k ∧ endP l n = endFrom n (l.drop k) k ∧ wr = w
set_option maxHeartbeats 8000000 in
theorem end_doc {B d : Nat} {l : List Nd} (n : Nat) (w : World) (h : DocAt w B d l) (hn : l.length ≤ 100000) (hs : ∀ x ∈ l, Sm x) (hnl : n < l.length) : Calls Tryd.prog 25 #[.pointer (some ⟨d, 0, none⟩), .int .i64 (n : Int)] w fun e w' => e = .returned (.int .i64 (endP l n : Nat)) ∧ w' = w := by
  have HH := Lib.hid (has_doc (n : Int) w h hn hs)
  rw [decide_eq_true (by omega)] at HH
  obtain ⟨v, hc, hv, _⟩ := h.list hn hs
  obtain ⟨b, o, cap, rfl, hc1, hc2, hbB, hnd⟩ := hv.open (by intro h; rw [h] at hnl; simp at hnl)
  have HND := Lib.hid hnd
  obtain ⟨R, hR⟩ : ∃ R, endP l n = R := ⟨_, rfl⟩
  rw [hR]
  have HR := Lib.hid hR
  obtain ⟨m, hmE⟩ : ∃ m, l.length = m := ⟨_, rfl⟩
  have HM := Lib.hid hmE
  rw [hmE] at hn hc1 hnl hc
  clear hnd hv h hR hmE
  go_enter Tryd.func25, Tryd.ntmps25
  go_wp2_with fail
  refine HH.out.mono ?_
  rintro e w1 ⟨rfl, hw⟩
  rw [hw]
  clear hw
  go_wp2
  go_loopw [5] (EdRel w l n) (fun i _ => m - (intOf i).toNat)
  case atStart => exact ⟨n + 1, by omega, by rw [HM.out]; omega, by go_num, rfl, rfl⟩
  case round =>
    obtain ⟨k, hk1, hk, rfl, hE, rfl⟩ := hrel
    rw [HM.out] at hk
    have HE := Lib.hid hE
    clear hE
    by_cases hlt : k < m
    · have hkl : k < l.length := by rw [HM.out]; exact hlt
      obtain ⟨vd, va, d0, d1, _⟩ := (HND.out k hkl).cells
      have hkz : (k : Int) < (m : Int) := by omega
      have HD : Hid (l.drop k = l[k] :: l.drop (k + 1)) := List.drop_eq_getElem_cons hkl
      generalize l[k] = x at *
      clear d0
      by_cases hx : (n : Int) ≤ x.n
      · have HNX : Hid (EdRel wr l n (.int .i64 ((k + 1 : Nat) : Int)) wr) := ⟨k + 1, by omega, hkl, rfl, by rw [HE.out, HD.out, endFrom, if_pos hx], rfl⟩
        go_wp2
        go_roundw
        case rel => exact (show Value.int .i64 ((k + 1 : Nat) : Int) = _ by go_num) ▸ HNX.out
        case measure => simp [intOf]; omega
      · have hRk : R = k := by rw [← HR.out, HE.out, HD.out, endFrom, if_neg hx]
        have HRK := Lib.hid hRk
        have hx1 := decide_eq_false hx
        clear hRk
        go_wp2
        go_ret
        exact ⟨by rw [HRK.out]; rfl, rfl⟩
    · have hkz : ¬ (k : Int) < (m : Int) := by omega
      have hkz1 := decide_eq_false hkz
      have hRk : R = k := by rw [← HR.out, HE.out, List.drop_of_length_le (by rw [HM.out]; omega)]; rfl
      have HRK := Lib.hid hRk
      clear hRk
      go_wp2
      go_ret
      exact ⟨by rw [HRK.out]; rfl, rfl⟩
end Go.Proofs.YtchnmkagemmjoaaDoor
namespace Go.Proofs.YtchnmkagemmjoaaDoor
open Go.RowKit
set_option linter.unusedVariables false
set_option maxRecDepth 100000
def ndA : Nd := ⟨0, -1, ⟨#[]⟩, ⟨#[]⟩, ⟨#[]⟩, ⟨#[]⟩, [], []⟩
def ndB : Nd := ⟨1, 0, ⟨#[]⟩, ⟨#[97]⟩, ⟨#[]⟩, ⟨#[]⟩, [], []⟩
theorem sm_A : Sm ndA := ⟨by show 0 ≤ 2000000; omega, by show 0 ≤ 2000000; omega, by show 0 ≤ 2000000; omega, by show 0 ≤ 2000000; omega, by show 0 ≤ 2000000; omega, by show 0 ≤ 2000000; omega, (fun d h => by cases h), (fun d h => by cases h)⟩
theorem sm_B : Sm ndB := ⟨by show 0 ≤ 2000000; omega, by show 1 ≤ 2000000; omega, by show 0 ≤ 2000000; omega, by show 0 ≤ 2000000; omega, by show 0 ≤ 2000000; omega, by show 0 ≤ 2000000; omega, (fun d h => by cases h), (fun d h => by cases h)⟩
theorem sm_AB : ∀ x ∈ [ndA, ndB], Sm x := fun x h => by
  rcases List.mem_cons.1 h with rfl | h
  · exact sm_A
  · rcases List.mem_cons.1 h with rfl | h
    · exact sm_B
    · cases h
theorem nm_a : nmS ⟨#[97]⟩ = true := nmB_yes ⟨[97], by simp, by decide, by decide⟩
theorem chn_0 : chn [ndA, ndB] 0 = [0] := chn_stop (by decide)
theorem chn_1 : chn [ndA, ndB] 1 = [1, 0] := by rw [chn_step (by decide)]; rw [show (pa [ndA, ndB] 1).toNat = 0 from by decide, chn_0]
theorem hang_1 : hangB [ndA, ndB] 1 = true := by
  unfold hangB
  rw [show pa [ndA, ndB] 1 = 0 from by decide]
  simp [chn_0, show kd [ndA, ndB] 0 = 0 from by decide]
theorem placed_AB : placedB [ndA, ndB] = true := by
  rw [placed_end]
  · simp [tops, show pa [ndA, ndB] 1 = 0 from by decide, show kd [ndA, ndB] 1 = 1 from by decide]
  · intro j h1 h2
    have : j = 1 := by simp at h2; omega
    subst this
    unfold okP
    rw [hang_1]
    simp [besideB, show kd [ndA, ndB] 1 = 1 from by decide]
theorem elem_B : elemF ndB = true := by
  have h1 : nmS ndB.l = true := nm_a
  unfold elemF
  rw [h1]
  simp [ndB, prefB, eqL, dkeys, akeys, dupB]
theorem stk_1 : stk [ndA, ndB] 1 = [] := by
  unfold stk
  rw [chn_1]
  rfl
theorem within_AB : withinB [ndA, ndB] = true := by
  unfold withinB
  refine decide_eq_true ⟨by simp, fun i hi => ?_⟩
  have : i = 0 ∨ i = 1 := by simp at hi; omega
  rcases this with rfl | rfl
  · exact ⟨by unfold dp; rw [chn_0]; simp, by simp [mks, ndA]⟩
  · exact ⟨by unfold dp; rw [chn_1]; simp, by simp [mks, ndB]⟩
theorem names_AB : namesB [ndA, ndB] = true := by
  unfold namesB
  refine decide_eq_true (fun i hi => ?_)
  have : i = 0 ∨ i = 1 := by simp at hi; omega
  rcases this with rfl | rfl
  · rfl
  · rw [elmN_at hi, stk_1]
    show (!(ndB.k == 1) || elemM [] ndB) = true
    simp [elemM, meanB, findS, ndB, eqL, xmlP]
theorem formed_AB : formedP [ndA, ndB] = true := by
  rw [show formedP [ndA, ndB] = (rootB ndA && (placedB [ndA, ndB] && ([ndB].all nodeB && namesB [ndA, ndB]))) from rfl, placed_AB, names_AB]
  have h1 : rootB ndA = true := by simp [rootB, ndA, bareB, eqL]
  have h2 : nodeB ndB = true := by
    unfold nodeB
    rw [show (ndB.k == 1) = true from rfl, elem_B]
    rfl
  rw [h1]
  simp [h2]
theorem top_AB : topP [ndA, ndB] = 1 := by decide
theorem end_AB : endP [ndA, ndB] 0 = 2 := by decide
set_option maxHeartbeats 8000000 in
theorem awake_any (w : World) (hW : Wd w) : Calls Tryd.prog 9 #[] w fun e w' => e = .returned (.bool true) ∧ Below w.heap.size w w' := by
  obtain ⟨C, hC⟩ : ∃ C : Array Value, #[.int .i64 0, .int .i64 (-1), .string ⟨#[]⟩, .string ⟨#[]⟩, .string ⟨#[]⟩, .string ⟨#[]⟩, .slice none 0 0, .slice none 0 0, .int .i64 1, .int .i64 0, .string ⟨#[]⟩, .string ⟨#[97]⟩, .string ⟨#[]⟩, .string ⟨#[]⟩, .slice none 0 0, .slice none 0 0] = C := ⟨_, rfl⟩
  have HOF : Hid (Calls Tryd.prog 11 #[.slice (some ⟨w.heap.size, 0, none⟩) 2 2] (w.alloc (.cells C 38)) fun e w' => (∃ d, e = .returned (.tuple #[.pointer (some ⟨d, 0, none⟩), .int .i64 0]) ∧ DocAt w' (w.alloc (.cells C 38)).heap.size d [ndA, ndB]) ∧ Below (w.alloc (.cells C 38)).heap.size (w.alloc (.cells C 38)) w') := by
    have hh := heap_alloc_last w (.cells C 38)
    have hv : NsAt (w.alloc (.cells C 38)) (w.alloc (.cells C 38)).heap.size (.slice (some ⟨w.heap.size, 0, none⟩) 2 2) [ndA, ndB] := by
      refine ⟨some ⟨w.heap.size, 0, none⟩, 2, rfl, Nat.le_refl _, by omega, fun _ => ⟨w.heap.size, 0, rfl, block_lt hh, fun i hi => ?_⟩⟩
      have he : DsAt (w.alloc (.cells C 38)) (w.alloc (.cells C 38)).heap.size (.slice none 0 0) [] := ⟨none, 0, rfl, Nat.le_refl _, by omega, fun h => absurd rfl h⟩
      have hf : AsAt (w.alloc (.cells C 38)) (w.alloc (.cells C 38)).heap.size (.slice none 0 0) [] := ⟨none, 0, rfl, Nat.le_refl _, by omega, fun h => absurd rfl h⟩
      have : i = 0 ∨ i = 1 := by simp at hi; omega
      rcases this with rfl | rfl
      · refine ⟨.slice none 0 0, .slice none 0 0, fun j hj => ?_, he, hf⟩
        rw [cell_of_row _ w.heap.size _ _ _ _ hh, ← hC]
        match j, hj with
        | 0, _ => rfl
        | 1, _ => rfl
        | 2, _ => rfl
        | 3, _ => rfl
        | 4, _ => rfl
        | 5, _ => rfl
        | 6, _ => rfl
        | 7, _ => rfl
      · refine ⟨.slice none 0 0, .slice none 0 0, fun j hj => ?_, he, hf⟩
        rw [cell_of_row _ w.heap.size _ _ _ _ hh, ← hC]
        match j, hj with
        | 0, _ => rfl
        | 1, _ => rfl
        | 2, _ => rfl
        | 3, _ => rfl
        | 4, _ => rfl
        | 5, _ => rfl
        | 6, _ => rfl
        | 7, _ => rfl
    refine (of_any [ndA, ndB] _ _ hv (by simp) sm_AB (hW.later ((Below.refl _ _).alloc (Nat.le_refl _) _))).mono ?_
    rintro e w' ⟨h, hb⟩
    refine ⟨?_, hb⟩
    rcases h with ⟨h, _⟩ | ⟨_, h, _⟩ | ⟨_, _, h⟩
    · rw [formed_AB] at h; cases h
    · rw [within_AB] at h; cases h
    · exact h
  rw [← hC] at HOF
  clear hC hW
  go_enter Tryd.func9, Tryd.ntmps9
  go_wp2_with fail
  refine HOF.out.mono ?_
  rintro e w1 ⟨⟨d, rfl, hd⟩, hb1⟩
  have hbw := below_box hb1
  have HL := Lib.hid (len_doc w1 hd (by simp) sm_AB)
  have HT := Lib.hid (top_doc w1 hd (by simp) sm_AB)
  have HD := Lib.hid hd
  rw [top_AB] at HT
  clear hd hb1 HOF
  go_wp2_with fail
  refine HL.out.mono ?_
  rintro e w2 ⟨rfl, hw⟩
  rw [hw]
  clear hw
  go_wp2_with fail
  refine HT.out.mono ?_
  rintro e w3 ⟨rfl, hb3⟩
  have HE : Hid (Calls Tryd.prog 25 #[.pointer (some ⟨d, 0, none⟩), .int .i64 0] w3 fun e w' => e = .returned (.int .i64 2) ∧ w' = w3) := by
    have h := end_doc 0 w3 (HD.out.later hb3) (by simp) sm_AB (by simp)
    rw [end_AB] at h
    exact h
  go_wp2_with fail
  refine HE.out.mono ?_
  rintro e w4 ⟨rfl, hw⟩
  rw [hw]
  clear hw
  go_wp2
  go_ret
  exact ⟨rfl, hbw.trans (hb3.mono hbw.size)⟩
end Go.Proofs.YtchnmkagemmjoaaDoor
namespace Go.Proofs.YtchnmkagemmjoaaDoor
open Go.RowKit
set_option linter.unusedVariables false
set_option maxRecDepth 100000
def fewN (x : Nd) : Bool := decide (x.ds.length ≤ 70) && decide (x.ats.length ≤ 70) && decide (x.t.size ≤ 2000)
def fewB (l : List Nd) (m : Nat) : Bool := decide (l.length ≤ m) && l.all fewN
/-- What holds at each round's head. -/
def FwRel (w : World) (l : List Nd) (i : Value) (wr : World) : Prop := ∃ k : Nat, k ≤ l.length ∧ i = .int .i64 k ∧ (∀ j (hj : j < l.length), j < k → fewN l[j] = true) ∧ wr = w
set_option maxHeartbeats 8000000 in
theorem few_any (l : List Nd) (m : Nat) (v : Value) (w : World) (hm : m ≤ 1000) (hv : NsAt w w.heap.size v l) : Calls Tryd.prog 10 #[v, .int .i64 (m : Int)] w fun e w' => e = .returned (.bool (fewB l m)) ∧ w' = w := by
  have HV := Lib.hid hv
  obtain ⟨A, cap, rfl, hc1, hc2⟩ := hv.slice
  obtain ⟨R, hR⟩ : ∃ R, fewB l m = R := ⟨_, rfl⟩
  rw [hR]
  have HR := Lib.hid hR
  obtain ⟨n, hnE⟩ : ∃ n, l.length = n := ⟨_, rfl⟩
  have HN := Lib.hid hnE
  rw [hnE] at hc1 ⊢
  clear hR hnE
  by_cases hmn : (n : Int) > (m : Int)
  · have hR0 : R = false := by rw [← HR.out, fewB, HN.out, decide_eq_false (by omega)]; rfl
    subst hR0
    go_enter Tryd.func10, Tryd.ntmps10
    go_wp2
    go_ret
    exact ⟨rfl, rfl⟩
  · have hmn1 := decide_eq_false hmn
    have hn : n ≤ 1000 := by omega
    have HALL : Hid (R = l.all fewN) := by show R = _; rw [← HR.out, fewB, HN.out, decide_eq_true (by omega), Bool.true_and]
    go_enter Tryd.func10, Tryd.ntmps10
    go_wp2
    go_loopw [12] (FwRel w l) (fun i _ => n - (intOf i).toNat)
    case atStart => exact ⟨0, Nat.zero_le _, rfl, fun j _ h => by omega, rfl⟩
    case round =>
      obtain ⟨k, hk, rfl, hno, rfl⟩ := hrel
      rw [HN.out] at hk
      have HNO := Lib.hid hno
      clear hno
      by_cases hlt : k < n
      · have hkl : k < l.length := by rw [HN.out]; exact hlt
        obtain ⟨b, o, cap', e, _, _, hbB, hnd⟩ := HV.out.open (by intro h; rw [h] at hkl; simp at hkl)
        simp only [Value.slice.injEq] at e
        obtain ⟨rfl, _, rfl⟩ := e
        obtain ⟨vd, va, d0, d1, d2, d3, d4, d5, d6, d7, ⟨A1, q1, rfl, _, _, _⟩, ⟨A2, q2, rfl, _, _, _⟩⟩ := (hnd k hkl).cells
        have hkz : (k : Int) < (n : Int) := by omega
        have HMO : Hid (fewN l[k] = true → ∀ j (hj : j < l.length), j < k + 1 → fewN l[j] = true) := fun h j hj hjk => by
          rcases Nat.lt_or_eq_of_le (Nat.le_of_lt_succ hjk) with h1 | h1
          · exact HNO.out j hj h1
          · subst h1; exact h
        have HBAD : Hid (fewN l[k] = false → R = false) := fun h => by
          rw [HALL.out, List.all_eq_false]
          exact ⟨l[k], List.getElem_mem hkl, by simp [h]⟩
        generalize l[k] = x at *
        obtain ⟨t, ht⟩ : ∃ t, x.t = t := ⟨_, rfl⟩
        obtain ⟨a1, ha1⟩ : ∃ a, x.ds.length = a := ⟨_, rfl⟩
        obtain ⟨a2, ha2⟩ : ∃ a, x.ats.length = a := ⟨_, rfl⟩
        have HX : Hid (fewN x = (decide (a1 ≤ 70) && decide (a2 ≤ 70) && decide (t.size ≤ 2000))) := by show fewN x = _; rw [fewN, ht, ha1, ha2]
        rw [ht] at d5
        rw [ha1] at d6
        rw [ha2] at d7
        clear hnd d0 d1 d2 d3 d4 ht ha1 ha2
        by_cases h1 : (a1 : Int) > 70
        · have hR0 : R = false := HBAD.out (by rw [HX.out, decide_eq_false (show ¬ a1 ≤ 70 by omega)]; rfl)
          subst hR0
          go_wp2
          go_ret
          exact ⟨rfl, rfl⟩
        · have h1d := decide_eq_false h1
          by_cases h2 : (a2 : Int) > 70
          · have hR0 : R = false := HBAD.out (by rw [HX.out, decide_eq_false (show ¬ a2 ≤ 70 by omega)]; simp)
            subst hR0
            go_wp2
            go_ret
            exact ⟨rfl, rfl⟩
          · have h2d := decide_eq_false h2
            by_cases h3 : (t.size : Int) > 2000
            · have hR0 : R = false := HBAD.out (by rw [HX.out, decide_eq_false (show ¬ t.size ≤ 2000 by omega)]; simp)
              subst hR0
              go_wp2
              go_ret
              exact ⟨rfl, rfl⟩
            · have h3d := decide_eq_false h3
              have HMX := Lib.hid (HMO.out (by rw [HX.out, decide_eq_true (show a1 ≤ 70 by omega), decide_eq_true (show a2 ≤ 70 by omega), decide_eq_true (show t.size ≤ 2000 by omega)]; rfl))
              go_wp2
              go_roundw
              case rel => exact ⟨k + 1, hkl, by go_num, HMX.out, rfl⟩
              case measure => simp [intOf]; omega
      · have hkz : ¬ (k : Int) < (n : Int) := by omega
        have hR1 : R = true := by
          rw [HALL.out, List.all_eq_true]
          intro x hx
          obtain ⟨j, hj, rfl⟩ := List.getElem_of_mem hx
          exact HNO.out j hj (by rw [HN.out] at hj; omega)
        subst hR1
        go_wp2
        go_ret
        exact ⟨rfl, rfl⟩
end Go.Proofs.YtchnmkagemmjoaaDoor
namespace Go.Proofs.YtchnmkagemmjoaaDoor
open Go.RowKit
set_option linter.unusedVariables false
set_option maxRecDepth 100000
theorem NsOwn.form {w : World} {B : Nat} {v : Value} {l : List Nd} (h : NsOwn w B v l) : ∃ A c, v = .slice A l.length c := by
  rcases h with ⟨rfl, rfl⟩ | ⟨g, cur, rfl, _⟩
  · exact ⟨_, _, rfl⟩
  · exact ⟨_, _, rfl⟩
set_option maxHeartbeats 4000000 in
theorem nodes_doc {B d : Nat} {l : List Nd} (w : World) (h : DocAt w B d l) (hn : l.length ≤ 100000) (hs : ∀ x ∈ l, Sm x) : Calls Tryd.prog 14 #[.pointer (some ⟨d, 0, none⟩)] w fun e w' => ∃ v', e = .returned v' ∧ NsOwn w' w.heap.size v' l ∧ Below w.heap.size w w' := by
  obtain ⟨v, hc, hv, _⟩ := h.list hn hs
  have HL := Lib.hid (list_doc d v w hc)
  have HC := Lib.hid (ncopies_any l v w hv (by omega) hs)
  obtain ⟨A, cap, rfl, _, _⟩ := hv.slice
  clear hc hv h
  go_enter Tryd.func14, Tryd.ntmps14
  go_wp2_with fail
  refine HL.out.mono ?_
  rintro e w1 ⟨rfl, hw⟩
  rw [hw]
  clear hw
  go_wp2_with fail
  refine HC.out.mono ?_
  rintro e w2 ⟨v', rfl, ho, hb⟩
  have HO := Lib.hid ho
  obtain ⟨A', c', rfl⟩ := ho.form
  clear ho
  go_wp2
  go_ret
  exact ⟨_, rfl, HO.out, hb⟩
/-- The eight cells of a block, set one behind the other. -/
theorem eight_zero {w2 : World} {b : Nat} {cs : Array Value} {t : TypeId} {fz : Nat × Nat} (v0 v1 v2 v3 v4 v5 v6 v7 : Value) (h : w2.heap[b]? = some (.cells cs t fz)) (h8 : cs.size = 8) :
    ∃ W8, W8 = ((((((((w2.setCell ⟨b, 0, none⟩ v0).setCell ⟨b, 1, none⟩ v1).setCell ⟨b, 2, none⟩ v2).setCell ⟨b, 3, none⟩ v3).setCell ⟨b, 4, none⟩ v4).setCell ⟨b, 5, none⟩ v5).setCell ⟨b, 6, none⟩ v6).setCell ⟨b, 7, none⟩ v7) ∧ (∀ g, g ≠ b → W8.heap[g]? = w2.heap[g]?) ∧ (∀ (B : Nat) (a : World), Below B a w2 → B ≤ b → Below B a W8) ∧ W8.cell? ⟨b, 0, none⟩ = some v0 ∧ W8.cell? ⟨b, 1, none⟩ = some v1 ∧ W8.cell? ⟨b, 2, none⟩ = some v2 ∧ W8.cell? ⟨b, 3, none⟩ = some v3 ∧ W8.cell? ⟨b, 4, none⟩ = some v4 ∧ W8.cell? ⟨b, 5, none⟩ = some v5 ∧ W8.cell? ⟨b, 6, none⟩ = some v6 ∧ W8.cell? ⟨b, 7, none⟩ = some v7 := by
  have hb : (((((((((w2.setCell ⟨b, 0, none⟩ v0).setCell ⟨b, 1, none⟩ v1).setCell ⟨b, 2, none⟩ v2).setCell ⟨b, 3, none⟩ v3).setCell ⟨b, 4, none⟩ v4).setCell ⟨b, 5, none⟩ v5).setCell ⟨b, 6, none⟩ v6).setCell ⟨b, 7, none⟩ v7)).heap[b]? = some (.cells ((((((((cs.setIfInBounds 0 v0).setIfInBounds 1 v1).setIfInBounds 2 v2).setIfInBounds 3 v3).setIfInBounds 4 v4).setIfInBounds 5 v5).setIfInBounds 6 v6).setIfInBounds 7 v7) t fz) := (block_set (block_set (block_set (block_set (block_set (block_set (block_set (block_set h))))))))
  refine ⟨_, rfl, fun g hg => ((Below.heap_setCell _ _ _ _ hg).trans ((Below.heap_setCell _ _ _ _ hg).trans ((Below.heap_setCell _ _ _ _ hg).trans ((Below.heap_setCell _ _ _ _ hg).trans ((Below.heap_setCell _ _ _ _ hg).trans ((Below.heap_setCell _ _ _ _ hg).trans ((Below.heap_setCell _ _ _ _ hg).trans ((Below.heap_setCell _ _ _ _ hg).trans rfl)))))))), fun B a hB hle => ((((((((hB.setCell (p := ⟨b, 0, none⟩) hle v0).setCell (p := ⟨b, 1, none⟩) hle v1).setCell (p := ⟨b, 2, none⟩) hle v2).setCell (p := ⟨b, 3, none⟩) hle v3).setCell (p := ⟨b, 4, none⟩) hle v4).setCell (p := ⟨b, 5, none⟩) hle v5).setCell (p := ⟨b, 6, none⟩) hle v6).setCell (p := ⟨b, 7, none⟩) hle v7), ?_⟩
  have hc := fun j => cell_of_row _ b j _ _ _ hb
  refine ⟨?_, ?_, ?_, ?_, ?_, ?_, ?_, ?_⟩ <;> rw [hc] <;> simp [h8]
set_option maxHeartbeats 8000000 in
theorem node_doc {B d : Nat} {l : List Nd} (n : Nat) (w : World) (h : DocAt w B d l) (hn : l.length ≤ 100000) (hs : ∀ x ∈ l, Sm x) (hnl : n < l.length) : Calls Tryd.prog 19 #[.pointer (some ⟨d, 0, none⟩), .int .i64 (n : Int)] w fun e w' => ∃ vd va, e = .returned (.agg #[.int .i64 l[n].k, .int .i64 l[n].n, .string l[n].p, .string l[n].l, .string l[n].u, .string l[n].t, vd, va]) ∧ OwnDs w' w.heap.size vd l[n].ds ∧ OwnAs w' w.heap.size va l[n].ats ∧ Below w.heap.size w w' := by
  have HH : Hid (∀ w', Below w.heap.size w w' → Calls Tryd.prog 36 #[.pointer (some ⟨d, 0, none⟩), .int .i64 (n : Int)] w' fun e w'' => e = .returned (.bool true) ∧ w'' = w') := fun w' hb => by
    have := has_doc (n : Int) w' (h.later hb) hn hs
    rw [decide_eq_true (by omega)] at this
    exact this
  obtain ⟨v, hc, hv, hd⟩ := h.list hn hs
  obtain ⟨b, o, cap, rfl, hc1, hc2, hbB, hnd⟩ := hv.open (by intro h; rw [h] at hnl; simp at hnl)
  obtain ⟨vd, va, d0, d1, d2, d3, d4, d5, d6, d7, hds, has⟩ := (hnd n hnl).cells
  have HX : Hid (NdV w w.heap.size (.agg #[.int .i64 l[n].k, .int .i64 l[n].n, .string l[n].p, .string l[n].l, .string l[n].u, .string l[n].t, vd, va]) l[n]) := ⟨vd, va, rfl, hds, has⟩
  obtain ⟨A1, c1, rfl, _⟩ := hds
  obtain ⟨A2, c2, rfl, _⟩ := has
  have hsx := hs _ (List.getElem_mem hnl)
  have HCP : Hid (∀ w', Below w.heap.size w w' → Calls Tryd.prog 32 #[.agg #[.int .i64 l[n].k, .int .i64 l[n].n, .string l[n].p, .string l[n].l, .string l[n].u, .string l[n].t, .slice A1 l[n].ds.length c1, .slice A2 l[n].ats.length c2]] w' fun e w'' => ∃ vd va, e = .returned (.agg #[.int .i64 l[n].k, .int .i64 l[n].n, .string l[n].p, .string l[n].l, .string l[n].u, .string l[n].t, vd, va]) ∧ OwnDs w'' w'.heap.size vd l[n].ds ∧ OwnAs w'' w'.heap.size va l[n].ats ∧ Below w'.heap.size w' w'') := fun w' hb' =>
    nodeCopy_any l[n] _ hsx w' (HX.out.later hb')
  obtain ⟨m, hmE⟩ : ∃ m, l.length = m := ⟨_, rfl⟩
  rw [hmE] at hn hc1 hnl hc
  generalize l[n] = x at *
  clear hnd hv h hmE
  go_enter Tryd.func19, Tryd.ntmps19
  go_wp2_with fail
  refine (HH.out _ (by first | exact Below.refl _ _ | exact (Below.refl _ _).alloc (Nat.le_refl _) _)).mono ?_
  rintro e w1 ⟨rfl, hw⟩
  rw [hw]
  clear hw
  go_wp2_with fail
  refine (HCP.out _ (by first | exact Below.refl _ _ | exact (Below.refl _ _).alloc (Nat.le_refl _) _)).mono ?_
  rintro e w2 ⟨vd', va', rfl, ho1, ho2, hb1⟩
  obtain ⟨A3, c3, rfl⟩ := OwnSl.form ho1
  obtain ⟨A4, c4, rfl⟩ := OwnSl.form ho2
  have HO1 : Hid (OwnDs w2 w.heap.size (.slice A3 x.ds.length c3) x.ds) := OwnSl.mono ho1 (by simp)
  have HO2 : Hid (OwnAs w2 w.heap.size (.slice A4 x.ats.length c4) x.ats) := OwnSl.mono ho2 (by simp)
  have hbw := below_box hb1
  have hcur : w2.heap[w.heap.size]? = some (.cells #[.int .i64 0, .int .i64 0, .string ⟨#[]⟩, .string ⟨#[]⟩, .string ⟨#[]⟩, .string ⟨#[]⟩, .slice none 0 0, .slice none 0 0] 38 (0, 0)) := (hb1.block _ (by simp)).trans (heap_alloc_last w _)
  have hfz : ∀ j, w2.frozen? ⟨w.heap.size, j, none⟩ = false := fun j => by unfold World.frozen?; rw [hcur]; simp
  have g0 : w2.cell? ⟨w.heap.size, 0, none⟩ = some (.int .i64 0) := by rw [cell_of_row w2 w.heap.size _ _ _ _ hcur]; rfl
  have g1 : w2.cell? ⟨w.heap.size, 1, none⟩ = some (.int .i64 0) := by rw [cell_of_row w2 w.heap.size _ _ _ _ hcur]; rfl
  have g2 : w2.cell? ⟨w.heap.size, 2, none⟩ = some (.string ⟨#[]⟩) := by rw [cell_of_row w2 w.heap.size _ _ _ _ hcur]; rfl
  have g3 : w2.cell? ⟨w.heap.size, 3, none⟩ = some (.string ⟨#[]⟩) := by rw [cell_of_row w2 w.heap.size _ _ _ _ hcur]; rfl
  have g4 : w2.cell? ⟨w.heap.size, 4, none⟩ = some (.string ⟨#[]⟩) := by rw [cell_of_row w2 w.heap.size _ _ _ _ hcur]; rfl
  have g5 : w2.cell? ⟨w.heap.size, 5, none⟩ = some (.string ⟨#[]⟩) := by rw [cell_of_row w2 w.heap.size _ _ _ _ hcur]; rfl
  have g6 : w2.cell? ⟨w.heap.size, 6, none⟩ = some (.slice none 0 0) := by rw [cell_of_row w2 w.heap.size _ _ _ _ hcur]; rfl
  have g7 : w2.cell? ⟨w.heap.size, 7, none⟩ = some (.slice none 0 0) := by rw [cell_of_row w2 w.heap.size _ _ _ _ hcur]; rfl
  obtain ⟨W8, hW8, hoth, hbel, q0, q1, q2, q3, q4, q5, q6, q7⟩ := eight_zero (.int .i64 x.k) (.int .i64 x.n) (.string x.p) (.string x.l) (.string x.u) (.string x.t) (.slice A3 x.ds.length c3) (.slice A4 x.ats.length c4) hcur rfl
  have HO8 : Hid (OwnDs W8 w.heap.size (.slice A3 x.ds.length c3) x.ds) := OwnSl.aside HO1.out hcur (by decide) hoth
  have HA8 : Hid (OwnAs W8 w.heap.size (.slice A4 x.ats.length c4) x.ats) := OwnSl.aside HO2.out hcur (by decide) hoth
  have HB8 : Hid (Below w.heap.size w W8) := hbel _ _ hbw (Nat.le_refl _)
  have HW8 := Lib.hid hW8
  clear ho1 ho2 hcur hbw hb1 hW8 hoth hbel
  go_wp2
  rw [← HW8.out]
  refine bodyPost_ret (v := .agg #[.int .i64 x.k, .int .i64 x.n, .string x.p, .string x.l, .string x.u, .string x.t, .slice A3 x.ds.length c3, .slice A4 x.ats.length c4]) (by simp [results, Tryd.results19, go_sem, q0, q1, q2, q3, q4, q5, q6, q7]) rfl ⟨_, _, rfl, HO8.out, HA8.out, HB8.out⟩
end Go.Proofs.YtchnmkagemmjoaaDoor
namespace Go.Proofs.YtchnmkagemmjoaaDoor
set_option linter.unusedVariables false
theorem endFrom_spec {l : List Nd} {n : Nat} : ∀ (m k : Nat), l.length - k = m → k ≤ l.length → k ≤ endFrom n (l.drop k) k ∧ endFrom n (l.drop k) k ≤ l.length ∧ (∀ j, k ≤ j → j < endFrom n (l.drop k) k → (n : Int) ≤ pa l j) ∧ (endFrom n (l.drop k) k < l.length → pa l (endFrom n (l.drop k) k) < (n : Int))
  | 0, k, hm, hk => by
    rw [List.drop_of_length_le (by omega), endFrom]
    exact ⟨Nat.le_refl _, hk, fun j h1 h2 => by omega, fun h => by omega⟩
  | m + 1, k, hm, hk => by
    have hkl : k < l.length := by omega
    obtain ⟨h1, h2, h3, h4⟩ := endFrom_spec (l := l) (n := n) m (k + 1) (by omega) (by omega)
    rw [List.drop_eq_getElem_cons hkl, endFrom]
    by_cases hx : (n : Int) ≤ l[k].n
    · rw [if_pos hx]
      refine ⟨by omega, h2, fun j hj1 hj2 => ?_, h4⟩
      by_cases he : j = k
      · subst he; rw [pa_at hkl]; exact hx
      · exact h3 j (by omega) hj2
    · rw [if_neg hx]
      refine ⟨Nat.le_refl _, hk, fun j h1 h2 => by omega, fun _ => ?_⟩
      rw [pa_at hkl]; omega
theorem end_spec {l : List Nd} {n : Nat} (h : n < l.length) : n < endP l n ∧ endP l n ≤ l.length ∧ (∀ j, n < j → j < endP l n → (n : Int) ≤ pa l j) ∧ (endP l n < l.length → pa l (endP l n) < (n : Int)) := by
  obtain ⟨h1, h2, h3, h4⟩ := endFrom_spec (l := l) (n := n) _ (n + 1) rfl (by omega)
  exact ⟨h1, h2, fun j hj => h3 j hj, h4⟩
/-- What is above a node below c, and ahead of c, is above c's parent, or that itself. -/
theorem up_below {l : List Nd} {i c : Nat} (hh : Hung l i) : ∀ j, c ≤ j → j < i → (∀ q, c < q → q ≤ j → (c : Int) ≤ pa l q) → ∀ m, m ∈ chn l j → m < c → m ∈ chn l (pa l c).toNat := by
  intro j
  induction j using Nat.strongRecOn with
  | ind j ih =>
    intro hcj hj hq m hm hmc
    have hm' := (mem_step hh hj (by omega)).1 hm
    by_cases he : j = c
    · subst he; exact hm'
    · have hp := hq j (by omega) (Nat.le_refl _)
      have hl := hh j (by omega) hj
      exact ih _ (by omega) (by omega) (by omega) (fun q h1 h2 => hq q h1 (by omega)) m hm' hmc
theorem hang_mem {l : List Nd} {i : Nat} (h : hangB l i = true) : (pa l i).toNat ∈ chn l (i - 1) := by
  simp only [hangB, Bool.and_eq_true, decide_eq_true_eq] at h
  exact h.1.2
/-- Behind a child of n, and all below it, stands a child of n, unless all below n is over. -/
theorem next_kid {l : List Nd} {n c : Nat} (hh : Hung l l.length) (hg : ∀ i, 1 ≤ i → i < l.length → hangB l i = true) (hn : n < c) (hc : c < l.length) (hpc : pa l c = n) (he : endP l c < endP l n) : pa l (endP l c) = n := by
  obtain ⟨a1, a2, a3, a4⟩ := end_spec hc
  obtain ⟨b1, b2, b3, b4⟩ := end_spec (show n < l.length by omega)
  have h1 := b3 (endP l c) (by omega) he
  have h2 := a4 (by omega)
  have h3 := hang_mem (hg (endP l c) (by omega) (by omega))
  have h4 := up_below (c := c) hh (endP l c - 1) (by omega) (by omega) (fun q hq1 hq2 => a3 q hq1 (by omega)) _ h3 (by omega)
  rw [hpc] at h4
  have h5 := chn_le h4
  omega
/-- Right behind n stands its first child, unless it has none. -/
theorem first_kid {l : List Nd} {n : Nat} (hh : Hung l l.length) (hn : n < l.length) (he : n + 1 < endP l n) : pa l (n + 1) = n := by
  obtain ⟨b1, b2, b3, b4⟩ := end_spec hn
  have h1 := b3 (n + 1) (by omega) he
  have h2 := hh (n + 1) (by omega) (by omega)
  omega
/-- All below a child of n is below n. -/
theorem end_within {l : List Nd} {n c : Nat} (hn : n < c) (hc : c < endP l n) (hl : n < l.length) : endP l c ≤ endP l n := by
  obtain ⟨b1, b2, b3, b4⟩ := end_spec hl
  obtain ⟨a1, a2, a3, a4⟩ := end_spec (show c < l.length by omega)
  by_cases h : endP l n < endP l c
  · have h1 := a3 (endP l n) (by omega) h
    have h2 := b4 (by omega)
    omega
  · omega
end Go.Proofs.YtchnmkagemmjoaaDoor
namespace Go.Proofs.YtchnmkagemmjoaaDoor
open Go.RowKit
set_option linter.unusedVariables false
theorem intInf : (Tryd.prog.info? 3).map (fun i => (i.zero, i.size, i.bytes)) = some (some (.int .i64 0), 1, 8) := by kernel_rfl
def i64c (l : List Int) : List Value := l.map (.int .i64)
theorem i64c_length (l : List Int) : (i64c l).length = l.length := by simp [i64c]
theorem i64c_append (a b : List Int) : i64c (a ++ b) = i64c a ++ i64c b := by simp [i64c]
theorem i64c_one (l : List Int) : ∀ u ∈ i64c l, u.oneCell' = true := fun u hu => by
  simp [i64c] at hu; obtain ⟨z, _, rfl⟩ := hu; rfl
theorem addr_addI (b o j : Nat) : (⟨b, o, none⟩ : Addr).add j = ⟨b, o + j, none⟩ := by unfold Addr.add; split <;> simp_all
/-- A slice of these bytes in a row of the call's own, of which nothing is frozen; or no slice, and none. -/
def OwnI (w : World) (B : Nat) (v : Value) (l : List Int) : Prop :=
  (v = .slice none 0 0 ∧ l = []) ∨ ∃ g cap, v = .slice (some ⟨g, 0, none⟩) l.length cap ∧ B ≤ g ∧ g < w.heap.size ∧ l.length ≤ cap ∧ cap ≤ 9223372036854775807 ∧
    (∀ j, j < cap → (w.cell? ⟨g, j, none⟩).isSome = true ∧ w.frozen? ⟨g, j, none⟩ = false) ∧ ∀ j u, (i64c l)[j]? = some u → w.cell? ⟨g, j, none⟩ = some u
theorem OwnI.nil (w : World) (B : Nat) : OwnI w B (.slice none 0 0) [] := .inl ⟨rfl, rfl⟩
theorem OwnI.later {w w' : World} {B : Nat} {v : Value} {l : List Int} (h : OwnI w B v l) (hb : Below w.heap.size w w') : OwnI w' B v l := by
  rcases h with h | ⟨g, cap, e, h1, h2, h3, h4, h5, h6⟩
  · exact .inl h
  · exact .inr ⟨g, cap, e, h1, Nat.lt_of_lt_of_le h2 hb.size, h3, h4, fun j hj => by rw [hb.cell (p := ⟨g, j, none⟩) h2, hb.frozen (p := ⟨g, j, none⟩) h2]; exact h5 j hj, fun j u hu => by rw [hb.cell (p := ⟨g, j, none⟩) h2]; exact h6 j u hu⟩
theorem OwnI.of_row {w : World} {B n : Nat} {v : Value} {l : List Int} (h : w.ownsRow B 3 1 v n (i64c l)) : OwnI w B v l := by
  obtain ⟨hl, h | ⟨g, cap, cur, rfl, hg, hh, hn, hc, hs, ht⟩⟩ := h
  · obtain ⟨rfl, rfl⟩ := h
    rw [i64c_length] at hl
    exact .inl ⟨rfl, List.eq_nil_of_length_eq_zero (by simpa using hl)⟩
  · rw [i64c_length, Nat.mul_one] at hl
    subst hl
    rw [Nat.mul_one] at hs ht
    refine .inr ⟨g, cap, rfl, hg, (Array.getElem?_eq_some_iff.1 hh).1, hn, by unfold maxLen at hc; exact hc, fun j hj => ⟨?_, frozen_of_row w g j cur 3 hh⟩, fun j u hu => ?_⟩
    · rw [cell_of_row w g j cur 3 (0, 0) hh, Array.getElem?_eq_getElem (by omega)]; rfl
    · rw [cell_of_row w g j cur 3 (0, 0) hh, ← hu, ← ht]
      have hj : j < l.length := by
        have := (List.getElem?_eq_some_iff.1 hu).1
        rwa [i64c_length] at this
      rw [List.getElem?_take_of_lt hj, Array.getElem?_toList]
theorem OwnI.lies {w : World} {B : Nat} {v : Value} {l : List Int} (h : OwnI w B v l) : ∃ A cap, v = .slice A l.length cap ∧ l.length ≤ cap ∧ cap ≤ 9223372036854775807 ∧ Lies w w.heap.size A (i64c l) := by
  rcases h with ⟨rfl, rfl⟩ | ⟨g, cap, rfl, h1, h2, h3, h4, h5, h6⟩
  · exact ⟨none, 0, rfl, Nat.le_refl _, by omega, fun h => absurd rfl h⟩
  · exact ⟨some ⟨g, 0, none⟩, cap, rfl, h3, h4, fun _ => ⟨g, 0, rfl, h2, fun j hj => by rw [Nat.zero_add]; exact h6 j _ (List.getElem?_eq_getElem hj)⟩⟩
theorem below_setCellsI {B g : Nat} (hB : B ≤ g) {a : World} : ∀ (vs : List Value) (o : Nat) (w : World), Below B a w → Below B a (w.setCells g o vs)
  | [], _, _, h => h
  | v :: r, o, w, h => below_setCellsI hB r (o + 1) _ (h.setCell (p := ⟨g, o, none⟩) hB v)
theorem size_setCellsI {g : Nat} : ∀ (vs : List Value) (o : Nat) (w : World), (w.setCells g o vs).heap.size = w.heap.size
  | [], _, _ => rfl
  | v :: r, o, w => by rw [World.setCells, size_setCellsI r]; simp [World.setCell]
/-- A row that has room, written behind its bytes. -/
theorem own_roomI {w : World} {B g cap : Nat} {l y : List Int} (h1 : B ≤ g) (h2 : g < w.heap.size) (h4 : cap ≤ 9223372036854775807) (hroom : l.length + y.length ≤ cap)
    (h5 : ∀ j, j < cap → (w.cell? ⟨g, j, none⟩).isSome = true ∧ w.frozen? ⟨g, j, none⟩ = false) (h6 : ∀ j u, (i64c l)[j]? = some u → w.cell? ⟨g, j, none⟩ = some u) :
    OwnI (w.setCells g l.length (i64c y)) B (.slice (some ⟨g, 0, none⟩) (l.length + y.length) cap) (l ++ y) := by
  have hin := World.cell?_setCells_in g (i64c y) l.length w (fun j hj => (h5 (l.length + j) (by rw [i64c_length] at hj; omega)).1)
  refine .inr ⟨g, cap, by rw [List.length_append], h1, by rw [size_setCellsI]; exact h2, by rw [List.length_append]; exact hroom, h4, fun j hj => ⟨?_, by rw [World.frozen?_setCells]; exact (h5 j hj).2⟩, fun j u hu => ?_⟩
  · by_cases hj1 : l.length ≤ j ∧ j < l.length + y.length
    · have := hin (j - l.length) (by rw [i64c_length]; omega)
      rw [show l.length + (j - l.length) = j by omega] at this
      rw [this]; rfl
    · rw [World.cell?_setCells_out g (i64c y) l.length w ⟨g, j, none⟩ (fun _ _ => by rw [i64c_length]; show j < l.length ∨ l.length + y.length ≤ j; omega)]
      exact (h5 j hj).1
  · rw [i64c_append] at hu
    by_cases hj1 : j < l.length
    · rw [World.cell?_setCells_out g (i64c y) l.length w ⟨g, j, none⟩ (fun _ _ => .inl hj1)]
      rw [List.getElem?_append_left (by rw [i64c_length]; exact hj1)] at hu
      exact h6 j u hu
    · rw [List.getElem?_append_right (by rw [i64c_length]; omega), i64c_length] at hu
      have hj2 := (List.getElem?_eq_some_iff.1 hu).1
      have := hin (j - l.length) hj2
      rw [show l.length + (j - l.length) = j by omega] at this
      rw [this, ← hu, List.getElem?_eq_getElem hj2]
/-- A row that was laid anew. -/
theorem own_grownI {w : World} {B cap : Nat} {l y : List Int} (hB : B ≤ w.heap.size) (hge : l.length + y.length ≤ cap) (hcm : cap ≤ maxLen) (Z : Array Value) (hZ : Z.size = cap - (l.length + y.length)) :
    OwnI (w.drew.alloc (.cells ((i64c l).toArray ++ (i64c y).toArray ++ Z) 3)) B (.slice (some ⟨w.heap.size, 0, none⟩) (l.length + y.length) cap) (l ++ y) := by
  refine OwnI.of_row (n := l.length + y.length) ⟨by rw [i64c_length, List.length_append]; omega, .inr ⟨w.heap.size, cap, _, rfl, hB, heap_alloc_new w.drew _, hge, hcm, ?_, ?_⟩⟩
  · simp only [Array.size_append, List.size_toArray, i64c_length, hZ]; omega
  · rw [Nat.mul_one, i64c_append]
    simp only [Array.toList_append]
    rw [List.take_append_of_le_length (by simp [i64c_length])]
    exact List.take_of_length_le (by simp [i64c_length])
/-- append of bytes that lie somewhere. -/
theorem app_runI {w : World} {B : Nat} {v : Value} {l : List Int} (h : OwnI w B v l) (hB : B ≤ w.heap.size) (ad : Addr) (m c : Nat) (y : List Int) (hm : y.length = m) (hy : ∀ j u, (i64c y)[j]? = some u → w.cell? (ad.add j) = some u) (hn : l.length + m ≤ 1000000) (ty : TypeId) :
    ∃ v' w', (Builtin.append_ #[41, 41] ty #[v, .slice (some ad) m c]).run Tryd.prog w = .ok v' w' ∧ OwnI w' B v' (l ++ y) ∧ Below B w w' := by
  obtain ⟨i0, hi, hz0, hz1, hz2⟩ := info_parts intInf
  subst hm
  rcases h with ⟨rfl, rfl⟩ | ⟨g, cap, rfl, h1, h2, h3, h4, h5, h6⟩
  · obtain ⟨v', w', hr, ho, hg, _⟩ := run_append_own (P := Tryd.prog) w B 41 ty 3 i0 (.int .i64 0) 1 8 Tryd.underlying41 hi hz0 hz1 hz2 rfl (by omega) (.slice none 0 0) 0 [] (World.ownsRow_nil _ _ _ _) ad y.length c (i64c y) (by rw [i64c_length]; omega) hy (i64c_one y) (by unfold maxLen; omega) (by omega) hB
    exact ⟨v', w', hr, OwnI.of_row ho, (Below.refl B w).grown hg hB (fun k hk => by simp [Value.ownBlock] at hk)⟩
  · by_cases hroom : l.length + y.length ≤ cap
    · have hf := run_firstCells_some (P := Tryd.prog) w 1 y.length ad y.length c (i64c y) (by rw [i64c_length]; omega) hy
      have hst := run_storeCells_cells (P := Tryd.prog) g l.length (i64c y) 0 w (fun j hj => (h5 _ (by rw [i64c_length] at hj; omega)).1) (fun j hj => (h5 _ (by rw [i64c_length] at hj; omega)).2) (i64c_one y)
      rw [Nat.add_zero] at hst
      exact ⟨_, _, by simp [Builtin.append_, run_underlying Tryd.underlying41, sizeOf, typeInfo, hi, hz1, Builtin.lenOf, hroom, hf, Addr.add_lit, hst], own_roomI h1 h2 h4 hroom h5 h6, below_setCellsI h1 _ _ _ (Below.refl _ _)⟩
    · have hr := run_append_grow (P := Tryd.prog) w 41 ty 3 i0 (.int .i64 0) Tryd.underlying41 hi hz0 ⟨g, 0, none⟩ l.length cap (i64c l) (by rw [i64c_length, hz1]; omega) (fun j u hu => by rw [addr_addI, Nat.zero_add]; exact h6 j u hu) ad y.length c (i64c y) (by rw [i64c_length, hz1]; omega) hy (by omega) (by omega) (by rw [hz2]; exact growslice_fits (by omega) (by omega))
      refine ⟨_, _, hr, own_grownI hB (grownCap_ge w _ cap _) (grownCap_le_maxLen w _ cap _ (by unfold maxLen; omega)) _ ?_, ((Below.refl B w).drew).alloc hB _⟩
      rw [size_zeroCells]; simp [Value.cells]
/-- The same, as operations. -/
theorem app_listI {w : World} {ops : Array Oper} {rest : List Oper} {o : Oper} {a : Act} {Q : Exit → Act → World → Prop} (hgd : o.guard = none) (s x : Operand)
    (ho : o.op = .call { callee := .builtin .append, args := #[s, x], argTypes := #[41, 41] }) (B : Nat) (l : List Int) (v : Value) (hs : a.eval s = v) (hown : OwnI w B v l) (hB : B ≤ w.heap.size)
    (ad : Addr) (m c : Nat) (y : List Int) (hx : a.eval x = .slice (some ad) m c) (hm : y.length = m) (hy : ∀ j u, (i64c y)[j]? = some u → w.cell? (ad.add j) = some u) (hn : l.length + m ≤ 1000000)
    (h : ∀ v' w', OwnI w' B v' (l ++ y) → Below B w w' → wpList Tryd.prog ops Q rest (a.put o.dst v') w') : wpList Tryd.prog ops Q (o :: rest) a w := by
  refine wpList_plain hgd fun K hK => ?_
  obtain ⟨v', w', hr, h2, h3⟩ := app_runI hown hB ad m c y hm hy hn o.type
  unfold Oper.wp execOp
  simp only [ho, resolve, invoke, builtin, Sem.run_bind, Sem.run_pure, Result.andThen_ok, List.map_toArray, List.map_cons, List.map_nil, hs, hx, hr]
  exact hK _ _ (h v' w' h2 h3)
/-- append of one byte that the same round laid. -/
theorem app_byteI {w : World} {ops : Array Oper} {rest : List Oper} {o : Oper} {a : Act} {Q : Exit → Act → World → Prop} (hgd : o.guard = none) (s x : Operand)
    (ho : o.op = .call { callee := .builtin .append, args := #[s, x], argTypes := #[41, 41] }) (B : Nat) (l : List Int) (v : Value) (hs : a.eval s = v) (hown : OwnI w B v l) (hB : B ≤ w.heap.size)
    (y : Int) (hx : a.eval x = .slice (some ⟨w.heap.size, 0, none⟩) 1 1) (hn : l.length + 1 ≤ 1000000)
    (h : ∀ v' w', OwnI w' B v' (l ++ [y]) → Below B w w' → wpList Tryd.prog ops Q rest (a.put o.dst v') w') : wpList Tryd.prog ops Q (o :: rest) a (w.alloc (.cells #[.int .i64 y] 3)) := by
  have hb := (Below.refl w.heap.size w).alloc (Nat.le_refl _) (.cells #[.int .i64 y] 3)
  refine app_listI hgd s x ho B l v hs (hown.later hb) (Nat.le_trans hB hb.size) ⟨w.heap.size, 0, none⟩ 1 1 [y] hx rfl (fun j u hu => ?_) hn fun v' w' h2 h3 => h v' w' h2 ((hb.mono hB).trans h3)
  rw [addr_addI, Nat.zero_add, cell_of_row _ _ j _ _ _ (heap_alloc_last w _)]
  exact List.getElem?_toArray.trans hu
end Go.Proofs.YtchnmkagemmjoaaDoor
namespace Go.Proofs.YtchnmkagemmjoaaDoor
open Go.RowKit
set_option linter.unusedVariables false
set_option maxRecDepth 100000
/-- Those of the first k that stand behind n and hang on it. -/
def kidsL (l : List Nd) (n : Nat) : Nat → List Int
  | 0 => []
  | k + 1 => if n < k ∧ pa l k = (n : Int) then kidsL l n k ++ [(k : Int)] else kidsL l n k
theorem kidsL_len (l : List Nd) (n : Nat) : ∀ k, (kidsL l n k).length ≤ k
  | 0 => Nat.le_refl _
  | k + 1 => by
    have := kidsL_len l n k
    unfold kidsL; split
    · simp; exact this
    · omega
theorem kidsL_start (l : List Nd) (n : Nat) : ∀ k, k ≤ n + 1 → kidsL l n k = []
  | 0, _ => rfl
  | k + 1, h => by rw [kidsL, if_neg (by omega), kidsL_start l n k (by omega)]
/-- What holds at each round's head. -/
def KdRel (w : World) (l : List Nd) (n : Nat) (v i : Value) (wr : World) : Prop := ∃ k : Nat, n < k ∧ k ≤ endP l n ∧ i = .int .i64 k ∧ OwnI wr w.heap.size v (kidsL l n k) ∧ Below w.heap.size w wr
set_option maxHeartbeats 8000000 in
theorem kids_doc {B d : Nat} {l : List Nd} (n : Nat) (w : World) (h : DocAt w B d l) (hn : l.length ≤ 100000) (hs : ∀ x ∈ l, Sm x) (hnl : n < l.length) : Calls Tryd.prog 21 #[.pointer (some ⟨d, 0, none⟩), .int .i64 (n : Int)] w fun e w' => ∃ v', e = .returned v' ∧ OwnI w' w.heap.size v' (kidsL l n (endP l n)) ∧ Below w.heap.size w w' := by
  have HH := Lib.hid (has_doc (n : Int) w h hn hs)
  rw [decide_eq_true (by omega)] at HH
  have HE := Lib.hid (end_doc n w h hn hs hnl)
  obtain ⟨e1, e2, _, _⟩ := end_spec hnl
  have HK : Hid (∀ k, (kidsL l n k).length ≤ k) := kidsL_len l n
  obtain ⟨E, hE⟩ : ∃ E, endP l n = E := ⟨_, rfl⟩
  have HEE := Lib.hid hE
  rw [hE] at e1 e2 HE ⊢
  obtain ⟨v, hc, hv, hdl⟩ := h.list hn hs
  obtain ⟨b, o, cap, rfl, hc1, hc2, hbB, hnd⟩ := hv.open (by intro h; rw [h] at hnl; simp at hnl)
  have HND := Lib.hid hnd
  obtain ⟨m, hmE⟩ : ∃ m, l.length = m := ⟨_, rfl⟩
  have HM := Lib.hid hmE
  rw [hmE] at hn hc1 hnl hc e2
  have HC := Lib.hid hc
  clear hnd hv h hmE hE
  go_enter Tryd.func21, Tryd.ntmps21
  go_wp2_with fail
  refine HH.out.mono ?_
  rintro e w1 ⟨rfl, hw⟩
  rw [hw]
  clear hw
  go_wp2_with fail
  refine HE.out.mono ?_
  rintro e w1 ⟨rfl, hw⟩
  rw [hw]
  clear hw hc
  go_wp2
  go_loopw [5, 7] (KdRel w l n) (fun v i _ => E - (intOf i).toNat)
  case atStart => exact ⟨n + 1, by omega, by rw [HEE.out]; omega, by go_num, by rw [kidsL_start l n _ (Nat.le_refl _)]; exact OwnI.nil _ _, Below.refl _ _⟩
  case round =>
    obtain ⟨k, hk1, hk, rfl, hO, hb⟩ := hrel
    rw [HEE.out] at hk
    have HO := Lib.hid hO
    obtain ⟨A0, c0, hv0, _⟩ := hO.lies
    subst hv0
    clear hO
    by_cases hlt : k < E
    · have hkl : k < l.length := by rw [HM.out]; omega
      have hkm : k < m := by omega
      obtain ⟨vd, va, d0', d1', _⟩ := (HND.out k hkl).cells
      have hcr : wr.cell? ⟨d, 0, none⟩ = some (.slice (some ⟨b, o, none⟩) m cap) := (hb.cell (p := ⟨d, 0, none⟩) hdl).trans HC.out
      have d1 : wr.cell? ⟨b, o + k * 8 + 1, none⟩ = some (.int .i64 l[k].n) := (hb.cell (p := ⟨b, o + k * 8 + 1, none⟩) hbB).trans d1'
      have hkz : (k : Int) < (E : Int) := by omega
      have HP : Hid (pa l k = l[k].n) := pa_at hkl
      generalize l[k] = x at *
      clear d0' d1'
      by_cases hx : x.n = (n : Int)
      · have t1 : (x.n == (n : Int)) = true := by simpa using hx
        have HS : Hid (kidsL l n (k + 1) = kidsL l n k ++ [(k : Int)]) := by show _ = _; rw [kidsL, if_pos ⟨hk1, by rw [HP.out]; exact hx⟩]
        have hkn : (kidsL l n k).length + 1 ≤ 1000000 := by have := HK.out k; omega
        have hbs := hb.size
        clear hx
        go_wp2_with (at_builtin; refine app_byteI rfl _ _ rfl w.heap.size (kidsL l n k) _ rfl HO.out hbs _ rfl hkn ?_; intro v3 w3 hO3 hb3)
        go_roundw
        case rel => exact ⟨k + 1, by omega, by rw [HEE.out]; exact hlt, by go_num, by rw [HS.out]; exact hO3, hb.trans hb3⟩
        case measure => simp [intOf]; omega
      · have t1 : (x.n == (n : Int)) = false := by simpa using hx
        have HS : Hid (kidsL l n (k + 1) = kidsL l n k) := by show _ = _; rw [kidsL, if_neg (by rw [HP.out]; exact fun h => hx h.2)]
        clear hx
        go_wp2
        go_roundw
        case rel => exact ⟨k + 1, by omega, by rw [HEE.out]; exact hlt, by go_num, by rw [HS.out]; exact HO.out, hb⟩
        case measure => simp [intOf]; omega
    · have hkz : ¬ (k : Int) < (E : Int) := by omega
      have hkE : k = E := by omega
      have HKE := Lib.hid hkE
      clear hkE
      go_wp2
      go_ret
      exact ⟨_, rfl, by rw [← HKE.out]; exact HO.out, hb⟩
end Go.Proofs.YtchnmkagemmjoaaDoor
namespace Go.Proofs.YtchnmkagemmjoaaDoor
set_option linter.unusedVariables false
theorem kidsL_mono (l : List Nd) (n c : Nat) : ∀ e, c ≤ e → ∃ r, kidsL l n e = kidsL l n c ++ r
  | 0, h => ⟨[], by rw [show c = 0 by omega]; simp⟩
  | e + 1, h => by
    by_cases he : c = e + 1
    · subst he; exact ⟨[], by simp⟩
    · obtain ⟨r, hr⟩ := kidsL_mono l n c e (by omega)
      rw [kidsL]
      split
      · exact ⟨r ++ [(e : Int)], by rw [hr, List.append_assoc]⟩
      · exact ⟨r, hr⟩
theorem kidsL_kid {l : List Nd} {n c : Nat} (h : n < c) (hp : pa l c = (n : Int)) : kidsL l n (c + 1) = kidsL l n c ++ [(c : Int)] := by rw [kidsL, if_pos ⟨h, hp⟩]
theorem kidsL_skip {l : List Nd} {n c : Nat} : ∀ e, c ≤ e → (∀ j, c ≤ j → j < e → pa l j ≠ (n : Int)) → kidsL l n e = kidsL l n c
  | 0, h, _ => by rw [show c = 0 by omega]
  | e + 1, h, hn => by
    by_cases he : c = e + 1
    · subst he; rfl
    · rw [kidsL, if_neg (fun hh => hn e (by omega) (by omega) hh.2)]
      exact kidsL_skip e (by omega) (fun j h1 h2 => hn j h1 (by omega))
/-- The next child is the place itself. -/
theorem kid_here {l : List Nd} {n c e : Nat} (h : n < c) (hc : c < e) (hp : pa l c = (n : Int)) : (kidsL l n e)[(kidsL l n c).length]? = some (c : Int) := by
  obtain ⟨r, hr⟩ := kidsL_mono l n (c + 1) e (by omega)
  rw [hr, kidsL_kid h hp, List.append_assoc, List.getElem?_append_right (Nat.le_refl _)]
  simp
theorem kid_more {l : List Nd} {n c e : Nat} (h : n < c) (hc : c < e) (hp : pa l c = (n : Int)) : (kidsL l n c).length < (kidsL l n e).length := by
  have := kid_here h hc hp
  exact (List.getElem?_eq_some_iff.1 this).1
/-- Behind all below a child: one child more, and the next one, or the end. -/
theorem kid_step {l : List Nd} {n c : Nat} (hh : Hung l l.length) (hg : ∀ i, 1 ≤ i → i < l.length → hangB l i = true) (hl : n < l.length) (h : n < c) (hc : c < endP l n) (hp : pa l c = (n : Int)) :
    n < endP l c ∧ endP l c ≤ endP l n ∧ (kidsL l n (endP l c)).length = (kidsL l n c).length + 1 ∧ (endP l c < endP l n → pa l (endP l c) = (n : Int)) := by
  obtain ⟨e1, e2, _, _⟩ := end_spec hl
  have hcl : c < l.length := by omega
  obtain ⟨a1, a2, a3, a4⟩ := end_spec hcl
  refine ⟨by omega, end_within h hc hl, ?_, fun he => next_kid hh hg h hcl hp he⟩
  rw [kidsL_skip (c := c + 1) (endP l c) (by omega) (fun j h1 h2 hj => by have := a3 j (by omega) h2; omega), kidsL_kid h hp]
  simp
end Go.Proofs.YtchnmkagemmjoaaDoor
namespace Go.Proofs.YtchnmkagemmjoaaDoor
open Go.RowKit
set_option linter.unusedVariables false
set_option maxRecDepth 100000
theorem field_parent (k n : Int) (p l u t : ByteArray) (A1 A2 : Option Addr) (n1 n2 c1 c2 : Nat) (w : World) : (Instr.field 38 (.agg #[.int .i64 k, .int .i64 n, .string p, .string l, .string u, .string t, .slice A1 n1 c1, .slice A2 n2 c2]) 1).run Tryd.prog w = .ok (.int .i64 n) w := by kernel_rfl
/-- What holds at each round's head. -/
def PtRel (w : World) (l : List Nd) (n : Nat) (a i : Value) (wr : World) : Prop :=
  ∃ k c : Nat, i = .int .i64 k ∧ a = .int .i64 c ∧ n < c ∧ c ≤ endP l n ∧ (kidsL l n c).length = k ∧ (c < endP l n → pa l c = (n : Int)) ∧ Below w.heap.size w wr
set_option maxHeartbeats 16000000 in
theorem parts_law (l : List Nd) (v : Value) (z : Int) (w : World) (hv : NsAt w w.heap.size v l) (hs : ∀ x ∈ l, Sm x) (hW : Wd w) : Calls Tryd.prog 7 #[v, .int .i64 z] w fun e w' => e = .returned (.bool true) ∧ Below w.heap.size w w' := by
  have HA : Hid (∀ w', Below w.heap.size w w' → Calls Tryd.prog 9 #[] w' fun e w'' => e = .returned (.bool true) ∧ Below w'.heap.size w' w'') := fun w' hb => awake_any w' (hW.later hb)
  have HF : Hid (∀ w', Below w.heap.size w w' → Calls Tryd.prog 10 #[v, .int .i64 30] w' fun e w'' => e = .returned (.bool (fewB l 30)) ∧ w'' = w') := fun w' hb => few_any l 30 v w' (by omega) (hv.later hb)
  have HO : Hid (l.length ≤ 30 → ∀ w', Below w.heap.size w w' → Calls Tryd.prog 11 #[v] w' fun e w'' => OfAns l w'.heap.size e w'' ∧ Below w'.heap.size w' w'') := fun h w' hb => of_any l v w' (hv.later hb) (by omega) hs (hW.later hb)
  obtain ⟨A, cap, rfl, hc1, hc2⟩ := hv.slice
  have hr0 := Below.refl w.heap.size w
  have HS := Lib.hid hs
  clear hW hv hs
  cases hf : fewB l 30 with
  | false =>
    rw [hf] at HF
    clear hf HO
    go_enter Tryd.func7, Tryd.ntmps7
    go_wp2_with fail
    refine (HA.out _ hr0).mono ?_
    rintro e w1 ⟨rfl, hb1⟩
    go_wp2_with fail
    refine (HF.out _ hb1).mono ?_
    rintro e w2 ⟨rfl, hw⟩
    rw [hw]
    clear hw
    go_wp2_with fail
    refine (HA.out _ hb1).mono ?_
    rintro e w2 ⟨rfl, hb2⟩
    go_wp2
    go_ret
    exact ⟨rfl, hb1.trans (hb2.mono hb1.size)⟩
  | true =>
    rw [hf] at HF
    have hl : l.length ≤ 30 := by
      unfold fewB at hf
      rw [Bool.and_eq_true, decide_eq_true_eq] at hf
      exact hf.1
    have HL := Lib.hid hl
    have HO' := Lib.hid (HO.out hl)
    obtain ⟨m, hmE⟩ : ∃ m, l.length = m := ⟨_, rfl⟩
    have HM := Lib.hid hmE
    rw [hmE] at HO' hl hc1 ⊢
    rw [hmE] at HF
    clear hf HO hmE
    go_enter Tryd.func7, Tryd.ntmps7
    go_wp2_with fail
    refine (HA.out _ hr0).mono ?_
    rintro e w1 ⟨rfl, hb1⟩
    go_wp2_with fail
    refine (HF.out _ hb1).mono ?_
    rintro e w2 ⟨rfl, hw⟩
    rw [hw]
    clear hw
    go_wp2_with fail
    refine (HO'.out _ hb1).mono ?_
    rintro e w2 ⟨ho, hb2⟩
    have hbw := hb1.trans (hb2.mono hb1.size)
    clear hb1 hb2 hr0
    rcases ho with ⟨_, rfl⟩ | ⟨_, _, rfl⟩ | ⟨hfo, hwi, d, rfl, hd⟩
    · go_wp2
      go_ret
      exact ⟨rfl, hbw⟩
    · go_wp2
      go_ret
      exact ⟨rfl, hbw⟩
    · by_cases hz0 : z < 0
      · go_wp2
        go_ret
        exact ⟨rfl, hbw⟩
      · have hz0d := decide_eq_false hz0
        by_cases hzm : z ≥ (m : Int)
        · go_wp2
          go_ret
          exact ⟨rfl, hbw⟩
        · have hzmd := decide_eq_false hzm
          obtain ⟨n, rfl⟩ : ∃ n : Nat, z = n := ⟨z.toNat, by omega⟩
          have hnm : n < m := by omega
          have hnl : n < l.length := by rw [HM.out]; exact hnm
          obtain ⟨_, _, hh, hg⟩ := formed_hung hfo
          have HD := Lib.hid hd
          have HN : Hid (∀ w' c (hc : c < l.length), Below w2.heap.size w2 w' → Calls Tryd.prog 19 #[.pointer (some ⟨d, 0, none⟩), .int .i64 (c : Int)] w' fun e w'' => ∃ vd va, e = .returned (.agg #[.int .i64 l[c].k, .int .i64 l[c].n, .string l[c].p, .string l[c].l, .string l[c].u, .string l[c].t, vd, va]) ∧ OwnDs w'' w'.heap.size vd l[c].ds ∧ OwnAs w'' w'.heap.size va l[c].ats ∧ Below w'.heap.size w' w'') := fun w' c hc hb => node_doc c w' (HD.out.later hb) (by have := HL.out; omega) HS.out hc
          have HE : Hid (∀ w' c, c < l.length → Below w2.heap.size w2 w' → Calls Tryd.prog 25 #[.pointer (some ⟨d, 0, none⟩), .int .i64 (c : Int)] w' fun e w'' => e = .returned (.int .i64 (endP l c : Nat)) ∧ w'' = w') := fun w' c hc hb => end_doc c w' (HD.out.later hb) (by have := HL.out; omega) HS.out hc
          have HK := Lib.hid (kids_doc n w2 hd (by have := HL.out; omega) HS.out hnl)
          obtain ⟨e1, e2, _, _⟩ := end_spec hnl
          have HST : Hid (∀ c, n < c → c < endP l n → pa l c = (n : Int) → n < endP l c ∧ endP l c ≤ endP l n ∧ (kidsL l n (endP l c)).length = (kidsL l n c).length + 1 ∧ (endP l c < endP l n → pa l (endP l c) = (n : Int))) := fun c h1 h2 h3 => kid_step hh hg hnl h1 h2 h3
          have HFK : Hid (n + 1 < endP l n → pa l (n + 1) = (n : Int)) := fun h => first_kid hh hnl h
          have HNL := Lib.hid hnl
          obtain ⟨E, hE⟩ : ∃ E, endP l n = E := ⟨_, rfl⟩
          have HEE := Lib.hid hE
          rw [hE] at e1 e2 HK HST HFK
          rw [HM.out] at e2
          clear hd hh hg hE hz0 hz0d hzm hnl hfo hwi
          go_wp2_with fail
          refine HK.out.mono ?_
          rintro e w3 ⟨v', rfl, hO, hb3⟩
          have HO3 := Lib.hid hO
          obtain ⟨A0, c0, rfl, hk1, hk2, hlies⟩ := hO.lies
          have HLI := Lib.hid hlies
          obtain ⟨q, hqE⟩ : ∃ q, (kidsL l n E).length = q := ⟨_, rfl⟩
          have HQ := Lib.hid hqE
          have hq : q ≤ E := by rw [← hqE]; exact kidsL_len l n E
          rw [hqE] at hk1 ⊢
          clear hO hlies hqE HK
          go_wp2
          go_loopw [7, 48] (PtRel w3 l n) (fun _ i _ => q - (intOf i).toNat)
          case atStart => exact ⟨0, n + 1, rfl, by go_num, by omega, by rw [HEE.out]; omega, by rw [kidsL_start l n _ (Nat.le_refl _)]; rfl, fun h => HFK.out (by rw [← HEE.out]; exact h), Below.refl _ _⟩
          case round =>
            obtain ⟨k, c, rfl, rfl, hnc, hcE, hk, hpc, hbr⟩ := hrel
            rw [HEE.out] at hcE hpc
            have HK := Lib.hid hk
            by_cases hce : c < E
            · have hp := hpc hce
              have hcm : c < m := by omega
              have hcl : c < l.length := by rw [HM.out]; exact hcm
              have hkq : k < q := by rw [← HQ.out, ← hk]; exact kid_more hnc hce hp
              have hkz : (k : Int) < (q : Int) := by omega
              have hcell : (kidsL l n E)[k]? = some (c : Int) := by rw [← hk]; exact kid_here hnc hce hp
              obtain ⟨g, o, rfl, hgB, hgc⟩ := HLI.out (by intro h; have := congrArg List.length h; rw [i64c_length, HQ.out] at this; simp at this; omega)
              have hck : wr.cell? ⟨g, o + k, none⟩ = some (.int .i64 (c : Int)) := by
                have h1 := (hbr.cell (p := ⟨g, o + k, none⟩) hgB).trans (hgc k (by rw [i64c_length, HQ.out]; exact hkq))
                rw [h1]
                have h2 : (i64c (kidsL l n E))[k]? = some (.int .i64 (c : Int)) := by unfold i64c; rw [List.getElem?_map, hcell]; rfl
                rw [List.getElem?_eq_getElem (by rw [i64c_length, HQ.out]; exact hkq)] at h2
                exact h2
              have HSC := Lib.hid (HST.out c hnc hce hp)
              have hlc : l[c].n = (n : Int) := by rw [← pa_at hcl]; exact hp
              have hcc : ((c : Int) != (c : Int)) = false := by simp
              have hnn : ((n : Int) != (n : Int)) = false := by simp
              have hb23 := hb3.trans (hbr.mono hb3.size)
              have HNC := Lib.hid (HN.out wr c hcl hb23)
              rw [hlc] at HNC
              generalize l[c] = x at *
              clear hp hpc hcell hgc hlc hk
              go_wp2_with fail
              refine HNC.out.mono ?_
              rintro e w4 ⟨vd, va, rfl, ho1, ho2, hb4⟩
              obtain ⟨A3, c3, rfl⟩ := OwnSl.form ho1
              obtain ⟨A4, c4, rfl⟩ := OwnSl.form ho2
              have hb24 := hb23.trans (hb4.mono hb23.size)
              have hb34 := hbr.trans (hb4.mono hbr.size)
              clear HNC ho1 ho2
              have hfp := fun w => field_parent x.k (n : Int) x.p x.l x.u x.t A3 A4 x.ds.length x.ats.length c3 c4 w
              go_wp2_with fail
              refine (HE.out w4 c hcl hb24).mono ?_
              rintro e w5 ⟨rfl, hw⟩
              rw [hw]
              clear hw
              go_wp2
              go_roundw
              case rel => exact ⟨k + 1, endP l c, by go_num, rfl, HSC.out.1, by rw [HEE.out]; exact HSC.out.2.1, by rw [HSC.out.2.2.1, HK.out], by rw [HEE.out]; exact HSC.out.2.2.2, hb34⟩
              case measure => simp [intOf]; omega
            · have hcE' : c = E := by omega
              have hkq : k = q := by rw [← HQ.out, ← hk, hcE']
              have hkz : ¬ (k : Int) < (q : Int) := by omega
              have hee : ((E : Int) == (E : Int)) = true := by simp
              have hb23 := hb3.trans (hbr.mono hb3.size)
              have HE' := HE.out wr n HNL.out hb23
              rw [HEE.out] at HE'
              have HEF := Lib.hid HE'
              clear HE' hk hpc
              rw [hcE']
              go_wp2_with fail
              refine HEF.out.mono ?_
              rintro e w5 ⟨rfl, hw⟩
              rw [hw]
              clear hw
              go_wp2
              go_ret
              exact ⟨rfl, hbw.trans (hb23.mono hbw.size)⟩
end Go.Proofs.YtchnmkagemmjoaaDoor
