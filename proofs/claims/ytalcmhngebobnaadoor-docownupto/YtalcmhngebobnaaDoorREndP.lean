/-
  (*Doc).list, Len, has, Top and End: of a document, and of none. Conditions: the document lies as it is; there are not too many nodes.
  (*Doc).Top and End of a document. Conditions: the document lies as it is; there are not too many nodes.
  A node's children, each with all below it, stand side by side: numbers alone. Conditions: the nodes hang where they may.
  append to one's own row of ints. Conditions: there are not too many.
  (*Doc).Kids of a document. Conditions: the document lies as it is; there are not too many nodes.
  The children that are counted as far as a place: numbers alone. Conditions: the nodes hang where they may.
  (*Doc).Up of a document. Conditions: the document lies as it is; its nodes hang on nodes ahead; there are not too many nodes.
  apostilleref07.Above, ahead and Top: the document's own. Conditions: the list lies as it is; for Above the nodes hang on nodes ahead.
  apostilleref07.End, Kids and Up: the document's own. Conditions: the list lies as it is; the nodes hang where they may.
  Of a formed list the document's End, Kids and Top are the program's: numbers alone. Conditions: the list is formed.
-/
import Derived.Test.YtalcmhngebobnaaDoorDOf
import Derived.Test.YtalcmhngebobnaaDoorDMem
import Derived.Laws.IdiomCopy
import Derived.Laws.AppendOwn
import Derived.Laws.AppendOwnNone
import Derived.Laws.MakeOwn
import Derived.Laws.Externs
import Derived.Lib.AppendStr
import Derived.OwnWalk
import Derived.Deep.Draws
import Derived.Deep.QuietTactic
import Derived.BigQuiet
import Derived.Deep.WholeRow
import Derived.Test.YtalcmhngebobnaaDoorDPure
import Derived.Test.YtalcmhngebobnaaDoorValidParts
namespace Go.Proofs.YtalcmhngebobnaaDoor
open Go.RowKit
set_option linter.unusedVariables false
set_option maxRecDepth 100000
set_option maxHeartbeats 4000000
theorem DocAt.cell {w : World} {B d : Nat} {l : List Nd} (h : DocAt w B d l) : ∃ v, w.cell? ⟨d, 0, none⟩ = some v ∧ NsOwn w B v l := by
  obtain ⟨v, _, h2, h3⟩ := h
  exact ⟨v, by rw [cell_of_row w d 0 _ _ _ h2]; rfl, h3⟩
/-- The document's list, whatever world comes later. -/
theorem DocAt.list {w : World} {B d : Nat} {l : List Nd} (h : DocAt w B d l) (hn : l.length ≤ 100000) (hs : ∀ x ∈ l, Sm x) : ∃ v, w.cell? ⟨d, 0, none⟩ = some v ∧ NsAt w w.heap.size v l ∧ d < w.heap.size := by
  obtain ⟨v, _, h2, h3⟩ := h
  exact ⟨v, by rw [cell_of_row w d 0 _ _ _ h2]; rfl, h3.at (by omega) hs, block_lt h2⟩
theorem list_doc (d : Nat) (v : Value) (w : World) (hc : w.cell? ⟨d, 0, none⟩ = some v) : Calls Tryd.prog 19 #[.pointer (some ⟨d, 0, none⟩)] w fun e w' => e = .returned v ∧ w' = w := by
  go_enter Tryd.func19, Tryd.ntmps19
  go_wp2
  go_ret
  exact ⟨rfl, rfl⟩
theorem list_nil (w : World) : Calls Tryd.prog 19 #[.pointer none] w fun e w' => e = .returned (.slice none 0 0) ∧ w' = w := by
  go_enter Tryd.func19, Tryd.ntmps19
  go_wp2
  go_ret
  exact ⟨rfl, rfl⟩
theorem len_of (P : Value) (A : Option Addr) (n c : Nat) (w : World) (H : Hid (Calls Tryd.prog 19 #[P] w fun e w' => e = .returned (.slice A n c) ∧ w' = w)) : Calls Tryd.prog 10 #[P] w fun e w' => e = .returned (.int .i64 (n : Nat)) ∧ w' = w := by
  go_enter Tryd.func10, Tryd.ntmps10
  go_wp2_with fail
  refine H.out.mono ?_
  rintro e w1 ⟨rfl, hw⟩
  rw [hw]
  go_wp2
  go_ret
  exact ⟨rfl, rfl⟩
theorem len_nil (w : World) : Calls Tryd.prog 10 #[.pointer none] w fun e w' => e = .returned (.int .i64 0) ∧ w' = w := len_of _ none 0 0 w (list_nil w)
theorem len_doc {B d : Nat} {l : List Nd} (w : World) (h : DocAt w B d l) (hn : l.length ≤ 100000) (hs : ∀ x ∈ l, Sm x) : Calls Tryd.prog 10 #[.pointer (some ⟨d, 0, none⟩)] w fun e w' => e = .returned (.int .i64 (l.length : Nat)) ∧ w' = w := by
  obtain ⟨v, hc, hv, _⟩ := h.list hn hs
  obtain ⟨A, cap, rfl, _⟩ := hv.slice
  exact len_of _ A l.length cap w (list_doc d _ w hc)
theorem has_of (P : Value) (n : Nat) (z : Int) (w : World) (H : Hid (Calls Tryd.prog 10 #[P] w fun e w' => e = .returned (.int .i64 (n : Nat)) ∧ w' = w)) : Calls Tryd.prog 17 #[P, .int .i64 z] w fun e w' => e = .returned (.bool (decide (0 ≤ z ∧ z < (n : Int)))) ∧ w' = w := by
  by_cases h0 : 0 ≤ z
  · go_enter Tryd.func17, Tryd.ntmps17
    go_wp2_with fail
    refine H.out.mono ?_
    rintro e w1 ⟨rfl, hw⟩
    rw [hw]
    go_wp2
    go_ret
    exact ⟨ret_bool (by simp [h0]), rfl⟩
  · have h1 := decide_eq_false h0
    go_enter Tryd.func17, Tryd.ntmps17
    go_wp2
    go_ret
    exact ⟨ret_bool (by simp), rfl⟩
theorem has_nil (z : Int) (w : World) : Calls Tryd.prog 17 #[.pointer none, .int .i64 z] w fun e w' => e = .returned (.bool false) ∧ w' = w := by
  have h := has_of (.pointer none) 0 z w (len_nil w)
  rw [decide_eq_false (by omega)] at h
  exact h
theorem has_doc {B d : Nat} {l : List Nd} (z : Int) (w : World) (h : DocAt w B d l) (hn : l.length ≤ 100000) (hs : ∀ x ∈ l, Sm x) : Calls Tryd.prog 17 #[.pointer (some ⟨d, 0, none⟩), .int .i64 z] w fun e w' => e = .returned (.bool (decide (0 ≤ z ∧ z < (l.length : Int)))) ∧ w' = w :=
  has_of _ l.length z w (len_doc w h hn hs)
/-- Of nodes that there aren't. -/
theorem end_none (P : Value) (z : Int) (w : World) (H : Hid (Calls Tryd.prog 17 #[P, .int .i64 z] w fun e w' => e = .returned (.bool false) ∧ w' = w)) : Calls Tryd.prog 12 #[P, .int .i64 z] w fun e w' => e = .returned (.int .i64 0) ∧ w' = w := by
  go_enter Tryd.func12, Tryd.ntmps12
  go_wp2_with fail
  refine H.out.mono ?_
  rintro e w1 ⟨rfl, hw⟩
  rw [hw]
  go_wp2
  go_ret
  exact ⟨rfl, rfl⟩
/-- A node of nothing. -/
def zeroN : Value := .agg #[.int .i64 0, .int .i64 0, .string ⟨#[]⟩, .string ⟨#[]⟩, .string ⟨#[]⟩, .string ⟨#[]⟩, .slice none 0 0, .slice none 0 0]
theorem node_none (P : Value) (z : Int) (w : World) (H : ∀ w, Hid (Calls Tryd.prog 17 #[P, .int .i64 z] w fun e w' => e = .returned (.bool false) ∧ w' = w)) : Calls Tryd.prog 7 #[P, .int .i64 z] w fun e w' => e = .returned zeroN ∧ Below w.heap.size w w' := by
  have HH := Lib.hid H
  clear H
  go_enter Tryd.func7, Tryd.ntmps7
  go_wp2_with fail
  refine ((HH.out _).out).mono ?_
  rintro e w1 ⟨rfl, hw⟩
  rw [hw]
  clear hw
  go_wp2
  refine bodyPost_ret (v := zeroN) (by simp [results, zeroN, Tryd.results7, go_sem]) rfl ⟨rfl, ?_⟩
  exact (Below.refl _ _).alloc (Nat.le_refl _) _
theorem nodes_nil (w : World) : Calls Tryd.prog 9 #[.pointer none] w fun e w' => ∃ A c, e = .returned (.slice A 0 c) ∧ Below w.heap.size w w' := by
  have HL := Lib.hid (list_nil w)
  have HC : Hid (Calls Tryd.prog 15 #[.slice none 0 0, .func (.func 16) #[] #[]] w fun e w' => ∃ A c, e = .returned (.slice A 0 c) ∧ Below w.heap.size w w') := by
    refine (ncopies_any [] (.slice none 0 0) w ⟨none, 0, rfl, Nat.le_refl _, by omega, fun h => absurd rfl h⟩ (by simp) (by simp)).mono ?_
    rintro e w' ⟨v', rfl, h, hb⟩
    rcases h with ⟨_, rfl⟩ | ⟨g, cur, rfl, _, h3, h4, _⟩
    · exact ⟨_, _, rfl, hb⟩
    · exact ⟨_, _, rfl, hb⟩
  go_enter Tryd.func9, Tryd.ntmps9
  go_wp2_with fail
  refine HL.out.mono ?_
  rintro e w1 ⟨rfl, hw⟩
  rw [hw]
  clear hw
  go_wp2_with fail
  refine HC.out.mono ?_
  rintro e w2 ⟨A, c, rfl, hb⟩
  go_wp2
  go_ret
  exact ⟨_, _, rfl, hb⟩
end Go.Proofs.YtalcmhngebobnaaDoor
namespace Go.Proofs.YtalcmhngebobnaaDoor
open Go.RowKit
set_option linter.unusedVariables false
set_option maxRecDepth 100000
/-- The first element. -/
def topFrom : List Nd → Nat → Nat
  | [], _ => 0
  | x :: r, k => if x.k = 1 then k else topFrom r (k + 1)
def topP (l : List Nd) : Nat := topFrom l 0
theorem topFrom_drop {l : List Nd} : ∀ k, k ≤ l.length → (∀ j (hj : j < l.length), j < k → l[j].k ≠ 1) → topP l = topFrom (l.drop k) k
  | 0, _, _ => rfl
  | k + 1, h, hn => by
    rw [topFrom_drop k (by omega) (fun j hj hk => hn j hj (by omega)), List.drop_eq_getElem_cons (show k < l.length by omega), topFrom, if_neg (hn k (by omega) (by omega))]
/-- What holds at each round's head. -/
def TpRel (w : World) (l : List Nd) (i : Value) (wr : World) : Prop := ∃ k : Nat, k ≤ l.length ∧ i = .int .i64 k ∧ (∀ j (hj : j < l.length), j < k → l[j].k ≠ 1) ∧ Below w.heap.size w wr
set_option maxHeartbeats 8000000 in
theorem top_of (P v : Value) (l : List Nd) (w : World) (H : Hid (Calls Tryd.prog 19 #[P] w fun e w' => e = .returned v ∧ w' = w)) (hv : NsAt w w.heap.size v l) (hn : l.length ≤ 100000) : Calls Tryd.prog 11 #[P] w fun e w' => e = .returned (.int .i64 (topP l : Nat)) ∧ Below w.heap.size w w' := by
  have HV := Lib.hid hv
  obtain ⟨A, cap, rfl, hc1, hc2⟩ := hv.slice
  obtain ⟨R, hR⟩ : ∃ R, topP l = R := ⟨_, rfl⟩
  rw [hR]
  have HR := Lib.hid hR
  obtain ⟨n, hnE⟩ : ∃ n, l.length = n := ⟨_, rfl⟩
  have HN := Lib.hid hnE
  rw [hnE] at hn hc1 H
  clear hR hnE
  go_enter Tryd.func11, Tryd.ntmps11
  go_wp2_with fail
  refine H.out.mono ?_
  rintro e w1 ⟨rfl, hw⟩
  rw [hw]
  clear hw
  go_wp2
  go_loopw [8] (TpRel w l) (fun i _ => n - (intOf i).toNat)
  case atStart => exact ⟨0, Nat.zero_le _, rfl, fun j _ h => by omega, Below.refl _ _⟩
  case round =>
    obtain ⟨k, hk, rfl, hno, hb⟩ := hrel
    rw [HN.out] at hk
    have HNO := Lib.hid hno
    clear hno
    by_cases hlt : k < n
    · have hkl : k < l.length := by rw [HN.out]; exact hlt
      obtain ⟨b, o, cap', e, _, _, hbB, hnd⟩ := (HV.out.below hb).open (by intro h; rw [h] at hkl; simp at hkl)
      simp only [Value.slice.injEq] at e
      obtain ⟨rfl, _, rfl⟩ := e
      obtain ⟨vd, va, d0, d1, d2, d3, d4, d5, d6, d7, ⟨A1, q1, rfl, _⟩, ⟨A2, q2, rfl, _⟩⟩ := (hnd k hkl).cells
      have hkz : (k : Int) < (n : Int) := by omega
      have HF : Hid (topP l = topFrom (l.drop k) k) := topFrom_drop k (by omega) HNO.out
      have HD : Hid (l.drop k = l[k] :: l.drop (k + 1)) := List.drop_eq_getElem_cons hkl
      have HMO : Hid (l[k].k ≠ 1 → ∀ j (hj : j < l.length), j < k + 1 → l[j].k ≠ 1) := fun h j hj hjk => by
        rcases Nat.lt_or_eq_of_le (Nat.le_of_lt_succ hjk) with h1 | h1
        · exact HNO.out j hj h1
        · subst h1; exact h
      generalize l[k] = x at *
      clear hnd
      by_cases hx : x.k = 1
      · have t1 : (x.k == 1) = true := by simpa using hx
        have hRk : R = k := by rw [← HR.out, HF.out, HD.out, topFrom, if_pos hx]
        have HRK := Lib.hid hRk
        clear hx hRk
        go_wp2
        go_ret
        exact ⟨by rw [HRK.out]; rfl, hb.alloc hb.size _⟩
      · have t1 : (x.k == 1) = false := by simpa using hx
        have HMX := Lib.hid (HMO.out hx)
        clear hx
        go_wp2
        go_roundw
        case rel => exact ⟨k + 1, hkl, by go_num, HMX.out, hb.alloc hb.size _⟩
        case measure => simp [intOf]; omega
    · have hkz : ¬ (k : Int) < (n : Int) := by omega
      have hR0 : R = 0 := by
        rw [← HR.out, topFrom_drop k (by rw [HN.out]; exact hk) HNO.out, List.drop_of_length_le (by rw [HN.out]; omega)]; rfl
      subst hR0
      go_wp2
      go_ret
      exact ⟨rfl, hb⟩
theorem top_nil (w : World) : Calls Tryd.prog 11 #[.pointer none] w fun e w' => e = .returned (.int .i64 0) ∧ Below w.heap.size w w' :=
  top_of _ _ [] w (list_nil w) ⟨none, 0, rfl, Nat.le_refl _, by omega, fun h => absurd rfl h⟩ (by simp)
theorem top_doc {B d : Nat} {l : List Nd} (w : World) (h : DocAt w B d l) (hn : l.length ≤ 100000) (hs : ∀ x ∈ l, Sm x) : Calls Tryd.prog 11 #[.pointer (some ⟨d, 0, none⟩)] w fun e w' => e = .returned (.int .i64 (topP l : Nat)) ∧ Below w.heap.size w w' := by
  obtain ⟨v, hc, hv, _⟩ := h.list hn hs
  exact top_of _ v l w (list_doc d v w hc) hv hn
/-- The first node behind all below a node. -/
def endFrom (n : Nat) : List Nd → Nat → Nat
  | [], k => k
  | x :: r, k => if (n : Int) ≤ x.n then endFrom n r (k + 1) else k
def endP (l : List Nd) (n : Nat) : Nat := endFrom n (l.drop (n + 1)) (n + 1)
/-- What holds at each round's head. -/
def EdRel (w : World) (l : List Nd) (n : Nat) (i : Value) (wr : World) : Prop := ∃ k : Nat, n < k ∧ k ≤ l.length ∧ i = .int .i64 k ∧ endP l n = endFrom n (l.drop k) k ∧ wr = w
set_option maxHeartbeats 8000000 in
theorem end_doc {B d : Nat} {l : List Nd} (n : Nat) (w : World) (h : DocAt w B d l) (hn : l.length ≤ 100000) (hs : ∀ x ∈ l, Sm x) (hnl : n < l.length) : Calls Tryd.prog 12 #[.pointer (some ⟨d, 0, none⟩), .int .i64 (n : Int)] w fun e w' => e = .returned (.int .i64 (endP l n : Nat)) ∧ w' = w := by
  have HH := Lib.hid (has_doc (n : Int) w h hn hs)
  rw [decide_eq_true (by omega)] at HH
  obtain ⟨v, hc, hv, _⟩ := h.list hn hs
  obtain ⟨b, o, cap, rfl, hc1, hc2, hbB, hnd⟩ := hv.open (by intro h; rw [h] at hnl; simp at hnl)
  have HND := Lib.hid hnd
  obtain ⟨R, hR⟩ : ∃ R, endP l n = R := ⟨_, rfl⟩
  rw [hR]
  have HR := Lib.hid hR
  obtain ⟨m, hmE⟩ : ∃ m, l.length = m := ⟨_, rfl⟩
  have HM := Lib.hid hmE
  rw [hmE] at hn hc1 hnl hc
  clear hnd hv h hR hmE
  go_enter Tryd.func12, Tryd.ntmps12
  go_wp2_with fail
  refine HH.out.mono ?_
  rintro e w1 ⟨rfl, hw⟩
  rw [hw]
  clear hw
  go_wp2
  go_loopw [5] (EdRel w l n) (fun i _ => m - (intOf i).toNat)
  case atStart => exact ⟨n + 1, by omega, by rw [HM.out]; omega, by go_num, rfl, rfl⟩
  case round =>
    obtain ⟨k, hk1, hk, rfl, hE, rfl⟩ := hrel
    rw [HM.out] at hk
    have HE := Lib.hid hE
    clear hE
    by_cases hlt : k < m
    · have hkl : k < l.length := by rw [HM.out]; exact hlt
      obtain ⟨vd, va, d0, d1, _⟩ := (HND.out k hkl).cells
      have hkz : (k : Int) < (m : Int) := by omega
      have HD : Hid (l.drop k = l[k] :: l.drop (k + 1)) := List.drop_eq_getElem_cons hkl
      generalize l[k] = x at *
      clear d0
      by_cases hx : (n : Int) ≤ x.n
      · have HNX : Hid (EdRel wr l n (.int .i64 ((k + 1 : Nat) : Int)) wr) := ⟨k + 1, by omega, hkl, rfl, by rw [HE.out, HD.out, endFrom, if_pos hx], rfl⟩
        go_wp2
        go_roundw
        case rel => exact (show Value.int .i64 ((k + 1 : Nat) : Int) = _ by go_num) ▸ HNX.out
        case measure => simp [intOf]; omega
      · have hRk : R = k := by rw [← HR.out, HE.out, HD.out, endFrom, if_neg hx]
        have HRK := Lib.hid hRk
        have hx1 := decide_eq_false hx
        clear hRk
        go_wp2
        go_ret
        exact ⟨by rw [HRK.out]; rfl, rfl⟩
    · have hkz : ¬ (k : Int) < (m : Int) := by omega
      have hkz1 := decide_eq_false hkz
      have hRk : R = k := by rw [← HR.out, HE.out, List.drop_of_length_le (by rw [HM.out]; omega)]; rfl
      have HRK := Lib.hid hRk
      clear hRk
      go_wp2
      go_ret
      exact ⟨by rw [HRK.out]; rfl, rfl⟩
end Go.Proofs.YtalcmhngebobnaaDoor
namespace Go.Proofs.YtalcmhngebobnaaDoor
set_option linter.unusedVariables false
theorem endFrom_spec {l : List Nd} {n : Nat} : ∀ (m k : Nat), l.length - k = m → k ≤ l.length → k ≤ endFrom n (l.drop k) k ∧ endFrom n (l.drop k) k ≤ l.length ∧ (∀ j, k ≤ j → j < endFrom n (l.drop k) k → (n : Int) ≤ pa l j) ∧ (endFrom n (l.drop k) k < l.length → pa l (endFrom n (l.drop k) k) < (n : Int))
  | 0, k, hm, hk => by
    rw [List.drop_of_length_le (by omega), endFrom]
    exact ⟨Nat.le_refl _, hk, fun j h1 h2 => by omega, fun h => by omega⟩
  | m + 1, k, hm, hk => by
    have hkl : k < l.length := by omega
    obtain ⟨h1, h2, h3, h4⟩ := endFrom_spec (l := l) (n := n) m (k + 1) (by omega) (by omega)
    rw [List.drop_eq_getElem_cons hkl, endFrom]
    by_cases hx : (n : Int) ≤ l[k].n
    · rw [if_pos hx]
      refine ⟨by omega, h2, fun j hj1 hj2 => ?_, h4⟩
      by_cases he : j = k
      · subst he; rw [pa_at hkl]; exact hx
      · exact h3 j (by omega) hj2
    · rw [if_neg hx]
      refine ⟨Nat.le_refl _, hk, fun j h1 h2 => by omega, fun _ => ?_⟩
      rw [pa_at hkl]; omega
theorem end_spec {l : List Nd} {n : Nat} (h : n < l.length) : n < endP l n ∧ endP l n ≤ l.length ∧ (∀ j, n < j → j < endP l n → (n : Int) ≤ pa l j) ∧ (endP l n < l.length → pa l (endP l n) < (n : Int)) := by
  obtain ⟨h1, h2, h3, h4⟩ := endFrom_spec (l := l) (n := n) _ (n + 1) rfl (by omega)
  exact ⟨h1, h2, fun j hj => h3 j hj, h4⟩
/-- What is above a node below c, and ahead of c, is above c's parent, or that itself. -/
theorem up_below {l : List Nd} {i c : Nat} (hh : Hung l i) : ∀ j, c ≤ j → j < i → (∀ q, c < q → q ≤ j → (c : Int) ≤ pa l q) → ∀ m, m ∈ chn l j → m < c → m ∈ chn l (pa l c).toNat := by
  intro j
  induction j using Nat.strongRecOn with
  | ind j ih =>
    intro hcj hj hq m hm hmc
    have hm' := (mem_step hh hj (by omega)).1 hm
    by_cases he : j = c
    · subst he; exact hm'
    · have hp := hq j (by omega) (Nat.le_refl _)
      have hl := hh j (by omega) hj
      exact ih _ (by omega) (by omega) (by omega) (fun q h1 h2 => hq q h1 (by omega)) m hm' hmc
theorem hang_mem {l : List Nd} {i : Nat} (h : hangB l i = true) : (pa l i).toNat ∈ chn l (i - 1) := by
  simp only [hangB, Bool.and_eq_true, decide_eq_true_eq] at h
  exact h.1.2
/-- Behind a child of n, and all below it, stands a child of n, unless all below n is over. -/
theorem next_kid {l : List Nd} {n c : Nat} (hh : Hung l l.length) (hg : ∀ i, 1 ≤ i → i < l.length → hangB l i = true) (hn : n < c) (hc : c < l.length) (hpc : pa l c = n) (he : endP l c < endP l n) : pa l (endP l c) = n := by
  obtain ⟨a1, a2, a3, a4⟩ := end_spec hc
  obtain ⟨b1, b2, b3, b4⟩ := end_spec (show n < l.length by omega)
  have h1 := b3 (endP l c) (by omega) he
  have h2 := a4 (by omega)
  have h3 := hang_mem (hg (endP l c) (by omega) (by omega))
  have h4 := up_below (c := c) hh (endP l c - 1) (by omega) (by omega) (fun q hq1 hq2 => a3 q hq1 (by omega)) _ h3 (by omega)
  rw [hpc] at h4
  have h5 := chn_le h4
  omega
/-- Right behind n stands its first child, unless it has none. -/
theorem first_kid {l : List Nd} {n : Nat} (hh : Hung l l.length) (hn : n < l.length) (he : n + 1 < endP l n) : pa l (n + 1) = n := by
  obtain ⟨b1, b2, b3, b4⟩ := end_spec hn
  have h1 := b3 (n + 1) (by omega) he
  have h2 := hh (n + 1) (by omega) (by omega)
  omega
/-- All below a child of n is below n. -/
theorem end_within {l : List Nd} {n c : Nat} (hn : n < c) (hc : c < endP l n) (hl : n < l.length) : endP l c ≤ endP l n := by
  obtain ⟨b1, b2, b3, b4⟩ := end_spec hl
  obtain ⟨a1, a2, a3, a4⟩ := end_spec (show c < l.length by omega)
  by_cases h : endP l n < endP l c
  · have h1 := a3 (endP l n) (by omega) h
    have h2 := b4 (by omega)
    omega
  · omega
end Go.Proofs.YtalcmhngebobnaaDoor
namespace Go.Proofs.YtalcmhngebobnaaDoor
open Go.RowKit
set_option linter.unusedVariables false
theorem intInf : (Tryd.prog.info? 3).map (fun i => (i.zero, i.size, i.bytes)) = some (some (.int .i64 0), 1, 8) := by kernel_rfl
def i64c (l : List Int) : List Value := l.map (.int .i64)
theorem i64c_length (l : List Int) : (i64c l).length = l.length := by simp [i64c]
theorem i64c_append (a b : List Int) : i64c (a ++ b) = i64c a ++ i64c b := by simp [i64c]
theorem i64c_one (l : List Int) : ∀ u ∈ i64c l, u.oneCell' = true := fun u hu => by
  simp [i64c] at hu; obtain ⟨z, _, rfl⟩ := hu; rfl
theorem addr_addI (b o j : Nat) : (⟨b, o, none⟩ : Addr).add j = ⟨b, o + j, none⟩ := by unfold Addr.add; split <;> simp_all
/-- A slice of these bytes in a row of the call's own, of which nothing is frozen; or no slice, and none. -/
def OwnI (w : World) (B : Nat) (v : Value) (l : List Int) : Prop :=
  (v = .slice none 0 0 ∧ l = []) ∨ ∃ g cap, v = .slice (some ⟨g, 0, none⟩) l.length cap ∧ B ≤ g ∧ g < w.heap.size ∧ l.length ≤ cap ∧ cap ≤ 9223372036854775807 ∧
    (∀ j, j < cap → (w.cell? ⟨g, j, none⟩).isSome = true ∧ w.frozen? ⟨g, j, none⟩ = false) ∧ ∀ j u, (i64c l)[j]? = some u → w.cell? ⟨g, j, none⟩ = some u
theorem OwnI.nil (w : World) (B : Nat) : OwnI w B (.slice none 0 0) [] := .inl ⟨rfl, rfl⟩
theorem OwnI.later {w w' : World} {B : Nat} {v : Value} {l : List Int} (h : OwnI w B v l) (hb : Below w.heap.size w w') : OwnI w' B v l := by
  rcases h with h | ⟨g, cap, e, h1, h2, h3, h4, h5, h6⟩
  · exact .inl h
  · exact .inr ⟨g, cap, e, h1, Nat.lt_of_lt_of_le h2 hb.size, h3, h4, fun j hj => by rw [hb.cell (p := ⟨g, j, none⟩) h2, hb.frozen (p := ⟨g, j, none⟩) h2]; exact h5 j hj, fun j u hu => by rw [hb.cell (p := ⟨g, j, none⟩) h2]; exact h6 j u hu⟩
theorem OwnI.of_row {w : World} {B n : Nat} {v : Value} {l : List Int} (h : w.ownsRow B 3 1 v n (i64c l)) : OwnI w B v l := by
  obtain ⟨hl, h | ⟨g, cap, cur, rfl, hg, hh, hn, hc, hs, ht⟩⟩ := h
  · obtain ⟨rfl, rfl⟩ := h
    rw [i64c_length] at hl
    exact .inl ⟨rfl, List.eq_nil_of_length_eq_zero (by simpa using hl)⟩
  · rw [i64c_length, Nat.mul_one] at hl
    subst hl
    rw [Nat.mul_one] at hs ht
    refine .inr ⟨g, cap, rfl, hg, (Array.getElem?_eq_some_iff.1 hh).1, hn, by unfold maxLen at hc; exact hc, fun j hj => ⟨?_, frozen_of_row w g j cur 3 hh⟩, fun j u hu => ?_⟩
    · rw [cell_of_row w g j cur 3 (0, 0) hh, Array.getElem?_eq_getElem (by omega)]; rfl
    · rw [cell_of_row w g j cur 3 (0, 0) hh, ← hu, ← ht]
      have hj : j < l.length := by
        have := (List.getElem?_eq_some_iff.1 hu).1
        rwa [i64c_length] at this
      rw [List.getElem?_take_of_lt hj, Array.getElem?_toList]
theorem OwnI.lies {w : World} {B : Nat} {v : Value} {l : List Int} (h : OwnI w B v l) : ∃ A cap, v = .slice A l.length cap ∧ l.length ≤ cap ∧ cap ≤ 9223372036854775807 ∧ Lies w w.heap.size A (i64c l) := by
  rcases h with ⟨rfl, rfl⟩ | ⟨g, cap, rfl, h1, h2, h3, h4, h5, h6⟩
  · exact ⟨none, 0, rfl, Nat.le_refl _, by omega, fun h => absurd rfl h⟩
  · exact ⟨some ⟨g, 0, none⟩, cap, rfl, h3, h4, fun _ => ⟨g, 0, rfl, h2, fun j hj => by rw [Nat.zero_add]; exact h6 j _ (List.getElem?_eq_getElem hj)⟩⟩
theorem below_setCellsI {B g : Nat} (hB : B ≤ g) {a : World} : ∀ (vs : List Value) (o : Nat) (w : World), Below B a w → Below B a (w.setCells g o vs)
  | [], _, _, h => h
  | v :: r, o, w, h => below_setCellsI hB r (o + 1) _ (h.setCell (p := ⟨g, o, none⟩) hB v)
theorem size_setCellsI {g : Nat} : ∀ (vs : List Value) (o : Nat) (w : World), (w.setCells g o vs).heap.size = w.heap.size
  | [], _, _ => rfl
  | v :: r, o, w => by rw [World.setCells, size_setCellsI r]; simp [World.setCell]
/-- A row that has room, written behind its bytes. -/
theorem own_roomI {w : World} {B g cap : Nat} {l y : List Int} (h1 : B ≤ g) (h2 : g < w.heap.size) (h4 : cap ≤ 9223372036854775807) (hroom : l.length + y.length ≤ cap)
    (h5 : ∀ j, j < cap → (w.cell? ⟨g, j, none⟩).isSome = true ∧ w.frozen? ⟨g, j, none⟩ = false) (h6 : ∀ j u, (i64c l)[j]? = some u → w.cell? ⟨g, j, none⟩ = some u) :
    OwnI (w.setCells g l.length (i64c y)) B (.slice (some ⟨g, 0, none⟩) (l.length + y.length) cap) (l ++ y) := by
  have hin := World.cell?_setCells_in g (i64c y) l.length w (fun j hj => (h5 (l.length + j) (by rw [i64c_length] at hj; omega)).1)
  refine .inr ⟨g, cap, by rw [List.length_append], h1, by rw [size_setCellsI]; exact h2, by rw [List.length_append]; exact hroom, h4, fun j hj => ⟨?_, by rw [World.frozen?_setCells]; exact (h5 j hj).2⟩, fun j u hu => ?_⟩
  · by_cases hj1 : l.length ≤ j ∧ j < l.length + y.length
    · have := hin (j - l.length) (by rw [i64c_length]; omega)
      rw [show l.length + (j - l.length) = j by omega] at this
      rw [this]; rfl
    · rw [World.cell?_setCells_out g (i64c y) l.length w ⟨g, j, none⟩ (fun _ _ => by rw [i64c_length]; show j < l.length ∨ l.length + y.length ≤ j; omega)]
      exact (h5 j hj).1
  · rw [i64c_append] at hu
    by_cases hj1 : j < l.length
    · rw [World.cell?_setCells_out g (i64c y) l.length w ⟨g, j, none⟩ (fun _ _ => .inl hj1)]
      rw [List.getElem?_append_left (by rw [i64c_length]; exact hj1)] at hu
      exact h6 j u hu
    · rw [List.getElem?_append_right (by rw [i64c_length]; omega), i64c_length] at hu
      have hj2 := (List.getElem?_eq_some_iff.1 hu).1
      have := hin (j - l.length) hj2
      rw [show l.length + (j - l.length) = j by omega] at this
      rw [this, ← hu, List.getElem?_eq_getElem hj2]
/-- A row that was laid anew. -/
theorem own_grownI {w : World} {B cap : Nat} {l y : List Int} (hB : B ≤ w.heap.size) (hge : l.length + y.length ≤ cap) (hcm : cap ≤ maxLen) (Z : Array Value) (hZ : Z.size = cap - (l.length + y.length)) :
    OwnI (w.drew.alloc (.cells ((i64c l).toArray ++ (i64c y).toArray ++ Z) 3)) B (.slice (some ⟨w.heap.size, 0, none⟩) (l.length + y.length) cap) (l ++ y) := by
  refine OwnI.of_row (n := l.length + y.length) ⟨by rw [i64c_length, List.length_append]; omega, .inr ⟨w.heap.size, cap, _, rfl, hB, heap_alloc_new w.drew _, hge, hcm, ?_, ?_⟩⟩
  · simp only [Array.size_append, List.size_toArray, i64c_length, hZ]; omega
  · rw [Nat.mul_one, i64c_append]
    simp only [Array.toList_append]
    rw [List.take_append_of_le_length (by simp [i64c_length])]
    exact List.take_of_length_le (by simp [i64c_length])
/-- append of bytes that lie somewhere. -/
theorem app_runI {w : World} {B : Nat} {v : Value} {l : List Int} (h : OwnI w B v l) (hB : B ≤ w.heap.size) (ad : Addr) (m c : Nat) (y : List Int) (hm : y.length = m) (hy : ∀ j u, (i64c y)[j]? = some u → w.cell? (ad.add j) = some u) (hn : l.length + m ≤ 1000000) (ty : TypeId) :
    ∃ v' w', (Builtin.append_ #[50, 50] ty #[v, .slice (some ad) m c]).run Tryd.prog w = .ok v' w' ∧ OwnI w' B v' (l ++ y) ∧ Below B w w' := by
  obtain ⟨i0, hi, hz0, hz1, hz2⟩ := info_parts intInf
  subst hm
  rcases h with ⟨rfl, rfl⟩ | ⟨g, cap, rfl, h1, h2, h3, h4, h5, h6⟩
  · obtain ⟨v', w', hr, ho, hg, _⟩ := run_append_own (P := Tryd.prog) w B 50 ty 3 i0 (.int .i64 0) 1 8 Tryd.underlying50 hi hz0 hz1 hz2 rfl (by omega) (.slice none 0 0) 0 [] (World.ownsRow_nil _ _ _ _) ad y.length c (i64c y) (by rw [i64c_length]; omega) hy (i64c_one y) (by unfold maxLen; omega) (by omega) hB
    exact ⟨v', w', hr, OwnI.of_row ho, (Below.refl B w).grown hg hB (fun k hk => by simp [Value.ownBlock] at hk)⟩
  · by_cases hroom : l.length + y.length ≤ cap
    · have hf := run_firstCells_some (P := Tryd.prog) w 1 y.length ad y.length c (i64c y) (by rw [i64c_length]; omega) hy
      have hst := run_storeCells_cells (P := Tryd.prog) g l.length (i64c y) 0 w (fun j hj => (h5 _ (by rw [i64c_length] at hj; omega)).1) (fun j hj => (h5 _ (by rw [i64c_length] at hj; omega)).2) (i64c_one y)
      rw [Nat.add_zero] at hst
      exact ⟨_, _, by simp [Builtin.append_, run_underlying Tryd.underlying50, sizeOf, typeInfo, hi, hz1, Builtin.lenOf, hroom, hf, Addr.add_lit, hst], own_roomI h1 h2 h4 hroom h5 h6, below_setCellsI h1 _ _ _ (Below.refl _ _)⟩
    · have hr := run_append_grow (P := Tryd.prog) w 50 ty 3 i0 (.int .i64 0) Tryd.underlying50 hi hz0 ⟨g, 0, none⟩ l.length cap (i64c l) (by rw [i64c_length, hz1]; omega) (fun j u hu => by rw [addr_addI, Nat.zero_add]; exact h6 j u hu) ad y.length c (i64c y) (by rw [i64c_length, hz1]; omega) hy (by omega) (by omega) (by rw [hz2]; exact growslice_fits (by omega) (by omega))
      refine ⟨_, _, hr, own_grownI hB (grownCap_ge w _ cap _) (grownCap_le_maxLen w _ cap _ (by unfold maxLen; omega)) _ ?_, ((Below.refl B w).drew).alloc hB _⟩
      rw [size_zeroCells]; simp [Value.cells]
/-- The same, as operations. -/
theorem app_listI {w : World} {ops : Array Oper} {rest : List Oper} {o : Oper} {a : Act} {Q : Exit → Act → World → Prop} (hgd : o.guard = none) (s x : Operand)
    (ho : o.op = .call { callee := .builtin .append, args := #[s, x], argTypes := #[50, 50] }) (B : Nat) (l : List Int) (v : Value) (hs : a.eval s = v) (hown : OwnI w B v l) (hB : B ≤ w.heap.size)
    (ad : Addr) (m c : Nat) (y : List Int) (hx : a.eval x = .slice (some ad) m c) (hm : y.length = m) (hy : ∀ j u, (i64c y)[j]? = some u → w.cell? (ad.add j) = some u) (hn : l.length + m ≤ 1000000)
    (h : ∀ v' w', OwnI w' B v' (l ++ y) → Below B w w' → wpList Tryd.prog ops Q rest (a.put o.dst v') w') : wpList Tryd.prog ops Q (o :: rest) a w := by
  refine wpList_plain hgd fun K hK => ?_
  obtain ⟨v', w', hr, h2, h3⟩ := app_runI hown hB ad m c y hm hy hn o.type
  unfold Oper.wp execOp
  simp only [ho, resolve, invoke, builtin, Sem.run_bind, Sem.run_pure, Result.andThen_ok, List.map_toArray, List.map_cons, List.map_nil, hs, hx, hr]
  exact hK _ _ (h v' w' h2 h3)
/-- append of one byte that the same round laid. -/
theorem app_byteI {w : World} {ops : Array Oper} {rest : List Oper} {o : Oper} {a : Act} {Q : Exit → Act → World → Prop} (hgd : o.guard = none) (s x : Operand)
    (ho : o.op = .call { callee := .builtin .append, args := #[s, x], argTypes := #[50, 50] }) (B : Nat) (l : List Int) (v : Value) (hs : a.eval s = v) (hown : OwnI w B v l) (hB : B ≤ w.heap.size)
    (y : Int) (hx : a.eval x = .slice (some ⟨w.heap.size, 0, none⟩) 1 1) (hn : l.length + 1 ≤ 1000000)
    (h : ∀ v' w', OwnI w' B v' (l ++ [y]) → Below B w w' → wpList Tryd.prog ops Q rest (a.put o.dst v') w') : wpList Tryd.prog ops Q (o :: rest) a (w.alloc (.cells #[.int .i64 y] 3)) := by
  have hb := (Below.refl w.heap.size w).alloc (Nat.le_refl _) (.cells #[.int .i64 y] 3)
  refine app_listI hgd s x ho B l v hs (hown.later hb) (Nat.le_trans hB hb.size) ⟨w.heap.size, 0, none⟩ 1 1 [y] hx rfl (fun j u hu => ?_) hn fun v' w' h2 h3 => h v' w' h2 ((hb.mono hB).trans h3)
  rw [addr_addI, Nat.zero_add, cell_of_row _ _ j _ _ _ (heap_alloc_last w _)]
  exact List.getElem?_toArray.trans hu
end Go.Proofs.YtalcmhngebobnaaDoor
namespace Go.Proofs.YtalcmhngebobnaaDoor
open Go.RowKit
set_option linter.unusedVariables false
set_option maxRecDepth 100000
/-- Those of the first k that stand behind n and hang on it. -/
def kidsL (l : List Nd) (n : Nat) : Nat → List Int
  | 0 => []
  | k + 1 => if n < k ∧ pa l k = (n : Int) then kidsL l n k ++ [(k : Int)] else kidsL l n k
theorem kidsL_len (l : List Nd) (n : Nat) : ∀ k, (kidsL l n k).length ≤ k
  | 0 => Nat.le_refl _
  | k + 1 => by
    have := kidsL_len l n k
    unfold kidsL; split
    · simp; exact this
    · omega
theorem kidsL_start (l : List Nd) (n : Nat) : ∀ k, k ≤ n + 1 → kidsL l n k = []
  | 0, _ => rfl
  | k + 1, h => by rw [kidsL, if_neg (by omega), kidsL_start l n k (by omega)]
/-- What holds at each round's head. -/
def KdRel (w : World) (l : List Nd) (n : Nat) (v i : Value) (wr : World) : Prop := ∃ k : Nat, n < k ∧ k ≤ endP l n ∧ i = .int .i64 k ∧ OwnI wr w.heap.size v (kidsL l n k) ∧ Below w.heap.size w wr
end Go.Proofs.YtalcmhngebobnaaDoor
namespace Go.Proofs.YtalcmhngebobnaaDoor
set_option linter.unusedVariables false
theorem kidsL_mono (l : List Nd) (n c : Nat) : ∀ e, c ≤ e → ∃ r, kidsL l n e = kidsL l n c ++ r
  | 0, h => ⟨[], by rw [show c = 0 by omega]; simp⟩
  | e + 1, h => by
    by_cases he : c = e + 1
    · subst he; exact ⟨[], by simp⟩
    · obtain ⟨r, hr⟩ := kidsL_mono l n c e (by omega)
      rw [kidsL]
      split
      · exact ⟨r ++ [(e : Int)], by rw [hr, List.append_assoc]⟩
      · exact ⟨r, hr⟩
theorem kidsL_kid {l : List Nd} {n c : Nat} (h : n < c) (hp : pa l c = (n : Int)) : kidsL l n (c + 1) = kidsL l n c ++ [(c : Int)] := by rw [kidsL, if_pos ⟨h, hp⟩]
theorem kidsL_skip {l : List Nd} {n c : Nat} : ∀ e, c ≤ e → (∀ j, c ≤ j → j < e → pa l j ≠ (n : Int)) → kidsL l n e = kidsL l n c
  | 0, h, _ => by rw [show c = 0 by omega]
  | e + 1, h, hn => by
    by_cases he : c = e + 1
    · subst he; rfl
    · rw [kidsL, if_neg (fun hh => hn e (by omega) (by omega) hh.2)]
      exact kidsL_skip e (by omega) (fun j h1 h2 => hn j h1 (by omega))
/-- The next child is the place itself. -/
theorem kid_here {l : List Nd} {n c e : Nat} (h : n < c) (hc : c < e) (hp : pa l c = (n : Int)) : (kidsL l n e)[(kidsL l n c).length]? = some (c : Int) := by
  obtain ⟨r, hr⟩ := kidsL_mono l n (c + 1) e (by omega)
  rw [hr, kidsL_kid h hp, List.append_assoc, List.getElem?_append_right (Nat.le_refl _)]
  simp
theorem kid_more {l : List Nd} {n c e : Nat} (h : n < c) (hc : c < e) (hp : pa l c = (n : Int)) : (kidsL l n c).length < (kidsL l n e).length := by
  have := kid_here h hc hp
  exact (List.getElem?_eq_some_iff.1 this).1
/-- Behind all below a child: one child more, and the next one, or the end. -/
theorem kid_step {l : List Nd} {n c : Nat} (hh : Hung l l.length) (hg : ∀ i, 1 ≤ i → i < l.length → hangB l i = true) (hl : n < l.length) (h : n < c) (hc : c < endP l n) (hp : pa l c = (n : Int)) :
    n < endP l c ∧ endP l c ≤ endP l n ∧ (kidsL l n (endP l c)).length = (kidsL l n c).length + 1 ∧ (endP l c < endP l n → pa l (endP l c) = (n : Int)) := by
  obtain ⟨e1, e2, _, _⟩ := end_spec hl
  have hcl : c < l.length := by omega
  obtain ⟨a1, a2, a3, a4⟩ := end_spec hcl
  refine ⟨by omega, end_within h hc hl, ?_, fun he => next_kid hh hg h hcl hp he⟩
  rw [kidsL_skip (c := c + 1) (endP l c) (by omega) (fun j h1 h2 hj => by have := a3 j (by omega) h2; omega), kidsL_kid h hp]
  simp
end Go.Proofs.YtalcmhngebobnaaDoor
namespace Go.Proofs.YtalcmhngebobnaaDoor
open Go.RowKit
set_option linter.unusedVariables false
set_option maxRecDepth 100000
/-- Those above a node, the nearest first. -/
def upL (l : List Nd) (n : Nat) : List Int :=
  if h : 0 ≤ pa l n ∧ (pa l n).toNat < n then pa l n :: upL l (pa l n).toNat else []
termination_by n
decreasing_by exact h.2
theorem upL_step {l : List Nd} {n : Nat} (h : 0 ≤ pa l n ∧ (pa l n).toNat < n) : upL l n = pa l n :: upL l (pa l n).toNat := by rw [upL, dif_pos h]
theorem upL_stop {l : List Nd} {n : Nat} (h : ¬ (0 ≤ pa l n ∧ (pa l n).toNat < n)) : upL l n = [] := by rw [upL, dif_neg h]
/-- What holds at each round's head: r is done, the node q is the last one looked at. -/
def UpRel (w : World) (l : List Nd) (n : Nat) (v a : Value) (wr : World) : Prop := ∃ (q : Nat) (r : List Int), q ≤ n ∧ a = .int .i64 (pa l q) ∧ upL l n = r ++ upL l q ∧ r.length + q ≤ n ∧ OwnI wr w.heap.size v r ∧ Below w.heap.size w wr
end Go.Proofs.YtalcmhngebobnaaDoor
namespace Go.Proofs.YtalcmhngebobnaaDoor
open Go.RowKit
set_option linter.unusedVariables false
set_option maxRecDepth 100000
theorem chn_up {l : List Nd} {m p a : Nat} (hp : pa l m = (p : Int)) (hlt : p < m) (hne : a ≠ m) : a ∈ chn l m ↔ a ∈ chn l p := by
  rw [chn_step (by rw [hp]; omega), List.mem_cons, hp]
  exact ⟨fun h => h.resolve_left hne, .inr⟩
theorem chn_root {l : List Nd} {m a : Nat} (hp : pa l m = -1) (hne : a ≠ m) : a ∉ chn l m := by
  rw [chn_stop (by rw [hp]; omega), List.mem_singleton]; exact hne
/-- A node's parent: none of the first one, a node ahead of the others. -/
theorem pa_cases {l : List Nd} {b m : Nat} (hh : Hung l (b + 1)) (h0 : pa l 0 = -1) (hm : m ≤ b) : (m = 0 ∧ pa l m = -1) ∨ ∃ p : Nat, pa l m = (p : Int) ∧ p < m := by
  rcases Nat.eq_zero_or_pos m with rfl | h1
  · exact .inl ⟨rfl, h0⟩
  · have := hh m h1 (by omega)
    exact .inr ⟨(pa l m).toNat, by omega, by omega⟩
/-- What holds at each round's head. -/
def AbRel (w : World) (l : List Nd) (a b : Nat) (i : Value) (wr : World) : Prop := wr = w ∧ ((∃ m : Nat, m ≤ b ∧ i = .int .i64 m ∧ (a ∈ chn l b ↔ a ∈ chn l m)) ∨ (i = .int .i64 (-1) ∧ a ∉ chn l b))
/-- The first element whose parent is the Root. -/
def rtopFrom : List Nd → Nat → Nat
  | [], _ => 0
  | x :: r, k => if 0 < k ∧ x.n = 0 ∧ x.k = 1 then k else rtopFrom r (k + 1)
/-- What holds at each round's head. -/
def RtRel (w : World) (l : List Nd) (i : Value) (wr : World) : Prop := ∃ k : Nat, k ≤ l.length ∧ i = .int .i64 k ∧ rtopFrom l 0 = rtopFrom (l.drop k) k ∧ wr = w
/-- The child of the same parent right ahead of a node; -1: none. -/
def aheadP (l : List Nd) (n : Nat) : Nat → Int
  | 0 => -1
  | m + 1 => if 0 < m ∧ pa l m = pa l n then (m : Int) else aheadP l n m
/-- What holds at each round's head. -/
def AhRel (w : World) (l : List Nd) (n : Nat) (i : Value) (wr : World) : Prop := ∃ m : Nat, m ≤ n ∧ i = .int .i64 ((m : Int) - 1) ∧ aheadP l n n = aheadP l n m ∧ Below w.heap.size w wr
end Go.Proofs.YtalcmhngebobnaaDoor
namespace Go.Proofs.YtalcmhngebobnaaDoor
open Go.RowKit
set_option linter.unusedVariables false
set_option maxRecDepth 100000
/-- The place behind the last of the first k that n is above of. -/
def rendL (l : List Nd) (n : Nat) : Nat → Nat
  | 0 => 0
  | k + 1 => if n ∈ chn l k then k + 1 else rendL l n k
/-- What holds at each round's head. -/
def ReRel (w : World) (l : List Nd) (n : Nat) (out i : Value) (wr : World) : Prop := ∃ k : Nat, k ≤ l.length ∧ i = .int .i64 k ∧ out = .int .i64 (rendL l n k : Nat) ∧ wr = w
/-- Those of the first k, the first one aside, that hang on n. -/
def rkidsL (l : List Nd) (n : Nat) : Nat → List Int
  | 0 => []
  | k + 1 => if 0 < k ∧ pa l k = (n : Int) then rkidsL l n k ++ [(k : Int)] else rkidsL l n k
theorem rkidsL_len (l : List Nd) (n : Nat) : ∀ k, (rkidsL l n k).length ≤ k
  | 0 => Nat.le_refl _
  | k + 1 => by
    have := rkidsL_len l n k
    unfold rkidsL; split
    · simp; exact this
    · omega
/-- What holds at each round's head. -/
def RkRel (w : World) (l : List Nd) (n : Nat) (v i : Value) (wr : World) : Prop := ∃ k : Nat, k ≤ l.length ∧ i = .int .i64 k ∧ OwnI wr w.heap.size v (rkidsL l n k) ∧ Below w.heap.size w wr
end Go.Proofs.YtalcmhngebobnaaDoor
namespace Go.Proofs.YtalcmhngebobnaaDoor
set_option linter.unusedVariables false
theorem chn_trans {l : List Nd} {a b : Nat} : ∀ c, b ∈ chn l c → a ∈ chn l b → a ∈ chn l c := by
  intro c
  induction c using Nat.strongRecOn with
  | ind c ih =>
    intro hb ha
    by_cases hp : 0 ≤ pa l c ∧ (pa l c).toNat < c
    · rw [chn_step hp, List.mem_cons] at hb
      rcases hb with rfl | hb
      · exact ha
      · rw [chn_step hp, List.mem_cons]
        exact .inr (ih _ hp.2 hb ha)
    · rw [chn_stop hp, List.mem_singleton] at hb
      subst hb; exact ha
theorem chn_in {l : List Nd} {n : Nat} (hh : Hung l l.length) (hl : n < l.length) : ∀ j, n ≤ j → j < endP l n → n ∈ chn l j := by
  obtain ⟨e1, e2, e3, e4⟩ := end_spec hl
  intro j
  induction j using Nat.strongRecOn with
  | ind j ih =>
    intro h1 h2
    by_cases he : n = j
    · subst he; exact chn_self l n
    · have hp := e3 j (by omega) h2
      have hl' := hh j (by omega) (by omega)
      refine (mem_step hh (show j < l.length by omega) (by omega)).2 (ih _ (by omega) (by omega) (by omega))
theorem chn_out {l : List Nd} {n : Nat} (hh : Hung l l.length) (hg : ∀ i, 1 ≤ i → i < l.length → hangB l i = true) (hl : n < l.length) : ∀ j, endP l n ≤ j → j < l.length → n ∉ chn l j := by
  obtain ⟨e1, e2, e3, e4⟩ := end_spec hl
  intro j
  induction j using Nat.strongRecOn with
  | ind j ih =>
    intro h1 h2 hm
    have hm' := (mem_step hh h2 (by omega)).1 hm
    by_cases he : j = endP l n
    · subst he
      have := e4 h2
      have hj := hh _ (by omega) h2
      have := chn_le hm'
      omega
    · exact ih (j - 1) (by omega) (by omega) (by omega) (chn_trans _ (hang_mem (hg j (by omega) h2)) hm')
theorem rend_eq {l : List Nd} {n : Nat} (hh : Hung l l.length) (hg : ∀ i, 1 ≤ i → i < l.length → hangB l i = true) (hl : n < l.length) : rendL l n l.length = endP l n := by
  obtain ⟨e1, e2, e3, e4⟩ := end_spec hl
  have h1 : ∀ k, endP l n ≤ k → k ≤ l.length → rendL l n k = rendL l n (endP l n) := fun k => by
    induction k with
    | zero => intro h _; rw [show endP l n = 0 by omega]
    | succ k ih =>
      intro ha hb
      by_cases he : endP l n = k + 1
      · rw [he]
      · rw [rendL, if_neg (chn_out hh hg hl k (by omega) (by omega))]
        exact ih (by omega) (by omega)
  rw [h1 _ e2 (Nat.le_refl _)]
  obtain ⟨k, hk⟩ : ∃ k, endP l n = k + 1 := ⟨endP l n - 1, by omega⟩
  rw [hk, rendL, if_pos (chn_in hh hl k (by omega) (by omega))]
theorem rkids_eq {l : List Nd} {n : Nat} (hh : Hung l l.length) (hg : ∀ i, 1 ≤ i → i < l.length → hangB l i = true) (hl : n < l.length) : rkidsL l n l.length = kidsL l n (endP l n) := by
  obtain ⟨e1, e2, e3, e4⟩ := end_spec hl
  have h0 : ∀ k, k ≤ l.length → rkidsL l n k = kidsL l n k := fun k => by
    induction k with
    | zero => intro _; rfl
    | succ k ih =>
      intro hk
      rw [rkidsL, kidsL, ih (by omega)]
      by_cases hp : pa l k = (n : Int)
      · by_cases hk0 : 0 < k
        · have := hh k (by omega) (by omega)
          rw [if_pos ⟨hk0, hp⟩, if_pos ⟨by omega, hp⟩]
        · rw [if_neg (fun h => hk0 h.1), if_neg (fun h => by omega)]
      · rw [if_neg (fun h => hp h.2), if_neg (fun h => hp h.2)]
  rw [h0 _ (Nat.le_refl _)]
  refine kidsL_skip _ e2 (fun j h1 h2 hp => ?_)
  refine chn_out hh hg hl j h1 h2 ?_
  have hj := hh j (by omega) h2
  refine (mem_step hh h2 (by omega)).2 ?_
  rw [hp]
  exact chn_self l n
theorem top_from : ∀ (r : List Nd) (k : Nat), (∀ i (hi : i < r.length), r[i].k = 1 → (∀ j (hj : j < r.length), j < i → r[j].k ≠ 1) → 0 < k + i ∧ r[i].n = 0) → rtopFrom r k = topFrom r k
  | [], _, _ => rfl
  | x :: r, k, h => by
    rw [rtopFrom, topFrom]
    by_cases hx : x.k = 1
    · have := h 0 (by simp) hx (fun j _ hj => by omega)
      simp only [List.getElem_cons_zero] at this
      rw [if_pos hx, if_pos ⟨by omega, this.2, hx⟩]
    · rw [if_neg hx, if_neg (fun hh => hx hh.2.2)]
      refine top_from r (k + 1) (fun i hi h1 h2 => ?_)
      have := h (i + 1) (by simp; omega) (by simpa using h1) (fun j hj hji => by
        match j with
        | 0 => simpa using hx
        | j + 1 => simpa using h2 j (by simpa using hj) (by omega))
      simp only [List.getElem_cons_succ] at this
      exact ⟨by omega, this.2⟩
theorem formed_nodes {l : List Nd} (h : formedP l = true) : (∃ h0 : 0 < l.length, l[0].k = 0) ∧ ∀ i (hi : i < l.length), 1 ≤ i → nodeB l[i] = true := by
  match l, h with
  | x :: r, h =>
    rw [show formedP (x :: r) = (rootB x && (placedB (x :: r) && (r.all nodeB && namesB (x :: r)))) from rfl] at h
    simp only [Bool.and_eq_true] at h
    refine ⟨⟨by simp, ?_⟩, fun i hi h1 => ?_⟩
    · have := h.1
      unfold rootB at this
      simp only [Bool.and_eq_true, beq_iff_eq] at this
      simpa using this.1
    · obtain ⟨j, rfl⟩ : ∃ j, i = j + 1 := ⟨i - 1, by omega⟩
      have := List.all_eq_true.1 h.2.2.1 (r[j]'(by simpa using hi)) (List.getElem_mem _)
      simpa using this
/-- The first element hangs on the Root. -/
theorem rtop_eq {l : List Nd} (h : formedP l = true) : rtopFrom l 0 = topP l := by
  obtain ⟨_, _, hh, hg⟩ := formed_hung h
  obtain ⟨⟨h0, hk0⟩, hn⟩ := formed_nodes h
  refine top_from l 0 (fun i hi h1 h2 => ?_)
  have hi0 : 0 < i := by
    rcases Nat.eq_zero_or_pos i with rfl | h
    · rw [hk0] at h1; cases h1
    · exact h
  refine ⟨by omega, ?_⟩
  have hgi := hg i hi0 hi
  have hhi := hh i hi0 hi
  unfold hangB at hgi
  simp only [Bool.and_eq_true, Bool.or_eq_true, beq_iff_eq] at hgi
  have hpl : (pa l i).toNat < l.length := by omega
  have hk := hgi.2
  rw [kd_at hpl] at hk
  have hk' := hk.resolve_right (h2 _ hpl (by omega))
  rw [← pa_at hi]
  rcases Nat.eq_zero_or_pos (pa l i).toNat with hz | hz
  · omega
  · have := hn _ hpl hz
    unfold nodeB at this
    rw [hk'] at this
    simp at this
end Go.Proofs.YtalcmhngebobnaaDoor
