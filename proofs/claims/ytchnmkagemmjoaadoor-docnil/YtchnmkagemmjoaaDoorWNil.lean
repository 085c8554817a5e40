/-
  (*Doc).list, Len, has, Top and End: of a document, and of none. Conditions: the document lies as it is; there are not too many nodes.
  (*Doc).Top and End of a document. Conditions: the document lies as it is; there are not too many nodes.
  The laws' own look whether the program does anything. Conditions: the tables lie as they are laid, internal/bytealg.MaxLen holds some number.
  DocNil walked. Conditions: the tables lie as they are laid, internal/bytealg.MaxLen holds some number.
-/
import Derived.Test.YtchnmkagemmjoaaDoorDOf
namespace Go.Proofs.YtchnmkagemmjoaaDoor
open Go.RowKit
set_option linter.unusedVariables false
set_option maxRecDepth 100000
set_option maxHeartbeats 4000000
theorem DocAt.cell {w : World} {B d : Nat} {l : List Nd} (h : DocAt w B d l) : ∃ v, w.cell? ⟨d, 0, none⟩ = some v ∧ NsOwn w B v l := by
  obtain ⟨v, _, h2, h3⟩ := h
  exact ⟨v, by rw [cell_of_row w d 0 _ _ _ h2]; rfl, h3⟩
/-- The document's list, whatever world comes later. -/
theorem DocAt.list {w : World} {B d : Nat} {l : List Nd} (h : DocAt w B d l) (hn : l.length ≤ 100000) (hs : ∀ x ∈ l, Sm x) : ∃ v, w.cell? ⟨d, 0, none⟩ = some v ∧ NsAt w w.heap.size v l ∧ d < w.heap.size := by
  obtain ⟨v, _, h2, h3⟩ := h
  exact ⟨v, by rw [cell_of_row w d 0 _ _ _ h2]; rfl, h3.at (by omega) hs, block_lt h2⟩
theorem list_doc (d : Nat) (v : Value) (w : World) (hc : w.cell? ⟨d, 0, none⟩ = some v) : Calls Tryd.prog 35 #[.pointer (some ⟨d, 0, none⟩)] w fun e w' => e = .returned v ∧ w' = w := by
  go_enter Tryd.func35, Tryd.ntmps35
  go_wp2
  go_ret
  exact ⟨rfl, rfl⟩
theorem list_nil (w : World) : Calls Tryd.prog 35 #[.pointer none] w fun e w' => e = .returned (.slice none 0 0) ∧ w' = w := by
  go_enter Tryd.func35, Tryd.ntmps35
  go_wp2
  go_ret
  exact ⟨rfl, rfl⟩
theorem len_of (P : Value) (A : Option Addr) (n c : Nat) (w : World) (H : Hid (Calls Tryd.prog 35 #[P] w fun e w' => e = .returned (.slice A n c) ∧ w' = w)) : Calls Tryd.prog 13 #[P] w fun e w' => e = .returned (.int .i64 (n : Nat)) ∧ w' = w := by
  go_enter Tryd.func13, Tryd.ntmps13
  go_wp2_with fail
  refine H.out.mono ?_
  rintro e w1 ⟨rfl, hw⟩
  rw [hw]
  go_wp2
  go_ret
  exact ⟨rfl, rfl⟩
theorem len_nil (w : World) : Calls Tryd.prog 13 #[.pointer none] w fun e w' => e = .returned (.int .i64 0) ∧ w' = w := len_of _ none 0 0 w (list_nil w)
theorem len_doc {B d : Nat} {l : List Nd} (w : World) (h : DocAt w B d l) (hn : l.length ≤ 100000) (hs : ∀ x ∈ l, Sm x) : Calls Tryd.prog 13 #[.pointer (some ⟨d, 0, none⟩)] w fun e w' => e = .returned (.int .i64 (l.length : Nat)) ∧ w' = w := by
  obtain ⟨v, hc, hv, _⟩ := h.list hn hs
  obtain ⟨A, cap, rfl, _⟩ := hv.slice
  exact len_of _ A l.length cap w (list_doc d _ w hc)
theorem has_of (P : Value) (n : Nat) (z : Int) (w : World) (H : Hid (Calls Tryd.prog 13 #[P] w fun e w' => e = .returned (.int .i64 (n : Nat)) ∧ w' = w)) : Calls Tryd.prog 36 #[P, .int .i64 z] w fun e w' => e = .returned (.bool (decide (0 ≤ z ∧ z < (n : Int)))) ∧ w' = w := by
  by_cases h0 : 0 ≤ z
  · go_enter Tryd.func36, Tryd.ntmps36
    go_wp2_with fail
    refine H.out.mono ?_
    rintro e w1 ⟨rfl, hw⟩
    rw [hw]
    go_wp2
    go_ret
    exact ⟨ret_bool (by simp [h0]), rfl⟩
  · have h1 := decide_eq_false h0
    go_enter Tryd.func36, Tryd.ntmps36
    go_wp2
    go_ret
    exact ⟨ret_bool (by simp), rfl⟩
theorem has_nil (z : Int) (w : World) : Calls Tryd.prog 36 #[.pointer none, .int .i64 z] w fun e w' => e = .returned (.bool false) ∧ w' = w := by
  have h := has_of (.pointer none) 0 z w (len_nil w)
  rw [decide_eq_false (by omega)] at h
  exact h
theorem has_doc {B d : Nat} {l : List Nd} (z : Int) (w : World) (h : DocAt w B d l) (hn : l.length ≤ 100000) (hs : ∀ x ∈ l, Sm x) : Calls Tryd.prog 36 #[.pointer (some ⟨d, 0, none⟩), .int .i64 z] w fun e w' => e = .returned (.bool (decide (0 ≤ z ∧ z < (l.length : Int)))) ∧ w' = w :=
  has_of _ l.length z w (len_doc w h hn hs)
/-- Of nodes that there aren't. -/
theorem end_none (P : Value) (z : Int) (w : World) (H : Hid (Calls Tryd.prog 36 #[P, .int .i64 z] w fun e w' => e = .returned (.bool false) ∧ w' = w)) : Calls Tryd.prog 25 #[P, .int .i64 z] w fun e w' => e = .returned (.int .i64 0) ∧ w' = w := by
  go_enter Tryd.func25, Tryd.ntmps25
  go_wp2_with fail
  refine H.out.mono ?_
  rintro e w1 ⟨rfl, hw⟩
  rw [hw]
  go_wp2
  go_ret
  exact ⟨rfl, rfl⟩
theorem kids_none (P : Value) (z : Int) (w : World) (H : Hid (Calls Tryd.prog 36 #[P, .int .i64 z] w fun e w' => e = .returned (.bool false) ∧ w' = w)) : Calls Tryd.prog 21 #[P, .int .i64 z] w fun e w' => e = .returned (.slice none 0 0) ∧ w' = w := by
  go_enter Tryd.func21, Tryd.ntmps21
  go_wp2_with fail
  refine H.out.mono ?_
  rintro e w1 ⟨rfl, hw⟩
  rw [hw]
  go_wp2
  go_ret
  exact ⟨rfl, rfl⟩
theorem up_none (P : Value) (z : Int) (w : World) (H : Hid (Calls Tryd.prog 36 #[P, .int .i64 z] w fun e w' => e = .returned (.bool false) ∧ w' = w)) : Calls Tryd.prog 23 #[P, .int .i64 z] w fun e w' => e = .returned (.slice none 0 0) ∧ w' = w := by
  go_enter Tryd.func23, Tryd.ntmps23
  go_wp2_with fail
  refine H.out.mono ?_
  rintro e w1 ⟨rfl, hw⟩
  rw [hw]
  go_wp2
  go_ret
  exact ⟨rfl, rfl⟩
/-- A node of nothing. -/
def zeroN : Value := .agg #[.int .i64 0, .int .i64 0, .string ⟨#[]⟩, .string ⟨#[]⟩, .string ⟨#[]⟩, .string ⟨#[]⟩, .slice none 0 0, .slice none 0 0]
theorem node_none (P : Value) (z : Int) (w : World) (H : ∀ w, Hid (Calls Tryd.prog 36 #[P, .int .i64 z] w fun e w' => e = .returned (.bool false) ∧ w' = w)) : Calls Tryd.prog 19 #[P, .int .i64 z] w fun e w' => e = .returned zeroN ∧ Below w.heap.size w w' := by
  have HH := Lib.hid H
  clear H
  go_enter Tryd.func19, Tryd.ntmps19
  go_wp2_with fail
  refine ((HH.out _).out).mono ?_
  rintro e w1 ⟨rfl, hw⟩
  rw [hw]
  clear hw
  go_wp2
  refine bodyPost_ret (v := zeroN) (by simp [results, zeroN, Tryd.results19, go_sem]) rfl ⟨rfl, ?_⟩
  exact (Below.refl _ _).alloc (Nat.le_refl _) _
theorem nodes_nil (w : World) : Calls Tryd.prog 14 #[.pointer none] w fun e w' => ∃ A c, e = .returned (.slice A 0 c) ∧ Below w.heap.size w w' := by
  have HL := Lib.hid (list_nil w)
  have HC : Hid (Calls Tryd.prog 31 #[.slice none 0 0, .func (.func 32) #[] #[]] w fun e w' => ∃ A c, e = .returned (.slice A 0 c) ∧ Below w.heap.size w w') := by
    refine (ncopies_any [] (.slice none 0 0) w ⟨none, 0, rfl, Nat.le_refl _, by omega, fun h => absurd rfl h⟩ (by simp) (by simp)).mono ?_
    rintro e w' ⟨v', rfl, h, hb⟩
    rcases h with ⟨_, rfl⟩ | ⟨g, cur, rfl, _, h3, h4, _⟩
    · exact ⟨_, _, rfl, hb⟩
    · exact ⟨_, _, rfl, hb⟩
  go_enter Tryd.func14, Tryd.ntmps14
  go_wp2_with fail
  refine HL.out.mono ?_
  rintro e w1 ⟨rfl, hw⟩
  rw [hw]
  clear hw
  go_wp2_with fail
  refine HC.out.mono ?_
  rintro e w2 ⟨A, c, rfl, hb⟩
  go_wp2
  go_ret
  exact ⟨_, _, rfl, hb⟩
end Go.Proofs.YtchnmkagemmjoaaDoor
namespace Go.Proofs.YtchnmkagemmjoaaDoor
open Go.RowKit
set_option linter.unusedVariables false
set_option maxRecDepth 100000
/-- The first element. -/
def topFrom : List Nd → Nat → Nat
  | [], _ => 0
  | x :: r, k => if x.k = 1 then k else topFrom r (k + 1)
def topP (l : List Nd) : Nat := topFrom l 0
theorem topFrom_drop {l : List Nd} : ∀ k, k ≤ l.length → (∀ j (hj : j < l.length), j < k → l[j].k ≠ 1) → topP l = topFrom (l.drop k) k
  | 0, _, _ => rfl
  | k + 1, h, hn => by
    rw [topFrom_drop k (by omega) (fun j hj hk => hn j hj (by omega)), List.drop_eq_getElem_cons (show k < l.length by omega), topFrom, if_neg (hn k (by omega) (by omega))]
/-- What holds at each round's head. -/
def TpRel (w : World) (l : List Nd) (i : Value) (wr : World) : Prop := ∃ k : Nat, k ≤ l.length ∧ i = .int .i64 k ∧ (∀ j (hj : j < l.length), j < k → l[j].k ≠ 1) ∧ Below w.heap.size w wr
set_option maxHeartbeats 8000000 in
theorem top_of (P v : Value) (l : List Nd) (w : World) (H : Hid (Calls Tryd.prog 35 #[P] w fun e w' => e = .returned v ∧ w' = w)) (hv : NsAt w w.heap.size v l) (hn : l.length ≤ 100000) : Calls Tryd.prog 15 #[P] w fun e w' => e = .returned (.int .i64 (topP l : Nat)) ∧ Below w.heap.size w w' := by
  have HV := Lib.hid hv
  obtain ⟨A, cap, rfl, hc1, hc2⟩ := hv.slice
  obtain ⟨R, hR⟩ : ∃ R, topP l = R := ⟨_, rfl⟩
  rw [hR]
  have HR := Lib.hid hR
  obtain ⟨n, hnE⟩ : ∃ n, l.length = n := ⟨_, rfl⟩
  have HN := Lib.hid hnE
  rw [hnE] at hn hc1 H
  clear hR hnE
  go_enter Tryd.func15, Tryd.ntmps15
  go_wp2_with fail
  refine H.out.mono ?_
  rintro e w1 ⟨rfl, hw⟩
  rw [hw]
  clear hw
  go_wp2
  go_loopw [8] (TpRel w l) (fun i _ => n - (intOf i).toNat)
  case atStart => exact ⟨0, Nat.zero_le _, rfl, fun j _ h => by omega, Below.refl _ _⟩
  case round =>
    obtain ⟨k, hk, rfl, hno, hb⟩ := hrel
    rw [HN.out] at hk
    have HNO := Lib.hid hno
    clear hno
    by_cases hlt : k < n
    · have hkl : k < l.length := by rw [HN.out]; exact hlt
      obtain ⟨b, o, cap', e, _, _, hbB, hnd⟩ := (HV.out.below hb).open (by intro h; rw [h] at hkl; simp at hkl)
      simp only [Value.slice.injEq] at e
      obtain ⟨rfl, _, rfl⟩ := e
      obtain ⟨vd, va, d0, d1, d2, d3, d4, d5, d6, d7, ⟨A1, q1, rfl, _⟩, ⟨A2, q2, rfl, _⟩⟩ := (hnd k hkl).cells
      have hkz : (k : Int) < (n : Int) := by omega
      have HF : Hid (topP l = topFrom (l.drop k) k) := topFrom_drop k (by omega) HNO.out
      have HD : Hid (l.drop k = l[k] :: l.drop (k + 1)) := List.drop_eq_getElem_cons hkl
      have HMO : Hid (l[k].k ≠ 1 → ∀ j (hj : j < l.length), j < k + 1 → l[j].k ≠ 1) := fun h j hj hjk => by
        rcases Nat.lt_or_eq_of_le (Nat.le_of_lt_succ hjk) with h1 | h1
        · exact HNO.out j hj h1
        · subst h1; exact h
      generalize l[k] = x at *
      clear hnd
      by_cases hx : x.k = 1
      · have t1 : (x.k == 1) = true := by simpa using hx
        have hRk : R = k := by rw [← HR.out, HF.out, HD.out, topFrom, if_pos hx]
        have HRK := Lib.hid hRk
        clear hx hRk
        go_wp2
        go_ret
        exact ⟨by rw [HRK.out]; rfl, hb.alloc hb.size _⟩
      · have t1 : (x.k == 1) = false := by simpa using hx
        have HMX := Lib.hid (HMO.out hx)
        clear hx
        go_wp2
        go_roundw
        case rel => exact ⟨k + 1, hkl, by go_num, HMX.out, hb.alloc hb.size _⟩
        case measure => simp [intOf]; omega
    · have hkz : ¬ (k : Int) < (n : Int) := by omega
      have hR0 : R = 0 := by
        rw [← HR.out, topFrom_drop k (by rw [HN.out]; exact hk) HNO.out, List.drop_of_length_le (by rw [HN.out]; omega)]; rfl
      subst hR0
      go_wp2
      go_ret
      exact ⟨rfl, hb⟩
theorem top_nil (w : World) : Calls Tryd.prog 15 #[.pointer none] w fun e w' => e = .returned (.int .i64 0) ∧ Below w.heap.size w w' :=
  top_of _ _ [] w (list_nil w) ⟨none, 0, rfl, Nat.le_refl _, by omega, fun h => absurd rfl h⟩ (by simp)
theorem top_doc {B d : Nat} {l : List Nd} (w : World) (h : DocAt w B d l) (hn : l.length ≤ 100000) (hs : ∀ x ∈ l, Sm x) : Calls Tryd.prog 15 #[.pointer (some ⟨d, 0, none⟩)] w fun e w' => e = .returned (.int .i64 (topP l : Nat)) ∧ Below w.heap.size w w' := by
  obtain ⟨v, hc, hv, _⟩ := h.list hn hs
  exact top_of _ v l w (list_doc d v w hc) hv hn
/-- The first node behind all below a node. -/
def endFrom (n : Nat) : List Nd → Nat → Nat
  | [], k => k
  | x :: r, k => if (n : Int) ≤ x.n then endFrom n r (k + 1) else k
def endP (l : List Nd) (n : Nat) : Nat := endFrom n (l.drop (n + 1)) (n + 1)
/-- What holds at each round's head. -/
def EdRel (w : World) (l : List Nd) (n : Nat) (i : Value) (wr : World) : Prop := ∃ k : Nat, n < k ∧ k ≤ l.length ∧ i = .int .i64 k ∧ endP l n = endFrom n (l.drop k) k ∧ wr = w
set_option maxHeartbeats 8000000 in
theorem end_doc {B d : Nat} {l : List Nd} (n : Nat) (w : World) (h : DocAt w B d l) (hn : l.length ≤ 100000) (hs : ∀ x ∈ l, Sm x) (hnl : n < l.length) : Calls Tryd.prog 25 #[.pointer (some ⟨d, 0, none⟩), .int .i64 (n : Int)] w fun e w' => e = .returned (.int .i64 (endP l n : Nat)) ∧ w' = w := by
  have HH := Lib.hid (has_doc (n : Int) w h hn hs)
  rw [decide_eq_true (by omega)] at HH
  obtain ⟨v, hc, hv, _⟩ := h.list hn hs
  obtain ⟨b, o, cap, rfl, hc1, hc2, hbB, hnd⟩ := hv.open (by intro h; rw [h] at hnl; simp at hnl)
  have HND := Lib.hid hnd
  obtain ⟨R, hR⟩ : ∃ R, endP l n = R := ⟨_, rfl⟩
  rw [hR]
  have HR := Lib.hid hR
  obtain ⟨m, hmE⟩ : ∃ m, l.length = m := ⟨_, rfl⟩
  have HM := Lib.hid hmE
  rw [hmE] at hn hc1 hnl hc
  clear hnd hv h hR hmE
  go_enter Tryd.func25, Tryd.ntmps25
  go_wp2_with fail
  refine HH.out.mono ?_
  rintro e w1 ⟨rfl, hw⟩
  rw [hw]
  clear hw
  go_wp2
  go_loopw [5] (EdRel w l n) (fun i _ => m - (intOf i).toNat)
  case atStart => exact ⟨n + 1, by omega, by rw [HM.out]; omega, by go_num, rfl, rfl⟩
  case round =>
    obtain ⟨k, hk1, hk, rfl, hE, rfl⟩ := hrel
    rw [HM.out] at hk
    have HE := Lib.hid hE
    clear hE
    by_cases hlt : k < m
    · have hkl : k < l.length := by rw [HM.out]; exact hlt
      obtain ⟨vd, va, d0, d1, _⟩ := (HND.out k hkl).cells
      have hkz : (k : Int) < (m : Int) := by omega
      have HD : Hid (l.drop k = l[k] :: l.drop (k + 1)) := List.drop_eq_getElem_cons hkl
      generalize l[k] = x at *
      clear d0
      by_cases hx : (n : Int) ≤ x.n
      · have HNX : Hid (EdRel wr l n (.int .i64 ((k + 1 : Nat) : Int)) wr) := ⟨k + 1, by omega, hkl, rfl, by rw [HE.out, HD.out, endFrom, if_pos hx], rfl⟩
        go_wp2
        go_roundw
        case rel => exact (show Value.int .i64 ((k + 1 : Nat) : Int) = _ by go_num) ▸ HNX.out
        case measure => simp [intOf]; omega
      · have hRk : R = k := by rw [← HR.out, HE.out, HD.out, endFrom, if_neg hx]
        have HRK := Lib.hid hRk
        have hx1 := decide_eq_false hx
        clear hRk
        go_wp2
        go_ret
        exact ⟨by rw [HRK.out]; rfl, rfl⟩
    · have hkz : ¬ (k : Int) < (m : Int) := by omega
      have hkz1 := decide_eq_false hkz
      have hRk : R = k := by rw [← HR.out, HE.out, List.drop_of_length_le (by rw [HM.out]; omega)]; rfl
      have HRK := Lib.hid hRk
      clear hRk
      go_wp2
      go_ret
      exact ⟨by rw [HRK.out]; rfl, rfl⟩
end Go.Proofs.YtchnmkagemmjoaaDoor
namespace Go.Proofs.YtchnmkagemmjoaaDoor
open Go.RowKit
set_option linter.unusedVariables false
set_option maxRecDepth 100000
def ndA : Nd := ⟨0, -1, ⟨#[]⟩, ⟨#[]⟩, ⟨#[]⟩, ⟨#[]⟩, [], []⟩
def ndB : Nd := ⟨1, 0, ⟨#[]⟩, ⟨#[97]⟩, ⟨#[]⟩, ⟨#[]⟩, [], []⟩
theorem sm_A : Sm ndA := ⟨by show 0 ≤ 2000000; omega, by show 0 ≤ 2000000; omega, by show 0 ≤ 2000000; omega, by show 0 ≤ 2000000; omega, by show 0 ≤ 2000000; omega, by show 0 ≤ 2000000; omega, (fun d h => by cases h), (fun d h => by cases h)⟩
theorem sm_B : Sm ndB := ⟨by show 0 ≤ 2000000; omega, by show 1 ≤ 2000000; omega, by show 0 ≤ 2000000; omega, by show 0 ≤ 2000000; omega, by show 0 ≤ 2000000; omega, by show 0 ≤ 2000000; omega, (fun d h => by cases h), (fun d h => by cases h)⟩
theorem sm_AB : ∀ x ∈ [ndA, ndB], Sm x := fun x h => by
  rcases List.mem_cons.1 h with rfl | h
  · exact sm_A
  · rcases List.mem_cons.1 h with rfl | h
    · exact sm_B
    · cases h
theorem nm_a : nmS ⟨#[97]⟩ = true := nmB_yes ⟨[97], by simp, by decide, by decide⟩
theorem chn_0 : chn [ndA, ndB] 0 = [0] := chn_stop (by decide)
theorem chn_1 : chn [ndA, ndB] 1 = [1, 0] := by rw [chn_step (by decide)]; rw [show (pa [ndA, ndB] 1).toNat = 0 from by decide, chn_0]
theorem hang_1 : hangB [ndA, ndB] 1 = true := by
  unfold hangB
  rw [show pa [ndA, ndB] 1 = 0 from by decide]
  simp [chn_0, show kd [ndA, ndB] 0 = 0 from by decide]
theorem placed_AB : placedB [ndA, ndB] = true := by
  rw [placed_end]
  · simp [tops, show pa [ndA, ndB] 1 = 0 from by decide, show kd [ndA, ndB] 1 = 1 from by decide]
  · intro j h1 h2
    have : j = 1 := by simp at h2; omega
    subst this
    unfold okP
    rw [hang_1]
    simp [besideB, show kd [ndA, ndB] 1 = 1 from by decide]
theorem elem_B : elemF ndB = true := by
  have h1 : nmS ndB.l = true := nm_a
  unfold elemF
  rw [h1]
  simp [ndB, prefB, eqL, dkeys, akeys, dupB]
theorem stk_1 : stk [ndA, ndB] 1 = [] := by
  unfold stk
  rw [chn_1]
  rfl
theorem within_AB : withinB [ndA, ndB] = true := by
  unfold withinB
  refine decide_eq_true ⟨by simp, fun i hi => ?_⟩
  have : i = 0 ∨ i = 1 := by simp at hi; omega
  rcases this with rfl | rfl
  · exact ⟨by unfold dp; rw [chn_0]; simp, by simp [mks, ndA]⟩
  · exact ⟨by unfold dp; rw [chn_1]; simp, by simp [mks, ndB]⟩
theorem names_AB : namesB [ndA, ndB] = true := by
  unfold namesB
  refine decide_eq_true (fun i hi => ?_)
  have : i = 0 ∨ i = 1 := by simp at hi; omega
  rcases this with rfl | rfl
  · rfl
  · rw [elmN_at hi, stk_1]
    show (!(ndB.k == 1) || elemM [] ndB) = true
    simp [elemM, meanB, findS, ndB, eqL, xmlP]
theorem formed_AB : formedP [ndA, ndB] = true := by
  rw [show formedP [ndA, ndB] = (rootB ndA && (placedB [ndA, ndB] && ([ndB].all nodeB && namesB [ndA, ndB]))) from rfl, placed_AB, names_AB]
  have h1 : rootB ndA = true := by simp [rootB, ndA, bareB, eqL]
  have h2 : nodeB ndB = true := by
    unfold nodeB
    rw [show (ndB.k == 1) = true from rfl, elem_B]
    rfl
  rw [h1]
  simp [h2]
theorem top_AB : topP [ndA, ndB] = 1 := by decide
theorem end_AB : endP [ndA, ndB] 0 = 2 := by decide
set_option maxHeartbeats 8000000 in
theorem awake_any (w : World) (hW : Wd w) : Calls Tryd.prog 9 #[] w fun e w' => e = .returned (.bool true) ∧ Below w.heap.size w w' := by
  obtain ⟨C, hC⟩ : ∃ C : Array Value, #[.int .i64 0, .int .i64 (-1), .string ⟨#[]⟩, .string ⟨#[]⟩, .string ⟨#[]⟩, .string ⟨#[]⟩, .slice none 0 0, .slice none 0 0, .int .i64 1, .int .i64 0, .string ⟨#[]⟩, .string ⟨#[97]⟩, .string ⟨#[]⟩, .string ⟨#[]⟩, .slice none 0 0, .slice none 0 0] = C := ⟨_, rfl⟩
  have HOF : Hid (Calls Tryd.prog 11 #[.slice (some ⟨w.heap.size, 0, none⟩) 2 2] (w.alloc (.cells C 38)) fun e w' => (∃ d, e = .returned (.tuple #[.pointer (some ⟨d, 0, none⟩), .int .i64 0]) ∧ DocAt w' (w.alloc (.cells C 38)).heap.size d [ndA, ndB]) ∧ Below (w.alloc (.cells C 38)).heap.size (w.alloc (.cells C 38)) w') := by
    have hh := heap_alloc_last w (.cells C 38)
    have hv : NsAt (w.alloc (.cells C 38)) (w.alloc (.cells C 38)).heap.size (.slice (some ⟨w.heap.size, 0, none⟩) 2 2) [ndA, ndB] := by
      refine ⟨some ⟨w.heap.size, 0, none⟩, 2, rfl, Nat.le_refl _, by omega, fun _ => ⟨w.heap.size, 0, rfl, block_lt hh, fun i hi => ?_⟩⟩
      have he : DsAt (w.alloc (.cells C 38)) (w.alloc (.cells C 38)).heap.size (.slice none 0 0) [] := ⟨none, 0, rfl, Nat.le_refl _, by omega, fun h => absurd rfl h⟩
      have hf : AsAt (w.alloc (.cells C 38)) (w.alloc (.cells C 38)).heap.size (.slice none 0 0) [] := ⟨none, 0, rfl, Nat.le_refl _, by omega, fun h => absurd rfl h⟩
      have : i = 0 ∨ i = 1 := by simp at hi; omega
      rcases this with rfl | rfl
      · refine ⟨.slice none 0 0, .slice none 0 0, fun j hj => ?_, he, hf⟩
        rw [cell_of_row _ w.heap.size _ _ _ _ hh, ← hC]
        match j, hj with
        | 0, _ => rfl
        | 1, _ => rfl
        | 2, _ => rfl
        | 3, _ => rfl
        | 4, _ => rfl
        | 5, _ => rfl
        | 6, _ => rfl
        | 7, _ => rfl
      · refine ⟨.slice none 0 0, .slice none 0 0, fun j hj => ?_, he, hf⟩
        rw [cell_of_row _ w.heap.size _ _ _ _ hh, ← hC]
        match j, hj with
        | 0, _ => rfl
        | 1, _ => rfl
        | 2, _ => rfl
        | 3, _ => rfl
        | 4, _ => rfl
        | 5, _ => rfl
        | 6, _ => rfl
        | 7, _ => rfl
    refine (of_any [ndA, ndB] _ _ hv (by simp) sm_AB (hW.later ((Below.refl _ _).alloc (Nat.le_refl _) _))).mono ?_
    rintro e w' ⟨h, hb⟩
    refine ⟨?_, hb⟩
    rcases h with ⟨h, _⟩ | ⟨_, h, _⟩ | ⟨_, _, h⟩
    · rw [formed_AB] at h; cases h
    · rw [within_AB] at h; cases h
    · exact h
  rw [← hC] at HOF
  clear hC hW
  go_enter Tryd.func9, Tryd.ntmps9
  go_wp2_with fail
  refine HOF.out.mono ?_
  rintro e w1 ⟨⟨d, rfl, hd⟩, hb1⟩
  have hbw := below_box hb1
  have HL := Lib.hid (len_doc w1 hd (by simp) sm_AB)
  have HT := Lib.hid (top_doc w1 hd (by simp) sm_AB)
  have HD := Lib.hid hd
  rw [top_AB] at HT
  clear hd hb1 HOF
  go_wp2_with fail
  refine HL.out.mono ?_
  rintro e w2 ⟨rfl, hw⟩
  rw [hw]
  clear hw
  go_wp2_with fail
  refine HT.out.mono ?_
  rintro e w3 ⟨rfl, hb3⟩
  have HE : Hid (Calls Tryd.prog 25 #[.pointer (some ⟨d, 0, none⟩), .int .i64 0] w3 fun e w' => e = .returned (.int .i64 2) ∧ w' = w3) := by
    have h := end_doc 0 w3 (HD.out.later hb3) (by simp) sm_AB (by simp)
    rw [end_AB] at h
    exact h
  go_wp2_with fail
  refine HE.out.mono ?_
  rintro e w4 ⟨rfl, hw⟩
  rw [hw]
  clear hw
  go_wp2
  go_ret
  exact ⟨rfl, hbw.trans (hb3.mono hbw.size)⟩
end Go.Proofs.YtchnmkagemmjoaaDoor
namespace Go.Proofs.YtchnmkagemmjoaaDoor
open Go.RowKit
set_option linter.unusedVariables false
set_option maxRecDepth 100000
set_option maxHeartbeats 8000000 in
theorem one_zero (w : World) : Calls Tryd.prog 18 #[zeroN, zeroN] w fun e w' => e = .returned (.bool true) ∧ Below w.heap.size w w' := by
  unfold zeroN
  go_enter Tryd.func18, Tryd.ntmps18
  go_wp2
  refine wp_loop_rounds 1 ?_
  rw [rounds_succ]
  go_wp2
  refine wp_loop_rounds 1 ?_
  rw [rounds_succ]
  go_wp2
  go_ret
  exact ⟨rfl, ((Below.refl _ _).alloc (Nat.le_refl _) _).alloc (by simp) _⟩
set_option maxHeartbeats 8000000 in
theorem nil_law (z : Int) (w : World) (hW : Wd w) : Calls Tryd.prog 6 #[.int .i64 z] w fun e w' => e = .returned (.bool true) ∧ Below w.heap.size w w' := by
  have HA := Lib.hid (awake_any w hW)
  have HH : ∀ w, Hid (Calls Tryd.prog 36 #[.pointer none, .int .i64 z] w fun e w' => e = .returned (.bool false) ∧ w' = w) := fun w => has_nil z w
  have HN := Lib.hid (fun w => node_none (.pointer none) z w HH)
  have HE := Lib.hid (fun w => end_none (.pointer none) z w (HH w))
  have HK := Lib.hid (fun w => kids_none (.pointer none) z w (HH w))
  have HU := Lib.hid (fun w => up_none (.pointer none) z w (HH w))
  have HL := Lib.hid (fun w => len_nil w)
  have HT := Lib.hid (fun w => top_nil w)
  have HO := Lib.hid (fun w => one_zero w)
  have HNS := Lib.hid (fun w => nodes_nil w)
  have hzn : (Value.agg #[.int .i64 0, .int .i64 0, .string ⟨#[]⟩, .string ⟨#[]⟩, .string ⟨#[]⟩, .string ⟨#[]⟩, .slice none 0 0, .slice none 0 0]) = zeroN := rfl
  unfold zeroN at HN HO
  clear hW HH
  go_enter Tryd.func6, Tryd.ntmps6
  go_wp2_with fail
  refine HA.out.mono ?_
  rintro e w1 ⟨rfl, hb1⟩
  clear hzn
  go_wp2_with fail
  refine (HL.out w1).mono ?_
  rintro e w2 ⟨rfl, hw⟩
  rw [hw]
  clear hw
  go_wp2_with fail
  refine (HT.out w1).mono ?_
  rintro e w3 ⟨rfl, hb3⟩
  have hbw := hb1.trans (hb3.mono hb1.size)
  go_wp2_with fail
  refine (HN.out w3).mono ?_
  rintro e w4 ⟨rfl, hb4⟩
  have hbw4 := hbw.trans (hb4.mono hbw.size)
  go_wp2_with fail
  refine (HO.out w4).mono ?_
  rintro e w5 ⟨rfl, hb5⟩
  have hbw5 := hbw4.trans (hb5.mono hbw4.size)
  clear hb1 hb3 hb4 hb5 hbw hbw4
  go_wp2_with fail
  refine (HK.out w5).mono ?_
  rintro e w6 ⟨rfl, hw⟩
  rw [hw]
  clear hw
  go_wp2_with fail
  refine (HU.out w5).mono ?_
  rintro e w6 ⟨rfl, hw⟩
  rw [hw]
  clear hw
  go_wp2_with fail
  refine (HE.out w5).mono ?_
  rintro e w6 ⟨rfl, hw⟩
  rw [hw]
  clear hw
  go_wp2_with fail
  refine (HNS.out w5).mono ?_
  rintro e w6 ⟨A, c, rfl, hb6⟩
  go_wp2
  go_ret
  exact ⟨rfl, hbw5.trans (hb6.mono hbw5.size)⟩
end Go.Proofs.YtchnmkagemmjoaaDoor
