/-
  The laws' own look whether the program does anything. Conditions: the tables lie as they are laid, internal/bytealg.MaxLen holds some number.
  apostilleref07.Few: has a list few nodes, with few things. Conditions: the list lies as it is.
  apostilleref07.Check: the document's own. Conditions: the list lies as it is; there are not too many nodes, the texts are not too long.
  What the document asks of a list's prefixes and elements is what the program asks: no walk. Conditions: the nodes hang where they may; no list declares twice.
  What the document asks of a list is what the program asks: no walk. Conditions: the texts are not too long.
  A list is formed for the document just if it is for the program: no walk. Conditions: the texts are not too long.
  DocForms walked. Conditions: the list lies as it is, its texts are not too long; the tables lie as they are laid, internal/bytealg.MaxLen holds some number.
-/
import Derived.Test.YtalcmhngebobnaaDoorREndP
import Derived.Test.YtalcmhngebobnaaDoorDMem
import Derived.Test.YtalcmhngebobnaaDoorDForm2
import Derived.Test.YtalcmhngebobnaaDoorRFormed
import Derived.BigQuiet
namespace Go.Proofs.YtalcmhngebobnaaDoor
open Go.RowKit
set_option linter.unusedVariables false
set_option maxRecDepth 100000
def ndA : Nd := ⟨0, -1, ⟨#[]⟩, ⟨#[]⟩, ⟨#[]⟩, ⟨#[]⟩, [], []⟩
def ndB : Nd := ⟨1, 0, ⟨#[]⟩, ⟨#[97]⟩, ⟨#[]⟩, ⟨#[]⟩, [], []⟩
theorem sm_A : Sm ndA := ⟨by show 0 ≤ 2000000; omega, by show 0 ≤ 2000000; omega, by show 0 ≤ 2000000; omega, by show 0 ≤ 2000000; omega, by show 0 ≤ 2000000; omega, by show 0 ≤ 2000000; omega, (fun d h => by cases h), (fun d h => by cases h)⟩
theorem sm_B : Sm ndB := ⟨by show 0 ≤ 2000000; omega, by show 1 ≤ 2000000; omega, by show 0 ≤ 2000000; omega, by show 0 ≤ 2000000; omega, by show 0 ≤ 2000000; omega, by show 0 ≤ 2000000; omega, (fun d h => by cases h), (fun d h => by cases h)⟩
theorem sm_AB : ∀ x ∈ [ndA, ndB], Sm x := fun x h => by
  rcases List.mem_cons.1 h with rfl | h
  · exact sm_A
  · rcases List.mem_cons.1 h with rfl | h
    · exact sm_B
    · cases h
theorem nm_a : nmS ⟨#[97]⟩ = true := nmB_yes ⟨[97], by simp, by decide, by decide⟩
theorem chn_0 : chn [ndA, ndB] 0 = [0] := chn_stop (by decide)
theorem chn_1 : chn [ndA, ndB] 1 = [1, 0] := by rw [chn_step (by decide)]; rw [show (pa [ndA, ndB] 1).toNat = 0 from by decide, chn_0]
theorem hang_1 : hangB [ndA, ndB] 1 = true := by
  unfold hangB
  rw [show pa [ndA, ndB] 1 = 0 from by decide]
  simp [chn_0, show kd [ndA, ndB] 0 = 0 from by decide]
theorem placed_AB : placedB [ndA, ndB] = true := by
  rw [placed_end]
  · simp [tops, show pa [ndA, ndB] 1 = 0 from by decide, show kd [ndA, ndB] 1 = 1 from by decide]
  · intro j h1 h2
    have : j = 1 := by simp at h2; omega
    subst this
    unfold okP
    rw [hang_1]
    simp [besideB, show kd [ndA, ndB] 1 = 1 from by decide]
theorem elem_B : elemF ndB = true := by
  have h1 : nmS ndB.l = true := nm_a
  unfold elemF
  rw [h1]
  simp [ndB, prefB, eqL, dkeys, akeys, dupB]
theorem stk_1 : stk [ndA, ndB] 1 = [] := by
  unfold stk
  rw [chn_1]
  rfl
theorem within_AB : withinB [ndA, ndB] = true := by
  unfold withinB
  refine decide_eq_true ⟨by simp, fun i hi => ?_⟩
  have : i = 0 ∨ i = 1 := by simp at hi; omega
  rcases this with rfl | rfl
  · exact ⟨by unfold dp; rw [chn_0]; simp, by simp [mks, ndA]⟩
  · exact ⟨by unfold dp; rw [chn_1]; simp, by simp [mks, ndB]⟩
theorem names_AB : namesB [ndA, ndB] = true := by
  unfold namesB
  refine decide_eq_true (fun i hi => ?_)
  have : i = 0 ∨ i = 1 := by simp at hi; omega
  rcases this with rfl | rfl
  · rfl
  · rw [elmN_at hi, stk_1]
    show (!(ndB.k == 1) || elemM [] ndB) = true
    simp [elemM, meanB, findS, ndB, eqL, xmlP]
theorem formed_AB : formedP [ndA, ndB] = true := by
  rw [show formedP [ndA, ndB] = (rootB ndA && (placedB [ndA, ndB] && ([ndB].all nodeB && namesB [ndA, ndB]))) from rfl, placed_AB, names_AB]
  have h1 : rootB ndA = true := by simp [rootB, ndA, bareB, eqL]
  have h2 : nodeB ndB = true := by
    unfold nodeB
    rw [show (ndB.k == 1) = true from rfl, elem_B]
    rfl
  rw [h1]
  simp [h2]
theorem top_AB : topP [ndA, ndB] = 1 := by decide
theorem end_AB : endP [ndA, ndB] 0 = 2 := by decide
set_option maxHeartbeats 8000000 in
theorem awake_any (w : World) (hW : Wd w) : Calls Tryd.prog 4 #[] w fun e w' => e = .returned (.bool true) ∧ Below w.heap.size w w' := by
  obtain ⟨C, hC⟩ : ∃ C : Array Value, #[.int .i64 0, .int .i64 (-1), .string ⟨#[]⟩, .string ⟨#[]⟩, .string ⟨#[]⟩, .string ⟨#[]⟩, .slice none 0 0, .slice none 0 0, .int .i64 1, .int .i64 0, .string ⟨#[]⟩, .string ⟨#[97]⟩, .string ⟨#[]⟩, .string ⟨#[]⟩, .slice none 0 0, .slice none 0 0] = C := ⟨_, rfl⟩
  have HOF : Hid (Calls Tryd.prog 6 #[.slice (some ⟨w.heap.size, 0, none⟩) 2 2] (w.alloc (.cells C 28)) fun e w' => (∃ d, e = .returned (.tuple #[.pointer (some ⟨d, 0, none⟩), .int .i64 0]) ∧ DocAt w' (w.alloc (.cells C 28)).heap.size d [ndA, ndB]) ∧ Below (w.alloc (.cells C 28)).heap.size (w.alloc (.cells C 28)) w') := by
    have hh := heap_alloc_last w (.cells C 28)
    have hv : NsAt (w.alloc (.cells C 28)) (w.alloc (.cells C 28)).heap.size (.slice (some ⟨w.heap.size, 0, none⟩) 2 2) [ndA, ndB] := by
      refine ⟨some ⟨w.heap.size, 0, none⟩, 2, rfl, Nat.le_refl _, by omega, fun _ => ⟨w.heap.size, 0, rfl, block_lt hh, fun i hi => ?_⟩⟩
      have he : DsAt (w.alloc (.cells C 28)) (w.alloc (.cells C 28)).heap.size (.slice none 0 0) [] := ⟨none, 0, rfl, Nat.le_refl _, by omega, fun h => absurd rfl h⟩
      have hf : AsAt (w.alloc (.cells C 28)) (w.alloc (.cells C 28)).heap.size (.slice none 0 0) [] := ⟨none, 0, rfl, Nat.le_refl _, by omega, fun h => absurd rfl h⟩
      have : i = 0 ∨ i = 1 := by simp at hi; omega
      rcases this with rfl | rfl
      · refine ⟨.slice none 0 0, .slice none 0 0, fun j hj => ?_, he, hf⟩
        rw [cell_of_row _ w.heap.size _ _ _ _ hh, ← hC]
        match j, hj with
        | 0, _ => rfl
        | 1, _ => rfl
        | 2, _ => rfl
        | 3, _ => rfl
        | 4, _ => rfl
        | 5, _ => rfl
        | 6, _ => rfl
        | 7, _ => rfl
      · refine ⟨.slice none 0 0, .slice none 0 0, fun j hj => ?_, he, hf⟩
        rw [cell_of_row _ w.heap.size _ _ _ _ hh, ← hC]
        match j, hj with
        | 0, _ => rfl
        | 1, _ => rfl
        | 2, _ => rfl
        | 3, _ => rfl
        | 4, _ => rfl
        | 5, _ => rfl
        | 6, _ => rfl
        | 7, _ => rfl
    refine (of_any [ndA, ndB] _ _ hv (by simp) sm_AB (hW.later ((Below.refl _ _).alloc (Nat.le_refl _) _))).mono ?_
    rintro e w' ⟨h, hb⟩
    refine ⟨?_, hb⟩
    rcases h with ⟨h, _⟩ | ⟨_, h, _⟩ | ⟨_, _, h⟩
    · rw [formed_AB] at h; cases h
    · rw [within_AB] at h; cases h
    · exact h
  rw [← hC] at HOF
  clear hC hW
  go_enter Tryd.func4, Tryd.ntmps4
  go_wp2_with fail
  refine HOF.out.mono ?_
  rintro e w1 ⟨⟨d, rfl, hd⟩, hb1⟩
  have hbw := below_box hb1
  have HL := Lib.hid (len_doc w1 hd (by simp) sm_AB)
  have HT := Lib.hid (top_doc w1 hd (by simp) sm_AB)
  have HD := Lib.hid hd
  rw [top_AB] at HT
  clear hd hb1 HOF
  go_wp2_with fail
  refine HL.out.mono ?_
  rintro e w2 ⟨rfl, hw⟩
  rw [hw]
  clear hw
  go_wp2_with fail
  refine HT.out.mono ?_
  rintro e w3 ⟨rfl, hb3⟩
  have HE : Hid (Calls Tryd.prog 12 #[.pointer (some ⟨d, 0, none⟩), .int .i64 0] w3 fun e w' => e = .returned (.int .i64 2) ∧ w' = w3) := by
    have h := end_doc 0 w3 (HD.out.later hb3) (by simp) sm_AB (by simp)
    rw [end_AB] at h
    exact h
  go_wp2_with fail
  refine HE.out.mono ?_
  rintro e w4 ⟨rfl, hw⟩
  rw [hw]
  clear hw
  go_wp2
  go_ret
  exact ⟨rfl, hbw.trans (hb3.mono hbw.size)⟩
end Go.Proofs.YtalcmhngebobnaaDoor
namespace Go.Proofs.YtalcmhngebobnaaDoor
open Go.RowKit
set_option linter.unusedVariables false
set_option maxRecDepth 100000
def fewN (x : Nd) : Bool := decide (x.ds.length ≤ 70) && decide (x.ats.length ≤ 70) && decide (x.t.size ≤ 2000)
def fewB (l : List Nd) (m : Nat) : Bool := decide (l.length ≤ m) && l.all fewN
/-- What holds at each round's head. -/
def FwRel (w : World) (l : List Nd) (i : Value) (wr : World) : Prop := ∃ k : Nat, k ≤ l.length ∧ i = .int .i64 k ∧ (∀ j (hj : j < l.length), j < k → fewN l[j] = true) ∧ wr = w
set_option maxHeartbeats 8000000 in
theorem few_any (l : List Nd) (m : Nat) (v : Value) (w : World) (hm : m ≤ 1000) (hv : NsAt w w.heap.size v l) : Calls Tryd.prog 5 #[v, .int .i64 (m : Int)] w fun e w' => e = .returned (.bool (fewB l m)) ∧ w' = w := by
  have HV := Lib.hid hv
  obtain ⟨A, cap, rfl, hc1, hc2⟩ := hv.slice
  obtain ⟨R, hR⟩ : ∃ R, fewB l m = R := ⟨_, rfl⟩
  rw [hR]
  have HR := Lib.hid hR
  obtain ⟨n, hnE⟩ : ∃ n, l.length = n := ⟨_, rfl⟩
  have HN := Lib.hid hnE
  rw [hnE] at hc1 ⊢
  clear hR hnE
  by_cases hmn : (n : Int) > (m : Int)
  · have hR0 : R = false := by rw [← HR.out, fewB, HN.out, decide_eq_false (by omega)]; rfl
    subst hR0
    go_enter Tryd.func5, Tryd.ntmps5
    go_wp2
    go_ret
    exact ⟨rfl, rfl⟩
  · have hmn1 := decide_eq_false hmn
    have hn : n ≤ 1000 := by omega
    have HALL : Hid (R = l.all fewN) := by show R = _; rw [← HR.out, fewB, HN.out, decide_eq_true (by omega), Bool.true_and]
    go_enter Tryd.func5, Tryd.ntmps5
    go_wp2
    go_loopw [12] (FwRel w l) (fun i _ => n - (intOf i).toNat)
    case atStart => exact ⟨0, Nat.zero_le _, rfl, fun j _ h => by omega, rfl⟩
    case round =>
      obtain ⟨k, hk, rfl, hno, rfl⟩ := hrel
      rw [HN.out] at hk
      have HNO := Lib.hid hno
      clear hno
      by_cases hlt : k < n
      · have hkl : k < l.length := by rw [HN.out]; exact hlt
        obtain ⟨b, o, cap', e, _, _, hbB, hnd⟩ := HV.out.open (by intro h; rw [h] at hkl; simp at hkl)
        simp only [Value.slice.injEq] at e
        obtain ⟨rfl, _, rfl⟩ := e
        obtain ⟨vd, va, d0, d1, d2, d3, d4, d5, d6, d7, ⟨A1, q1, rfl, _, _, _⟩, ⟨A2, q2, rfl, _, _, _⟩⟩ := (hnd k hkl).cells
        have hkz : (k : Int) < (n : Int) := by omega
        have HMO : Hid (fewN l[k] = true → ∀ j (hj : j < l.length), j < k + 1 → fewN l[j] = true) := fun h j hj hjk => by
          rcases Nat.lt_or_eq_of_le (Nat.le_of_lt_succ hjk) with h1 | h1
          · exact HNO.out j hj h1
          · subst h1; exact h
        have HBAD : Hid (fewN l[k] = false → R = false) := fun h => by
          rw [HALL.out, List.all_eq_false]
          exact ⟨l[k], List.getElem_mem hkl, by simp [h]⟩
        generalize l[k] = x at *
        obtain ⟨t, ht⟩ : ∃ t, x.t = t := ⟨_, rfl⟩
        obtain ⟨a1, ha1⟩ : ∃ a, x.ds.length = a := ⟨_, rfl⟩
        obtain ⟨a2, ha2⟩ : ∃ a, x.ats.length = a := ⟨_, rfl⟩
        have HX : Hid (fewN x = (decide (a1 ≤ 70) && decide (a2 ≤ 70) && decide (t.size ≤ 2000))) := by show fewN x = _; rw [fewN, ht, ha1, ha2]
        rw [ht] at d5
        rw [ha1] at d6
        rw [ha2] at d7
        clear hnd d0 d1 d2 d3 d4 ht ha1 ha2
        by_cases h1 : (a1 : Int) > 70
        · have hR0 : R = false := HBAD.out (by rw [HX.out, decide_eq_false (show ¬ a1 ≤ 70 by omega)]; rfl)
          subst hR0
          go_wp2
          go_ret
          exact ⟨rfl, rfl⟩
        · have h1d := decide_eq_false h1
          by_cases h2 : (a2 : Int) > 70
          · have hR0 : R = false := HBAD.out (by rw [HX.out, decide_eq_false (show ¬ a2 ≤ 70 by omega)]; simp)
            subst hR0
            go_wp2
            go_ret
            exact ⟨rfl, rfl⟩
          · have h2d := decide_eq_false h2
            by_cases h3 : (t.size : Int) > 2000
            · have hR0 : R = false := HBAD.out (by rw [HX.out, decide_eq_false (show ¬ t.size ≤ 2000 by omega)]; simp)
              subst hR0
              go_wp2
              go_ret
              exact ⟨rfl, rfl⟩
            · have h3d := decide_eq_false h3
              have HMX := Lib.hid (HMO.out (by rw [HX.out, decide_eq_true (show a1 ≤ 70 by omega), decide_eq_true (show a2 ≤ 70 by omega), decide_eq_true (show t.size ≤ 2000 by omega)]; rfl))
              go_wp2
              go_roundw
              case rel => exact ⟨k + 1, hkl, by go_num, HMX.out, rfl⟩
              case measure => simp [intOf]; omega
      · have hkz : ¬ (k : Int) < (n : Int) := by omega
        have hR1 : R = true := by
          rw [HALL.out, List.all_eq_true]
          intro x hx
          obtain ⟨j, hj, rfl⟩ := List.getElem_of_mem hx
          exact HNO.out j hj (by rw [HN.out] at hj; omega)
        subst hR1
        go_wp2
        go_ret
        exact ⟨rfl, rfl⟩
end Go.Proofs.YtalcmhngebobnaaDoor
namespace Go.Proofs.YtalcmhngebobnaaDoor
open Go.RowKit
set_option linter.unusedVariables false
set_option maxRecDepth 100000
/-- What is wrong with a list. -/
noncomputable def checkR (l : List Nd) : Int := bif formedR l then (bif withinB l then 0 else 3) else 2
theorem within_no {l : List Nd} {j : Nat} (hj : j < l.length) (h : ¬ (dp l j ≤ 64 ∧ mks l j ≤ 64)) : withinB l = false := by
  unfold withinB
  rw [decide_eq_false_iff_not]
  exact fun hh => h (hh.2 j hj)
theorem within_long {l : List Nd} (h : ¬ l.length ≤ 4000) : withinB l = false := by
  unfold withinB
  rw [decide_eq_false_iff_not]
  exact fun hh => h hh.1
theorem within_yes {l : List Nd} (h1 : l.length ≤ 4000) (h2 : ∀ i, i < l.length → dp l i ≤ 64 ∧ mks l i ≤ 64) : withinB l = true := by
  unfold withinB
  rw [decide_eq_true_eq]
  exact ⟨h1, h2⟩
/-- What holds at each round's head. -/
def CkRel (w : World) (l : List Nd) (i : Value) (wr : World) : Prop := ∃ k : Nat, k ≤ l.length ∧ i = .int .i64 k ∧ (∀ j, j < k → dp l j ≤ 64 ∧ mks l j ≤ 64) ∧ Below w.heap.size w wr
end Go.Proofs.YtalcmhngebobnaaDoor
namespace Go.Proofs.YtalcmhngebobnaaDoor
set_option linter.unusedVariables false
/-- No prefix twice. -/
def DsU (ds : List Dc) : Prop := ds.Pairwise fun a b => a.p.data.toList ≠ b.p.data.toList
theorem find_rev : ∀ {ds : List Dc} (s : List UInt8), DsU ds → findS ds.reverse s = fndD ds s
  | [], s, _ => rfl
  | d :: r, s, h => by
    have hr : DsU r := (List.pairwise_cons.1 h).2
    have hd := (List.pairwise_cons.1 h).1
    have ih := find_rev s hr
    unfold findS fndD at ih ⊢
    rw [List.reverse_cons, List.find?_append]
    by_cases hp : d.p.data.toList = s
    · have hn : r.find? (fun d => decide (d.p.data.toList = s)) = none := by
        rw [List.find?_eq_none]
        intro x hx
        simp only [decide_eq_true_eq]
        exact fun e => hd x hx (hp.trans e.symm)
      have hn' : r.reverse.find? (fun d => decide (d.p.data.toList = s)) = none := by
        rw [List.find?_eq_none] at hn ⊢
        exact fun x hx => hn x (List.mem_reverse.1 hx)
      rw [hn']
      simp [hp]
    · have h1 : [d].find? (fun d => decide (d.p.data.toList = s)) = none := by simp [hp]
      have h2 : (d :: r).find? (fun d => decide (d.p.data.toList = s)) = r.find? (fun d => decide (d.p.data.toList = s)) := by simp [hp]
      rw [h1, h2, Option.or_none]
      exact ih
theorem find_app (A B : List Dc) (s : List UInt8) : findS (A ++ B) s = (findS A s).or (findS B s) := by
  unfold findS
  rw [List.find?_append]
  cases A.find? (fun d => decide (d.p.data.toList = s)) <;> simp
/-- Each node up to n declares what may be, nothing twice; the first one nothing. -/
structure AllD (l : List Nd) (n : Nat) : Prop where
  zero : dsR l 0 = []
  ok : ∀ m, m ≤ n → ∀ d ∈ dsR l m, declB d = true
  one : ∀ m, m ≤ n → DsU (dsR l m)
theorem AllD.mono {l : List Nd} {n m : Nat} (h : AllD l n) (hm : m ≤ n) : AllD l m := ⟨h.zero, fun k hk => h.ok k (by omega), fun k hk => h.one k (by omega)⟩
theorem find_eq {l : List Nd} (hh : Hung l l.length) (h0 : pa l 0 = -1) (s : List UInt8) : ∀ n, n < l.length → AllD l n → findS (stk l n) s = fndC l n s := by
  intro n
  induction n using Nat.strongRecOn with
  | ind n ih =>
    intro hn hA
    rcases Nat.eq_zero_or_pos n with rfl | h1
    · rw [stk_stop (by rw [h0]; omega), show dsA l 0 = dsR l 0 from rfl, hA.zero, fndC_zero]; rfl
    · obtain ⟨hp0, hpl⟩ := hh.toNat h1 hn
      obtain ⟨p, hp⟩ : ∃ p : Nat, pa l n = (p : Int) := ⟨(pa l n).toNat, by omega⟩
      rw [hp, Int.toNat_natCast] at hpl
      rw [stk_step (by rw [hp]; omega), hp, Int.toNat_natCast, find_app, show dsA l n = dsR l n from rfl, find_rev s (hA.one n (Nat.le_refl _)), ih p hpl (by omega) (hA.mono (by omega)), fndC_step s h1 hp hpl]
/-- xmlns is declared nowhere. -/
theorem fnd_xmlns {l : List Nd} (hh : Hung l l.length) : ∀ n, n < l.length → AllD l n → fndC l n xmlnsP = none := by
  intro n
  induction n using Nat.strongRecOn with
  | ind n ih =>
    intro hn hA
    rcases Nat.eq_zero_or_pos n with rfl | h1
    · rw [fndC_zero]
    · obtain ⟨hp0, hpl⟩ := hh.toNat h1 hn
      obtain ⟨p, hp⟩ : ∃ p : Nat, pa l n = (p : Int) := ⟨(pa l n).toNat, by omega⟩
      rw [hp, Int.toNat_natCast] at hpl
      rw [fndC_step _ h1 hp hpl, ih p hpl (by omega) (hA.mono (by omega))]
      have : fndD (dsR l n) xmlnsP = none := fndD_none (fun j hj e => by
        have hd := hA.ok n (Nat.le_refl _) _ (List.getElem_mem hj)
        unfold declB at hd
        simp only [Bool.and_eq_true, Bool.not_eq_true'] at hd
        have := eqL_iff.2 e
        rw [hd.2.1] at this
        cases this)
      rw [this]; rfl
theorem list_of (L : List UInt8) : (⟨L.toArray⟩ : ByteArray).toList = L := by rw [Lib.toList_data]
theorem mean_eq {l : List Nd} (hh : Hung l l.length) (h0 : pa l 0 = -1) {n : Nat} (hn : n < l.length) (hA : AllD l n) (p u : ByteArray) : meanB (stk l n) p u = ((meansP l n p).2 && ((meansP l n p).1.toList == u.toList)) := by
  unfold meanB meansP
  cases hx : eqL p xmlP with
  | true =>
    simp only [cond_true, Bool.true_and]
    rw [list_of, Bool.eq_iff_iff]
    unfold eqL
    rw [beq_iff_eq, beq_iff_eq]
    exact eq_comm
  | false =>
    simp only [cond_false]
    rw [find_eq hh h0 _ n hn hA]
    cases fndC l n p.data.toList with
    | some z =>
      simp only [Bool.true_and]
      rw [Bool.eq_iff_iff, beq_iff_eq, beq_iff_eq]
      exact eq_comm
    | none =>
      show (eqL p [] && eqL u []) = (eqL p [] && _)
      congr 1
      unfold eqL
      rw [Bool.eq_iff_iff, beq_iff_eq, beq_iff_eq, show (⟨#[]⟩ : ByteArray).toList = [] from by rw [Lib.toList_data]]
      exact eq_comm
/-- A prefix that means something is not xmlns. -/
theorem mean_xmlns {l : List Nd} (hh : Hung l l.length) {n : Nat} (hn : n < l.length) (hA : AllD l n) {p : ByteArray} (h : (meansP l n p).2 = true) : eqL p xmlnsP = false := by
  cases he : eqL p xmlnsP with
  | false => rfl
  | true =>
    exfalso
    have e := eqL_iff.1 he
    unfold meansP at h
    have h1 : eqL p xmlP = false := by
      cases h2 : eqL p xmlP with
      | false => rfl
      | true => have := (eqL_iff.1 h2).symm.trans e; simp [xmlP, xmlnsP] at this
    rw [h1, cond_false, e, fnd_xmlns hh n hn hA] at h
    have h3 := eqL_iff.1 h
    rw [e] at h3
    simp [xmlnsP] at h3
theorem dup_ds (ds : List Dc) : (!dupB (dkeys ds)) = true ↔ DsU ds := by
  unfold dupB dkeys DsU
  simp only [Bool.not_not, decide_eq_true_eq]
  unfold List.Nodup
  rw [List.pairwise_map, List.pairwise_iff_getElem, List.pairwise_iff_getElem]
  constructor <;> intro h i j hi hj hij e <;> refine h i j hi hj hij ?_
  · rw [e]
  · simpa using e
theorem dup_ats {ats : List At} (hs : ∀ a ∈ ats, a.l.size ≤ 2000000 ∧ a.u.size ≤ 2000000) : (!dupB (akeys ats)) = true ↔ ats.Pairwise fun a b => ¬ (a.l.data.toList = b.l.data.toList ∧ a.u.data.toList = b.u.data.toList) := by
  unfold dupB akeys
  simp only [Bool.not_not, decide_eq_true_eq]
  unfold List.Nodup
  rw [List.pairwise_map, List.pairwise_iff_getElem, List.pairwise_iff_getElem]
  constructor <;> intro h i j hi hj hij e <;> refine h i j hi hj hij ?_
  · have e1 : ats[i].l = ats[j].l := ba_ext e.1
    have e2 : ats[i].u = ats[j].u := ba_ext e.2
    rw [e1, e2]
  · have si := hs _ (List.getElem_mem hi)
    have sj := hs _ (List.getElem_mem hj)
    obtain ⟨e1, e2⟩ := keyNL_inj si.1 si.2 sj.1 sj.2 e
    exact ⟨by rw [e1], by rw [e2]⟩
end Go.Proofs.YtalcmhngebobnaaDoor
namespace Go.Proofs.YtalcmhngebobnaaDoor
set_option linter.unusedVariables false
theorem attr_eq {l : List Nd} (hh : Hung l l.length) (h0 : pa l 0 = -1) {n : Nat} (hn : n < l.length) (hA : AllD l n) (a : At) : attrR l n a = true ↔ attrB a = true ∧ attrM (stk l n) a = true := by
  unfold attrR attrB attrM prefB
  rw [mean_eq hh h0 hn hA]
  cases hp : eqL a.p [] with
  | true =>
    have hx : eqL a.p xmlnsP = false := by
      cases h : eqL a.p xmlnsP with
      | false => rfl
      | true => have := (eqL_iff.1 hp).symm.trans (eqL_iff.1 h); simp [xmlnsP] at this
    have hu : ((⟨#[]⟩ : ByteArray).toList == a.u.toList) = eqL a.u [] := by
      unfold eqL
      rw [Bool.eq_iff_iff, beq_iff_eq, beq_iff_eq, show (⟨#[]⟩ : ByteArray).toList = [] from by rw [Lib.toList_data]]
      exact eq_comm
    simp only [hx, cond_true, hu]
    cases eqL a.u [] <;> cases nmS a.l <;> cases eqL a.l xmlnsP <;> cases tx a.v <;> simp
  | false =>
    have hx := fun h => mean_xmlns (p := a.p) hh hn hA h
    simp only [cond_false]
    cases hm : (meansP l n a.p).2 with
    | false => simp
    | true =>
      rw [hx hm]
      cases ((meansP l n a.p).1.toList == a.u.toList) <;> cases nmS a.p <;> cases nmS a.l <;> cases tx a.v <;> simp
theorem name_eq {l : List Nd} (hh : Hung l l.length) (h0 : pa l 0 = -1) {n : Nat} (hn : n < l.length) (hA : AllD l n) (x : Nd) : nameR l n x = true ↔ meanB (stk l n) x.p x.u = true ∧ nmS x.l = true ∧ prefB x.p = true ∧ eqL x.t [] = true := by
  unfold nameR prefB
  rw [mean_eq hh h0 hn hA]
  have hx := fun h => mean_xmlns (p := x.p) hh hn hA h
  cases hm : (meansP l n x.p).2 with
  | false => simp
  | true =>
    rw [hx hm]
    cases ((meansP l n x.p).1.toList == x.u.toList) <;> cases nmS x.l <;> cases (eqL x.p [] || nmS x.p) <;> cases eqL x.t [] <;> simp
theorem elem_eq {l : List Nd} (hh : Hung l l.length) (h0 : pa l 0 = -1) {n : Nat} (hn : n < l.length) (hA : AllD l n) (hs : Sm l[n]) : elemR l n l[n] = true ↔ elemF l[n] = true ∧ elemM (stk l n) l[n] = true := by
  have hds : ∀ d ∈ l[n].ds, declB d = true := by have := hA.ok n (Nat.le_refl _); rw [dsR_at hn] at this; exact this
  have hdu : DsU l[n].ds := by have := hA.one n (Nat.le_refl _); rw [dsR_at hn] at this; exact this
  have hsa : ∀ a ∈ l[n].ats, a.l.size ≤ 2000000 ∧ a.u.size ≤ 2000000 := fun a ha => ⟨(hs.ats a ha).2.1, (hs.ats a ha).2.2.1⟩
  generalize l[n] = x at *
  have hF : elemF x = true ↔ (nmS x.l = true ∧ prefB x.p = true ∧ eqL x.t [] = true) ∧ (∀ a ∈ x.ats, attrB a = true) ∧ x.ats.Pairwise fun a b => ¬ (a.l.data.toList = b.l.data.toList ∧ a.u.data.toList = b.u.data.toList) := by
    unfold elemF
    have h1 : x.ds.all declB = true := List.all_eq_true.2 hds
    have h2 : (!dupB (dkeys x.ds)) = true := (dup_ds x.ds).2 hdu
    rw [h1, h2]
    simp only [Bool.and_eq_true, Bool.true_and, List.all_eq_true]
    constructor
    · rintro ⟨a1, a2, a3, a4, a5⟩; exact ⟨⟨a1, a2, a3⟩, a4, (dup_ats hsa).1 a5⟩
    · rintro ⟨⟨a1, a2, a3⟩, a4, a5⟩; exact ⟨a1, a2, a3, a4, (dup_ats hsa).2 a5⟩
  have hM : elemM (stk l n) x = true ↔ meanB (stk l n) x.p x.u = true ∧ ∀ a ∈ x.ats, attrM (stk l n) a = true := by
    unfold elemM
    simp only [Bool.and_eq_true, List.all_eq_true]
  rw [hF, hM]
  constructor
  · intro h
    have hok : ElemOK l n x := Classical.byContradiction fun hc => by rw [elemR_no hc] at h; cases h
    obtain ⟨n1, n2, n3, n4⟩ := (name_eq hh h0 hn hA x).1 hok.nm
    have hat : ∀ a ∈ x.ats, attrB a = true ∧ attrM (stk l n) a = true := fun a ha => by
      obtain ⟨k, hk, rfl⟩ := List.getElem_of_mem ha
      exact (attr_eq hh h0 hn hA _).1 (hok.ats k hk).1
    refine ⟨⟨⟨n2, n3, n4⟩, fun a ha => (hat a ha).1, ?_⟩, n1, fun a ha => (hat a ha).2⟩
    rw [List.pairwise_iff_getElem]
    exact fun i j hi hj hij => (hok.ats j hj).2 i hi hij
  · rintro ⟨⟨⟨n2, n3, n4⟩, ha, hp⟩, n1, hm⟩
    refine elemR_yes ⟨fun k hk => ⟨hds _ (List.getElem_mem hk), fun i hi hik => ?_⟩, (name_eq hh h0 hn hA x).2 ⟨n1, n2, n3, n4⟩, fun k hk => ⟨(attr_eq hh h0 hn hA _).2 ⟨ha _ (List.getElem_mem hk), hm _ (List.getElem_mem hk)⟩, fun i hi hik => ?_⟩⟩
    · unfold DsU at hdu
      rw [List.pairwise_iff_getElem] at hdu
      exact hdu i k hi hk hik
    · rw [List.pairwise_iff_getElem] at hp
      exact hp i k hi hk hik
theorem ahead_spec (l : List Nd) (n : Nat) : ∀ k m : Nat, aheadP l n k = (m : Int) → 0 < m ∧ m < k ∧ pa l m = pa l n ∧ ∀ j, m < j → j < k → pa l j ≠ pa l n
  | 0, m, h => by rw [aheadP] at h; omega
  | k + 1, m, h => by
    rw [aheadP] at h
    split at h
    · rename_i hc
      obtain rfl : k = m := by omega
      exact ⟨hc.1, by omega, hc.2, fun j h1 h2 => by omega⟩
    · rename_i hc
      obtain ⟨h1, h2, h3, h4⟩ := ahead_spec l n k m h
      refine ⟨h1, by omega, h3, fun j h5 h6 => ?_⟩
      by_cases he : j = k
      · subst he; exact fun e => hc ⟨by omega, e⟩
      · exact h4 j h5 (by omega)
/-- A Text's sibling ahead that is a Text stands right ahead of it. -/
theorem beside_eq {l : List Nd} (hh : Hung l l.length) (hg : ∀ i, 1 ≤ i → i < l.length → hangB l i = true) (hk0 : kd l 0 = 0) {n : Nat} (h1 : 1 ≤ n) (hn : n < l.length) (hk : kd l n = 2) :
    (decide (aheadP l n n < 0) || !(kd l (aheadP l n n).toNat == 2)) = !besideB l n := by
  cases hb : besideB l n with
  | true =>
    unfold besideB at hb
    simp only [Bool.and_eq_true, beq_iff_eq] at hb
    obtain ⟨_, b2, b3⟩ := hb
    have hn0 : 0 < n - 1 := by
      rcases Nat.eq_zero_or_pos (n - 1) with h | h
      · rw [h, hk0] at b2; cases b2
      · exact h
    have ha : aheadP l n n = ((n - 1 : Nat) : Int) := by
      obtain ⟨k, hke⟩ : ∃ k, n = k + 1 := ⟨n - 1, by omega⟩
      have hk1 : n - 1 = k := by omega
      rw [hk1] at b3 hn0 ⊢
      conv => lhs; arg 3; rw [hke]
      rw [aheadP, if_pos ⟨hn0, b3.symm⟩]
    rw [ha, Int.toNat_natCast, b2, decide_eq_false (by omega)]
    rfl
  | false =>
    rcases ahead_cases l n n with ha | ⟨a, ha, _⟩
    · rw [ha]; rfl
    · rw [ha, Int.toNat_natCast, decide_eq_false (by omega), Bool.false_or, Bool.not_false, Bool.not_eq_true']
      rw [beq_eq_false_iff_ne]
      intro hka
      obtain ⟨s1, s2, s3, s4⟩ := ahead_spec l n n a ha
      have hne : a ≠ n - 1 := fun e => by
        subst e
        unfold besideB at hb
        rw [hk, hka, s3] at hb
        simp at hb
      have hal : a < l.length := by omega
      have hcl : a + 1 < l.length := by omega
      obtain ⟨pn0, pnl⟩ := hh n h1 hn
      obtain ⟨p, hp⟩ : ∃ p : Nat, pa l n = (p : Int) := ⟨(pa l n).toNat, by omega⟩
      have hpa : pa l a = (p : Int) := s3.trans hp
      have hpl : p < a := by have := hh a s1 hal; omega
      have hgc := hg (a + 1) (by omega) hcl
      have hmc := hang_mem hgc
      rw [Nat.add_sub_cancel] at hmc
      obtain ⟨c0, cl⟩ := hh (a + 1) (by omega) hcl
      obtain ⟨c, hc⟩ : ∃ c : Nat, pa l (a + 1) = (c : Int) := ⟨(pa l (a + 1)).toNat, by omega⟩
      rw [hc, Int.toNat_natCast] at hmc
      have hca : c ≠ a := fun e => by
        unfold hangB at hgc
        rw [hc, Int.toNat_natCast, e, hka] at hgc
        simp at hgc
      have hmp := (chn_up hpa hpl hca).1 hmc
      have hcp := chn_le hmp
      have hcne : c ≠ p := fun e => s4 (a + 1) (by omega) (by omega) (by rw [hc, hp, e])
      obtain ⟨e1, e2, e3, e4⟩ := end_spec (show p < l.length by omega)
      have hend : endP l p ≤ a + 1 := by
        rcases Nat.lt_or_ge (a + 1) (endP l p) with h | h
        · have := e3 (a + 1) (by omega) h; omega
        · exact h
      have hmn := hang_mem (hg n h1 hn)
      rw [hp, Int.toNat_natCast] at hmn
      exact chn_out hh hg (by omega) (n - 1) (by omega) (by omega) hmn
end Go.Proofs.YtalcmhngebobnaaDoor
namespace Go.Proofs.YtalcmhngebobnaaDoor
set_option linter.unusedVariables false
theorem suf_eq (S : ByteArray) : Lib.hasSuffix S.data.toList [45] = (!eqL S [] && lastD S) := by
  unfold eqL lastD Lib.hasSuffix
  rw [Lib.toList_data]
  generalize S.data.toList = s
  rcases List.eq_nil_or_concat s with rfl | ⟨t, c, rfl⟩
  · simp
  · rw [Bool.eq_iff_iff, List.isSuffixOf_iff_suffix]
    simp only [List.concat_eq_append, List.getLast?_append, List.getLast?_singleton, Option.some_or, Bool.and_eq_true, Bool.not_eq_true', beq_eq_false_iff_ne, beq_iff_eq]
    constructor
    · rintro ⟨u, hu⟩
      have h := congrArg List.getLast? hu
      simp at h
      rw [← h]
      exact ⟨by simp, rfl⟩
    · rintro ⟨_, h⟩
      have : c = 45 := UInt8.toNat_inj.1 (by have : c.toNat = 45 := by omega
                                             rw [this]; rfl)
      subst this
      exact ⟨t, rfl⟩
theorem fold_one (c a : UInt8) (x y : Int) (h : (a.toNat = 120 ∧ x = 120 ∧ y = 88) ∨ (a.toNat = 109 ∧ x = 109 ∧ y = 77) ∨ (a.toNat = 108 ∧ x = 108 ∧ y = 76)) : Lib.foldEq c a = xmlC c x y := by
  unfold Lib.foldEq xmlC
  rw [Bool.eq_iff_iff, decide_eq_true_eq, Bool.or_eq_true, beq_iff_eq, beq_iff_eq]
  rcases h with ⟨h1, h2, h3⟩ | ⟨h1, h2, h3⟩ | ⟨h1, h2, h3⟩ <;> rw [h1, h2, h3] <;> omega
theorem xmlish_eq (S : ByteArray) : Lib.equalFold S.data.toList [120, 109, 108] = xmlish S := by
  unfold xmlish
  generalize S.data.toList = s
  match s with
  | [] => rfl
  | [a] => simp [Lib.equalFold]
  | [a, b] => simp [Lib.equalFold]
  | [a, b, c] =>
    simp only [Lib.equalFold]
    rw [fold_one a 120 120 88 (.inl ⟨rfl, rfl, rfl⟩), fold_one b 109 109 77 (.inr (.inl ⟨rfl, rfl, rfl⟩)), fold_one c 108 108 76 (.inr (.inr ⟨rfl, rfl, rfl⟩)), Bool.and_true]
  | a :: b :: c :: d :: r => simp [Lib.equalFold]
theorem bare_ds {x : Nd} (h : bareB x = true) : x.ds = [] := by
  unfold bareB at h
  simp only [Bool.and_eq_true, decide_eq_true_eq] at h
  exact List.eq_nil_of_length_eq_zero h.2.2.1
/-- A node that is no element: both ask the same. -/
theorem other_eq {l : List Nd} (hh : Hung l l.length) (hg : ∀ i, 1 ≤ i → i < l.length → hangB l i = true) (hk0 : kd l 0 = 0) {n : Nat} (h1 : 1 ≤ n) (hn : n < l.length) (hk : kd l n ≠ 1) :
    otherR l n l[n] = true ↔ nodeB l[n] = true ∧ besideB l n = false ∧ (pa l n = 0 → kd l n = 3 ∨ kd l n = 4) := by
  have hkd := kd_at hn
  have hpn := pa_at hn
  by_cases h2 : kd l n = 2
  · have hb := beside_eq hh hg hk0 h1 hn h2
    unfold otherR nodeB
    rw [hb, ← hkd, ← hpn, h2]
    have e1 : ((2 : Int) == 2) = true := rfl
    have e2 : ((2 : Int) == 1) = false := rfl
    rw [e1, e2, cond_true, cond_false]
    have hp : (pa l n = 0 → (2 : Int) = 3 ∨ (2 : Int) = 4) ↔ (pa l n == 0) = false := by
      rw [beq_eq_false_iff_ne]
      constructor
      · intro h e; rcases h e with h | h <;> cases h
      · intro h e; exact absurd e h
    rw [hp]
    cases bareB l[n] <;> cases tx l[n].t <;> cases eqL l[n].l [] <;> cases eqL l[n].t [] <;> cases (pa l n == 0) <;> cases besideB l n <;> simp
  · have hb : besideB l n = false := by
      unfold besideB
      rw [beq_eq_false_iff_ne.2 h2]; rfl
    rw [hb]
    by_cases h3 : kd l n = 3
    · unfold otherR nodeB comB
      rw [← hkd, h3]
      have e1 : ((3 : Int) == 2) = false := rfl
      have e2 : ((3 : Int) == 1) = false := rfl
      have e3 : ((3 : Int) == 3) = true := rfl
      rw [e1, e2, e3, suf_eq]
      simp only [cond_true, cond_false]
      cases bareB l[n] <;> cases tx l[n].t <;> cases eqL l[n].l [] <;> cases eqL l[n].t [] <;> cases insB l[n].t.data.toList [45, 45] <;> cases lastD l[n].t <;> simp
    · by_cases h4 : kd l n = 4
      · unfold otherR nodeB tarB pinB
        rw [← hkd, h4]
        have e1 : ((4 : Int) == 2) = false := rfl
        have e2 : ((4 : Int) == 1) = false := rfl
        have e3 : ((4 : Int) == 3) = false := rfl
        have e4 : ((4 : Int) == 4) = true := rfl
        rw [e1, e2, e3, e4, xmlish_eq]
        simp only [cond_true, cond_false]
        cases bareB l[n] <;> cases tx l[n].t <;> cases nmS l[n].l <;> cases xmlish l[n].l <;> cases eqL l[n].t [] <;> cases insB l[n].t.data.toList [63, 62] <;> cases fb l[n].t <;> simp
      · unfold otherR nodeB
        rw [← hkd, beq_eq_false_iff_ne.2 h2, beq_eq_false_iff_ne.2 h3, beq_eq_false_iff_ne.2 h4, beq_eq_false_iff_ne.2 hk]
        simp
theorem formed_ok {l : List Nd} : formedR l = true ↔ FormedOK l := by
  constructor
  · intro h
    exact Classical.byContradiction fun hc => by rw [formedR_no hc] at h; cases h
  · exact formedR_yes
open Classical in
/-- What formedP asks, said of places. -/
theorem formedP_iff {l : List Nd} : formedP l = true ↔ (∃ h : 0 < l.length, rootB l[0] = true) ∧ (∀ i, 1 ≤ i → i < l.length → okP l i = true) ∧ tops l l.length = 1 ∧ (∀ i (h : i < l.length), 1 ≤ i → nodeB l[i] = true) ∧ ∀ j, j < l.length → elmN l j = true := by
  match l with
  | [] => simp [formedP]
  | x :: r =>
    rw [show formedP (x :: r) = (rootB x && (placedB (x :: r) && (r.all nodeB && namesB (x :: r)))) from rfl]
    have hp : placedB (x :: r) = true ↔ (∀ i, 1 ≤ i → i < (x :: r).length → okP (x :: r) i = true) ∧ tops (x :: r) (x :: r).length = 1 := by unfold placedB; rw [decide_eq_true_eq]
    have hm : namesB (x :: r) = true ↔ ∀ j, j < (x :: r).length → elmN (x :: r) j = true := by unfold namesB; rw [decide_eq_true_eq]
    have ha : r.all nodeB = true ↔ ∀ i (h : i < (x :: r).length), 1 ≤ i → nodeB (x :: r)[i] = true := by
      rw [List.all_eq_true]
      constructor
      · intro h i hi h1
        obtain ⟨k, rfl⟩ : ∃ k, i = k + 1 := ⟨i - 1, by omega⟩
        rw [List.getElem_cons_succ]
        exact h _ (List.getElem_mem _)
      · intro h y hy
        obtain ⟨k, hk, rfl⟩ := List.getElem_of_mem hy
        have := h (k + 1) (by simpa using hk) (by omega)
        rwa [List.getElem_cons_succ] at this
    simp only [Bool.and_eq_true]
    rw [hp, hm, ha]
    constructor
    · rintro ⟨a1, ⟨a2, a3⟩, a4, a5⟩; exact ⟨⟨by simp, a1⟩, a2, a3, a4, a5⟩
    · rintro ⟨⟨_, a1⟩, a2, a3, a4, a5⟩; exact ⟨a1, ⟨a2, a3⟩, a4, a5⟩
theorem root_zero {l : List Nd} (h : ∃ h : 0 < l.length, rootB l[0] = true) : pa l 0 = -1 ∧ kd l 0 = 0 ∧ dsR l 0 = [] := by
  obtain ⟨h0, h⟩ := h
  unfold rootB at h
  simp only [Bool.and_eq_true, beq_iff_eq] at h
  rw [pa_at h0, kd_at h0, dsR_at h0]
  exact ⟨h.2.1, h.1, bare_ds h.2.2.2.2⟩
theorem DsU_nil : DsU [] := List.Pairwise.nil
theorem forms_eq {l : List Nd} (hs : ∀ x ∈ l, Sm x) : formedR l = formedP l := by
  rw [Bool.eq_iff_iff, formed_ok, formedP_iff]
  constructor
  · intro h
    obtain ⟨h0, hk0, hd0⟩ := root_zero h.root
    have hg : ∀ i, 1 ≤ i → i < l.length → hangB l i = true := fun i h1 h2 => (h.nodes i h1 h2).1
    have hh : Hung l l.length := hung_upto (Nat.le_refl _) h.nodes
    have hA : ∀ n, n < l.length → AllD l n := fun n hn => by
      have hm : ∀ m, m ≤ n → (∀ d ∈ dsR l m, declB d = true) ∧ DsU (dsR l m) := fun m hmn => by
        rcases Nat.eq_zero_or_pos m with rfl | h1
        · rw [hd0]; exact ⟨fun d hd => (by cases hd), DsU_nil⟩
        · have hml : m < l.length := by omega
          rw [dsR_at hml]
          obtain ⟨_, n1, n2⟩ := h.nodes m h1 hml
          by_cases hk : kd l m = 1
          · have he := n1 hk
            rw [elN_at hml] at he
            have hok : ElemOK l m l[m] := Classical.byContradiction fun hc => by rw [elemR_no hc] at he; cases he
            refine ⟨fun d hd => ?_, ?_⟩
            · obtain ⟨k, hk, rfl⟩ := List.getElem_of_mem hd
              exact (hok.ds k hk).1
            · unfold DsU
              rw [List.pairwise_iff_getElem]
              exact fun i j hi hj hij => (hok.ds j hj).2 i hi hij
          · have ho := n2 hk
            rw [otN_at hml] at ho
            have hb : bareB l[m] = true := by
              unfold otherR at ho
              rw [Bool.and_eq_true] at ho
              exact ho.1
            rw [bare_ds hb]
            exact ⟨fun d hd => (by cases hd), DsU_nil⟩
      exact ⟨hd0, fun m hmn => (hm m hmn).1, fun m hmn => (hm m hmn).2⟩
    have hel : ∀ n (hn : n < l.length), 1 ≤ n → kd l n = 1 → elemF l[n] = true ∧ elemM (stk l n) l[n] = true := fun n hn h1 hk => by
      have he := (h.nodes n h1 hn).2.1 hk
      rw [elN_at hn] at he
      exact (elem_eq hh h0 hn (hA n hn) (hs _ (List.getElem_mem hn))).1 he
    have hot : ∀ n (hn : n < l.length), 1 ≤ n → kd l n ≠ 1 → nodeB l[n] = true ∧ besideB l n = false ∧ (pa l n = 0 → kd l n = 3 ∨ kd l n = 4) := fun n hn h1 hk => by
      have he := (h.nodes n h1 hn).2.2 hk
      rw [otN_at hn] at he
      exact (other_eq hh hg hk0 h1 hn hk).1 he
    refine ⟨h.root, fun i h1 h2 => ?_, h.top, fun i h2 h1 => ?_, fun j hj => ?_⟩
    · unfold okP
      rw [hg i h1 h2]
      by_cases hk : kd l i = 1
      · have hb : besideB l i = false := by
          unfold besideB
          rw [hk]; rfl
        rw [hb, hk]; simp
      · obtain ⟨_, b2, b3⟩ := hot i h2 h1 hk
        rw [b2]
        by_cases hp : pa l i = 0
        · rcases b3 hp with e | e <;> rw [e] <;> simp
        · rw [beq_eq_false_iff_ne.2 hp]; simp
    · by_cases hk : kd l i = 1
      · have := (hel i h2 h1 hk).1
        unfold nodeB
        rw [← kd_at h2, hk, this]; rfl
      · exact (hot i h2 h1 hk).1
    · rw [elmN_at hj, ← kd_at hj]
      rcases Nat.eq_zero_or_pos j with rfl | h1
      · rw [hk0]; rfl
      · by_cases hk : kd l j = 1
        · rw [(hel j hj h1 hk).2]; simp
        · rw [beq_eq_false_iff_ne.2 hk]; rfl
  · rintro ⟨hroot, hok, htop, hnode, helm⟩
    obtain ⟨h0, hk0, hd0⟩ := root_zero hroot
    have hg : ∀ i, 1 ≤ i → i < l.length → hangB l i = true := fun i h1 h2 => by
      have := hok i h1 h2
      unfold okP at this
      rw [Bool.and_eq_true] at this
      exact this.1
    have hh : Hung l l.length := hung_of hok
    have hA : ∀ n, n < l.length → AllD l n := fun n hn => by
      have hm : ∀ m, m ≤ n → (∀ d ∈ dsR l m, declB d = true) ∧ DsU (dsR l m) := fun m hmn => by
        rcases Nat.eq_zero_or_pos m with rfl | h1
        · rw [hd0]; exact ⟨fun d hd => (by cases hd), DsU_nil⟩
        · have hml : m < l.length := by omega
          rw [dsR_at hml]
          have hn := hnode m hml h1
          by_cases hk : l[m].k = 1
          · unfold nodeB at hn
            rw [hk] at hn
            have he : elemF l[m] = true := hn
            unfold elemF at he
            simp only [Bool.and_eq_true, List.all_eq_true] at he
            exact ⟨he.2.2.2.1, (dup_ds _).1 he.2.2.2.2.2.1⟩
          · have hb : bareB l[m] = true := by
              unfold nodeB at hn
              rw [beq_eq_false_iff_ne.2 hk, cond_false] at hn
              cases hbb : bareB l[m] with
              | true => rfl
              | false =>
                rw [hbb] at hn
                simp only [Bool.false_and] at hn
                cases (l[m].k == 2) <;> cases (l[m].k == 3) <;> cases (l[m].k == 4) <;> simp at hn
            rw [bare_ds hb]
            exact ⟨fun d hd => (by cases hd), DsU_nil⟩
      exact ⟨hd0, fun m hmn => (hm m hmn).1, fun m hmn => (hm m hmn).2⟩
    refine ⟨hroot, fun n h1 hn => ⟨hg n h1 hn, fun hk => ?_, fun hk => ?_⟩, htop⟩
    · rw [elN_at hn]
      have hne := hnode n hn h1
      have hme := helm n hn
      rw [elmN_at hn, ← kd_at hn, hk] at hme
      unfold nodeB at hne
      rw [← kd_at hn, hk] at hne
      exact (elem_eq hh h0 hn (hA n hn) (hs _ (List.getElem_mem hn))).2 ⟨hne, by simpa using hme⟩
    · rw [otN_at hn]
      have ho := hok n h1 hn
      unfold okP at ho
      rw [hg n h1 hn, Bool.true_and, Bool.and_eq_true, Bool.not_eq_true'] at ho
      refine (other_eq hh hg hk0 h1 hn hk).2 ⟨hnode n hn h1, ho.1, fun hp => ?_⟩
      have h2 := ho.2
      rw [hp, beq_eq_false_iff_ne.2 hk] at h2
      simpa using h2
end Go.Proofs.YtalcmhngebobnaaDoor
namespace Go.Proofs.YtalcmhngebobnaaDoor
open Go.RowKit
set_option linter.unusedVariables false
set_option maxRecDepth 100000
end Go.Proofs.YtalcmhngebobnaaDoor
