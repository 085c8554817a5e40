/-
  doc.elementFormed: whether an element is formed by itself. Conditions: the tables lie as they are laid; the texts are not too long, the lists neither.
-/
import Derived.Test.YtalcmhngebobnaaDoorDForm2
import Derived.Test.YtalcmhngebobnaaDoorDTwice
namespace Go.Proofs.YtalcmhngebobnaaDoor
open Go.RowKit
set_option linter.unusedVariables false
set_option maxRecDepth 100000
/-- Nothing of a node is too long. -/
structure Sm (x : Nd) : Prop where
  p : x.p.size ≤ 2000000
  l : x.l.size ≤ 2000000
  u : x.u.size ≤ 2000000
  t : x.t.size ≤ 2000000
  nd : x.ds.length ≤ 2000000
  na : x.ats.length ≤ 2000000
  ds : ∀ d ∈ x.ds, d.p.size ≤ 2000000 ∧ d.u.size ≤ 2000000
  ats : ∀ a ∈ x.ats, a.p.size ≤ 2000000 ∧ a.l.size ≤ 2000000 ∧ a.u.size ≤ 2000000 ∧ a.v.size ≤ 2000000
/-- Is an element formed, by itself? -/
noncomputable def elemF (x : Nd) : Bool := nmS x.l && (prefB x.p && (eqL x.t [] && (x.ds.all declB && (x.ats.all attrB && (!dupB (dkeys x.ds) && !dupB (akeys x.ats))))))
/-- What holds at each round's head. -/
def AllRel {α : Type} (p : α → Bool) (l : List α) (w : World) (i : Value) (wr : World) : Prop := ∃ k : Nat, k ≤ l.length ∧ i = .int .i64 k ∧ (l.take k).all p = true ∧ Below w.heap.size w wr
theorem all_not {α : Type} {p : α → Bool} {l : List α} {k : Nat} (h : k < l.length) (hz : p l[k] = false) : l.all p = false := by
  rw [List.all_eq_false]
  exact ⟨l[k], List.getElem_mem _, by simp [hz]⟩
theorem all_next {α : Type} {p : α → Bool} {l : List α} {k : Nat} (h : k < l.length) (ha : (l.take k).all p = true) (hz : p l[k] = true) : (l.take (k + 1)).all p = true := by
  rw [List.take_succ_eq_append_getElem h, List.all_append, ha]; simp [hz]
theorem all_whole {α : Type} {p : α → Bool} {l : List α} {k : Nat} (h : ¬ k < l.length) (ha : (l.take k).all p = true) : l.all p = true := by
  rwa [List.take_of_length_le (by omega)] at ha
set_option maxHeartbeats 8000000 in
theorem element_any (x : Nd) (v : Value) (hs : Sm x) (w : World) (hW : Wd w) (hv : NdV w w.heap.size v x) :
    Calls Tryd.prog 32 #[v] w fun e w' => e = .returned (.bool (elemF x)) ∧ Below w.heap.size w w' := by
  obtain ⟨vd, va, rfl, hd, ha⟩ := hv
  have HW := Lib.hid hW
  have HS := Lib.hid hs
  have HP : Hid (∀ w', Below w.heap.size w w' → Calls Tryd.prog 42 #[.string x.p] w' fun e w'' => e = .returned (.bool (prefB x.p)) ∧ Below w'.heap.size w' w'') := fun w' hb => prefix_any x.p hs.p w' (hW.later hb)
  have HN : Hid (∀ w', Below w.heap.size w w' → Calls Tryd.prog 41 #[.string x.l] w' fun e w'' => e = .returned (.bool (nmS x.l)) ∧ Below w'.heap.size w' w'') := fun w' hb => is_any x.l hs.l w' (hW.later hb).tabs
  have HD : Hid (DsAt w w.heap.size vd x.ds) := hd
  have HA : Hid (AsAt w w.heap.size va x.ats) := ha
  obtain ⟨A1, cap1, rfl, hl1, hm1, _⟩ := hd
  obtain ⟨A2, cap2, rfl, hl2, hm2, _⟩ := ha
  obtain ⟨R, hR⟩ : ∃ R, elemF x = R := ⟨_, rfl⟩
  rw [hR]
  have HR : Hid ((nmS x.l && (prefB x.p && (eqL x.t [] && (x.ds.all declB && (x.ats.all attrB && (!dupB (dkeys x.ds) && !dupB (akeys x.ats))))))) = R) := hR
  clear hR
  obtain ⟨b3, e3, E3⟩ := tst0 x.t
  rw [e3] at HR
  clear e3 hW hs
  have hnd := HS.out.nd
  have hna := HS.out.na
  generalize prefB x.p = B2 at *
  generalize nmS x.l = B1 at *
  obtain ⟨nd, hndE⟩ : ∃ n, x.ds.length = n := ⟨_, rfl⟩
  obtain ⟨na, hnaE⟩ : ∃ n, x.ats.length = n := ⟨_, rfl⟩
  have HND := Lib.hid hndE
  have HNA := Lib.hid hnaE
  rw [hndE] at hnd hl1
  rw [hnaE] at hna hl2
  rw [hndE, hnaE]
  clear hndE hnaE
  go_enter Tryd.func32, Tryd.ntmps32
  go_wp2_with fail
  refine (HN.out _ ((Below.refl _ _).alloc (Nat.le_refl _) _)).mono ?_
  rintro e w1 ⟨rfl, hb1⟩
  have c0 := boxed (j := 0) hb1 rfl
  have c1 := boxed (j := 1) hb1 rfl
  have c2 := boxed (j := 2) hb1 rfl
  have c3 := boxed (j := 3) hb1 rfl
  have c4 := boxed (j := 4) hb1 rfl
  have c5 := boxed (j := 5) hb1 rfl
  have c6 := boxed (j := 6) hb1 rfl
  have c7 := boxed (j := 7) hb1 rfl
  have hbw := below_box hb1
  cases B1 with
  | false =>
    have hF : false = R := by simpa using HR.out
    subst hF
    go_wp2
    go_ret
    exact ⟨rfl, hbw⟩
  | true =>
    go_wp2_with fail
    refine (calls_from hb1.size hb1 (HP.out _ hbw)).mono ?_
    rintro e w2 ⟨rfl, hb2⟩
    replace c0 := boxed (j := 0) hb2 rfl
    replace c1 := boxed (j := 1) hb2 rfl
    replace c2 := boxed (j := 2) hb2 rfl
    replace c3 := boxed (j := 3) hb2 rfl
    replace c4 := boxed (j := 4) hb2 rfl
    replace c5 := boxed (j := 5) hb2 rfl
    replace c6 := boxed (j := 6) hb2 rfl
    replace c7 := boxed (j := 7) hb2 rfl
    replace hbw := below_box hb2
    clear hb1
    cases B2 with
    | false =>
      have hF : false = R := by simpa using HR.out
      subst hF
      go_wp2
      go_ret
      exact ⟨rfl, hbw⟩
    | true =>
      obtain ⟨t3, t3'⟩ := E3.out
      cases b3 with
      | false =>
        have hF : false = R := by simpa using HR.out
        subst hF
        go_wp2
        go_ret
        exact ⟨rfl, hbw⟩
      | true =>
        have HR2 : Hid ((x.ds.all declB && (x.ats.all attrB && (!dupB (dkeys x.ds) && !dupB (akeys x.ats)))) = R) := Lib.hid (by simpa using HR.out)
        have hlt2 : w.heap.size < w2.heap.size := Nat.lt_of_lt_of_le (by simp) hb2.size
        have HC : Hid (∀ wr j v, Below w2.heap.size w2 wr → w2.cell? ⟨w.heap.size, j, none⟩ = some v → wr.cell? ⟨w.heap.size, j, none⟩ = some v) := fun wr j v hb h => (hb.cell (p := ⟨w.heap.size, j, none⟩) hlt2).trans h
        have HC6 := Lib.hid c6
        have HC7 := Lib.hid c7
        have HBW := Lib.hid hbw
        clear HR HP HN hb2 c0 c1 c2 c3 c4
        go_wp2
        clear c5 c6 c7
        go_loopw [25] (AllRel declB x.ds w2) (fun i _ => nd - (intOf i).toNat)
        case atStart => exact ⟨0, Nat.zero_le _, rfl, rfl, Below.refl _ _⟩
        case round =>
          obtain ⟨k, hk, rfl, hal, hbr⟩ := hrel
          have HAL := Lib.hid hal
          have hbwr := HBW.out.trans (hbr.mono HBW.out.size)
          rw [HND.out] at hk
          clear hal
          by_cases hlt : k < nd
          · have hltd : k < x.ds.length := by rw [HND.out]; exact hlt
            obtain ⟨b, o, cap', e, _, _, hbB, hcell⟩ := DsAt.open (SlAt.below HD.out hbwr) (by omega)
            simp only [Value.slice.injEq] at e
            obtain ⟨rfl, _, rfl⟩ := e
            obtain ⟨d0, d1⟩ := hcell k hltd
            have hsd := HS.out.ds _ (List.getElem_mem hltd)
            have HDC : Hid (∀ w', Below w.heap.size w w' → Calls Tryd.prog 43 #[.agg #[.string x.ds[k].p, .string x.ds[k].u]] w' fun e w'' => e = .returned (.bool (declB x.ds[k])) ∧ Below w'.heap.size w' w'') := fun w' hb => decl_any _ hsd.1 hsd.2 w' (HW.out.later hb)
            have hkz : (k : Int) < (nd : Int) := by omega
            have HF : Hid (declB x.ds[k] = false → R = false) := fun h => by rw [← HR2.out, all_not hltd h]; rfl
            have HT : Hid (declB x.ds[k] = true → (x.ds.take (k + 1)).all declB = true) := all_next hltd HAL.out
            generalize x.ds[k].p = P at *
            generalize x.ds[k].u = U at *
            generalize declB x.ds[k] = B at *
            clear hcell
            go_wp2_with fail
            refine (HDC.out _ (hbwr.alloc (Nat.le_trans (Nat.le_refl _) hbwr.size) _)).mono ?_
            rintro e w3 ⟨rfl, hb3⟩
            have hb3' := below_box hb3
            clear hb3
            cases B with
            | false =>
              obtain rfl := HF.out rfl
              go_wp2
              go_ret
              exact ⟨rfl, hbwr.trans (hb3'.mono hbwr.size)⟩
            | true =>
              go_wp2
              go_roundw
              case rel => exact ⟨k + 1, hltd, by go_num, HT.out (by simp), hbr.trans (hb3'.mono hbr.size)⟩
              case measure => simp [intOf]; omega
          · rename World => W1
            have hkz : ¬ (k : Int) < (nd : Int) := by omega
            have hall := all_whole (by rw [HND.out]; exact hlt) HAL.out
            have HR3 : Hid ((x.ats.all attrB && (!dupB (dkeys x.ds) && !dupB (akeys x.ats))) = R) := Lib.hid (by have h := HR2.out; rw [hall] at h; simpa using h)
            have c6 := HC.out W1 6 _ hbr HC6.out
            have c7 := HC.out W1 7 _ hbr HC7.out
            have HWR := Lib.hid hbr
            clear hall HAL HR2 hbr
            go_wp2
            clear c6 c7
            go_loopw [36] (AllRel attrB x.ats W1) (fun i _ => na - (intOf i).toNat)
            case atStart => exact ⟨0, Nat.zero_le _, rfl, rfl, Below.refl _ _⟩
            case round =>
              obtain ⟨q, hq, rfl, hal, hbq⟩ := hrel
              have HAL := Lib.hid hal
              have hbwq := hbwr.trans (hbq.mono hbwr.size)
              rw [HNA.out] at hq
              clear hal
              by_cases hltq : q < na
              · have hltd : q < x.ats.length := by rw [HNA.out]; exact hltq
                obtain ⟨b, o, cap', e, _, _, hbB, hcell⟩ := AsAt.open (SlAt.below HA.out hbwq) (by omega)
                simp only [Value.slice.injEq] at e
                obtain ⟨rfl, _, rfl⟩ := e
                obtain ⟨d0, d1, d2, d3⟩ := hcell q hltd
                have hsd := HS.out.ats _ (List.getElem_mem hltd)
                have HDC : Hid (∀ w', Below w.heap.size w w' → Calls Tryd.prog 44 #[.agg #[.string x.ats[q].p, .string x.ats[q].l, .string x.ats[q].u, .string x.ats[q].v]] w' fun e w'' => e = .returned (.bool (attrB x.ats[q])) ∧ Below w'.heap.size w' w'') := fun w' hb => attr_any _ hsd.1 hsd.2.1 hsd.2.2.2 w' (HW.out.later hb)
                have hkz : (q : Int) < (na : Int) := by omega
                have HF : Hid (attrB x.ats[q] = false → R = false) := fun h => by rw [← HR3.out, all_not hltd h]; rfl
                have HT : Hid (attrB x.ats[q] = true → (x.ats.take (q + 1)).all attrB = true) := all_next hltd HAL.out
                generalize x.ats[q].p = P at *
                generalize x.ats[q].l = L at *
                generalize x.ats[q].u = U at *
                generalize x.ats[q].v = V at *
                generalize attrB x.ats[q] = B at *
                clear hcell
                go_wp2_with fail
                refine (HDC.out _ (hbwq.alloc (Nat.le_trans (Nat.le_refl _) hbwq.size) _)).mono ?_
                rintro e w3 ⟨rfl, hb3⟩
                have hb3' := below_box hb3
                clear hb3
                cases B with
                | false =>
                  obtain rfl := HF.out rfl
                  go_wp2
                  go_ret
                  exact ⟨rfl, hbwq.trans (hb3'.mono hbwq.size)⟩
                | true =>
                  go_wp2
                  go_roundw
                  case rel => exact ⟨q + 1, hltd, by go_num, HT.out (by simp), hbq.trans (hb3'.mono hbq.size)⟩
                  case measure => simp [intOf]; omega
              · have hkz : ¬ (q : Int) < (na : Int) := by omega
                have hall := all_whole (by rw [HNA.out]; exact hltq) HAL.out
                have HR4 : Hid ((!dupB (dkeys x.ds) && !dupB (akeys x.ats)) = R) := Lib.hid (by have h := HR3.out; rw [hall] at h; simpa using h)
                have hb2q := HWR.out.trans (hbq.mono HWR.out.size)
                have c6 := HC.out wr 6 _ hb2q HC6.out
                have HT1 := Lib.hid (declTwice_any x.ds _ wr (SlAt.later HD.out hbwq) (by rw [HND.out]; exact hnd) (fun d hd => (HS.out.ds d hd).1))
                have HT2 : Hid (∀ w', Below wr.heap.size wr w' → Calls Tryd.prog 46 #[.slice A2 na cap2] w' fun e w'' => e = .returned (.bool (dupB (akeys x.ats))) ∧ Below w'.heap.size w' w'') := fun w' hb => by
                  have h := attrTwice_any x.ats _ w' (SlAt.later HA.out (hbwq.trans (hb.mono hbwq.size))) (by rw [HNA.out]; exact hna) (fun a ha => ⟨(HS.out.ats a ha).2.1, (HS.out.ats a ha).2.2.1⟩)
                  rw [HNA.out] at h
                  exact h
                rw [HND.out] at HT1
                generalize dupB (dkeys x.ds) = D1 at *
                generalize dupB (akeys x.ats) = D2 at *
                clear hall HAL HR3
                go_wp2_with fail
                refine HT1.out.mono ?_
                rintro e w4 ⟨rfl, hb4⟩
                have hb4w := hbwq.trans (hb4.mono hbwq.size)
                cases D1 with
                | true =>
                  have hF : false = R := by simpa using HR4.out
                  subst hF
                  go_wp2
                  go_ret
                  exact ⟨rfl, hb4w⟩
                | false =>
                  have hF : (!D2) = R := by simpa using HR4.out
                  subst hF
                  have c7 := HC.out w4 7 _ (hb2q.trans (hb4.mono hb2q.size)) HC7.out
                  go_wp2_with fail
                  refine (HT2.out w4 hb4).mono ?_
                  rintro e w5 ⟨rfl, hb5⟩
                  go_wp2
                  go_ret
                  exact ⟨rfl, hb4w.trans (hb5.mono hb4w.size)⟩
end Go.Proofs.YtalcmhngebobnaaDoor
