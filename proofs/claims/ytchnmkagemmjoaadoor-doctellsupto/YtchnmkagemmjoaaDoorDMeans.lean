/-
  (*scope).means and elementMeans: whether prefixes mean their URIs, by what is open. Conditions: the scope lies as it is; the texts are not too long.
-/
import Derived.Test.YtchnmkagemmjoaaDoorDEnd
import Derived.Test.YtchnmkagemmjoaaDoorDElem
namespace Go.Proofs.YtchnmkagemmjoaaDoor
open Go.RowKit Go.Maps Go.WideMaps
set_option linter.unusedVariables false
set_option maxRecDepth 100000
/-- Does a prefix mean a URI? -/
def meanB (S : List Dc) (p u : ByteArray) : Bool :=
  bif eqL p xmlP then eqL u xmlU else match findS S p.data.toList with | some z => u.toList == z.toList | none => eqL p [] && eqL u []
set_option maxHeartbeats 4000000 in
theorem means_any (B sb mb N x : Nat) (O : Obj) (S : List Dc) (p u : ByteArray) (w : World) (hsc : Sc w B sb mb N x O S) (hS : S.length ≤ 1000000000000) (hp : p.size ≤ 2000000) :
    Calls Tryd.prog 86 #[.pointer (some ⟨sb, 0, none⟩), .string p, .string u] w fun e w' => e = .returned (.bool (meanB S p u)) ∧ Below w.heap.size w w' := by
  obtain ⟨v, D, hA⟩ := hsc
  have hL := hA.lookup p hp
  have c0 := hA.c0
  have c1 := hA.c1
  unfold meanB
  obtain ⟨b1, e1, E1⟩ := tst p xmlP
  obtain ⟨b2, e2, E2⟩ := tst u xmlU
  obtain ⟨b3, e3, E3⟩ := tst0 p
  obtain ⟨b4, e4, E4⟩ := tst0 u
  rw [e1, e2, e3, e4]
  clear e1 e2 e3 e4
  unfold xmlP at E1
  unfold xmlU at E2
  have t1 := E1.out
  have t2 := E2.out
  obtain ⟨t3, t3'⟩ := E3.out
  obtain ⟨t4, t4'⟩ := E4.out
  cases b1 with
  | true =>
    go_enter Tryd.func86, Tryd.ntmps86
    go_wp2
    go_ret
    exact ⟨rfl, Below.refl _ _⟩
  | false =>
    cases hf : findS S p.data.toList with
    | none =>
      rw [find_none.1 hf] at hL
      clear hf hA
      cases b3 with
      | true =>
        go_enter Tryd.func86, Tryd.ntmps86
        go_wp2
        go_ret
        exact ⟨rfl, Below.refl _ _⟩
      | false =>
        go_enter Tryd.func86, Tryd.ntmps86
        go_wp2
        go_ret
        exact ⟨rfl, Below.refl _ _⟩
    | some z =>
      obtain ⟨k, hk, hc⟩ := find_some hf
      have hle := nrS_le S p.data.toList
      rw [hk] at hL hle
      obtain ⟨gb, capg, rfl, _, _⟩ := hA.own.form (by omega)
      have ho := own_cell hA.own hc
      have hkz : (k : Int) < (S.length : Int) := by omega
      have hkp : (0 : Int) < (k : Int) + 1 := by omega
      have hkle : k ≤ 1000000000000 := by omega
      clear hf hA hk hc hle
      generalize S.length = sl at *
      go_enter Tryd.func86, Tryd.ntmps86
      go_wp2
      go_ret
      exact ⟨rfl, Below.refl _ _⟩
/-- Does an attribute's prefix mean its URI? -/
def attrM (S : List Dc) (a : At) : Bool := bif eqL a.p [] then eqL a.u [] else meanB S a.p a.u
/-- Do an element's prefixes mean their URIs? -/
def elemM (S : List Dc) (x : Nd) : Bool := meanB S x.p x.u && x.ats.all (attrM S)
set_option maxHeartbeats 8000000 in
theorem elementMeans_any (B sb mb N y : Nat) (O : Obj) (S : List Dc) (x : Nd) (v : Value) (hs : Sm x) (w : World) (hsc : Sc w B sb mb N y O S) (hS : S.length ≤ 1000000000000) (hv : NdV w w.heap.size v x) :
    Calls Tryd.prog 64 #[.pointer (some ⟨sb, 0, none⟩), v] w fun e w' => e = .returned (.bool (elemM S x)) ∧ Below w.heap.size w w' := by
  obtain ⟨vd, va, rfl, hd, ha⟩ := hv
  have HS := Lib.hid hs
  have HM : Hid (∀ w' p u, p.size ≤ 2000000 → Below w.heap.size w w' → Calls Tryd.prog 86 #[.pointer (some ⟨sb, 0, none⟩), .string p, .string u] w' fun e w'' => e = .returned (.bool (meanB S p u)) ∧ Below w'.heap.size w' w'') := fun w' p u hp hb => means_any B sb mb N y O S p u w' (hsc.later hb) hS hp
  have HA : Hid (AsAt w w.heap.size va x.ats) := ha
  obtain ⟨A1, cap1, rfl, hl1, hm1, _⟩ := hd
  obtain ⟨A2, cap2, rfl, hl2, hm2, _⟩ := ha
  obtain ⟨R, hR⟩ : ∃ R, elemM S x = R := ⟨_, rfl⟩
  rw [hR]
  have HR : Hid ((meanB S x.p x.u && x.ats.all (attrM S)) = R) := hR
  have hna := hs.na
  have hxp := hs.p
  obtain ⟨na, hnaE⟩ : ∃ n, x.ats.length = n := ⟨_, rfl⟩
  have HNA := Lib.hid hnaE
  rw [hnaE] at hna hl2
  rw [hnaE]
  have HMX := Lib.hid (fun w' => HM.out w' x.p x.u hxp)
  generalize meanB S x.p x.u = B1 at *
  generalize x.ds.length = nd at *
  clear hR hs hsc hnaE
  go_enter Tryd.func64, Tryd.ntmps64
  go_wp2_with fail
  refine (HMX.out _ ((Below.refl _ _).alloc (Nat.le_refl _) _)).mono ?_
  rintro e w1 ⟨rfl, hb1⟩
  have c7 := boxed (j := 7) hb1 rfl
  have hbw := below_box hb1
  cases B1 with
  | false =>
    have hF : false = R := by simpa using HR.out
    subst hF
    go_wp2
    go_ret
    exact ⟨rfl, hbw⟩
  | true =>
    have HR2 : Hid (x.ats.all (attrM S) = R) := Lib.hid (by simpa using HR.out)
    have HBW := Lib.hid hbw
    clear HR HMX hb1
    go_wp2
    clear c7
    go_loopw [17] (AllRel (attrM S) x.ats w1) (fun i _ => na - (intOf i).toNat)
    case atStart => exact ⟨0, Nat.zero_le _, rfl, rfl, Below.refl _ _⟩
    case round =>
      obtain ⟨q, hq, rfl, hal, hbq⟩ := hrel
      have HAL := Lib.hid hal
      have hbwq := HBW.out.trans (hbq.mono HBW.out.size)
      rw [HNA.out] at hq
      clear hal
      by_cases hltq : q < na
      · have hltd : q < x.ats.length := by rw [HNA.out]; exact hltq
        obtain ⟨b, o, cap', e, _, _, hbB, hcell⟩ := AsAt.open (SlAt.below HA.out hbwq) (by omega)
        simp only [Value.slice.injEq] at e
        obtain ⟨rfl, _, rfl⟩ := e
        obtain ⟨d0, d1, d2, d3⟩ := hcell q hltd
        have hsd := HS.out.ats _ (List.getElem_mem hltd)
        have hkz : (q : Int) < (na : Int) := by omega
        have HF : Hid (attrM S x.ats[q] = false → R = false) := fun h => by rw [← HR2.out, all_not hltd h]
        have HT : Hid (attrM S x.ats[q] = true → (x.ats.take (q + 1)).all (attrM S) = true) := all_next hltd HAL.out
        have HMQ := Lib.hid (fun w' => HM.out w' x.ats[q].p x.ats[q].u hsd.1)
        have hAM : attrM S x.ats[q] = bif eqL x.ats[q].p [] then eqL x.ats[q].u [] else meanB S x.ats[q].p x.ats[q].u := rfl
        rw [hAM] at HF HT
        obtain ⟨b1, e1, E1⟩ := tst0 x.ats[q].p
        obtain ⟨b2, e2, E2⟩ := tst0 x.ats[q].u
        rw [e1, e2] at HF HT
        clear hAM e1 e2
        generalize meanB S x.ats[q].p x.ats[q].u = BM at *
        generalize x.ats[q].p = P at *
        generalize x.ats[q].l = L at *
        generalize x.ats[q].u = U at *
        generalize x.ats[q].v = V at *
        obtain ⟨t1, t1'⟩ := E1.out
        obtain ⟨t2, t2'⟩ := E2.out
        clear hcell
        cases b1 with
        | true =>
          cases b2 with
          | true =>
            go_wp2
            go_roundw
            case rel => exact ⟨q + 1, hltd, by go_num, HT.out (by simp), hbq.alloc hbq.size _⟩
            case measure => simp [intOf]; omega
          | false =>
            obtain rfl := HF.out (by simp)
            go_wp2
            go_ret
            exact ⟨rfl, hbwq.alloc hbwq.size _⟩
        | false =>
          go_wp2_with fail
          refine (HMQ.out _ (hbwq.alloc hbwq.size _)).mono ?_
          rintro e w3 ⟨rfl, hb3⟩
          have hb3' := below_box hb3
          clear hb3
          cases BM with
          | false =>
            obtain rfl := HF.out (by simp)
            go_wp2
            go_ret
            exact ⟨rfl, hbwq.trans (hb3'.mono hbwq.size)⟩
          | true =>
            go_wp2
            go_roundw
            case rel => exact ⟨q + 1, hltd, by go_num, HT.out (by simp), hbq.trans (hb3'.mono hbq.size)⟩
            case measure => simp [intOf]; omega
      · have hkz : ¬ (q : Int) < (na : Int) := by omega
        have hall := all_whole (by rw [HNA.out]; exact hltq) HAL.out
        have hT : true = R := by rw [← HR2.out, hall]
        subst hT
        go_wp2
        go_ret
        exact ⟨rfl, hbwq⟩
end Go.Proofs.YtchnmkagemmjoaaDoor
