/-
  (*scope).means and elementMeans: whether prefixes mean their URIs, by what is open. Conditions: the scope lies as it is; the texts are not too long.
  doc.namesMean: whether the prefixes of all elements and attributes mean their URIs. Conditions: the list lies as it is, each node hangs where it may; there are not too many, the texts are not too long.
-/
import Derived.Test.YtalcmhngebobnaaDoorDEnd
import Derived.Test.YtalcmhngebobnaaDoorDElem
import Derived.Test.YtalcmhngebobnaaDoorDBegin
import Derived.Test.YtalcmhngebobnaaDoorDWithin
namespace Go.Proofs.YtalcmhngebobnaaDoor
open Go.RowKit Go.Maps Go.WideMaps
set_option linter.unusedVariables false
set_option maxRecDepth 100000
/-- Does a prefix mean a URI? -/
def meanB (S : List Dc) (p u : ByteArray) : Bool :=
  bif eqL p xmlP then eqL u xmlU else match findS S p.data.toList with | some z => u.toList == z.toList | none => eqL p [] && eqL u []
set_option maxHeartbeats 4000000 in
theorem means_any (B sb mb N x : Nat) (O : Obj) (S : List Dc) (p u : ByteArray) (w : World) (hsc : Sc w B sb mb N x O S) (hS : S.length ≤ 1000000000000) (hp : p.size ≤ 2000000) :
    Calls Tryd.prog 52 #[.pointer (some ⟨sb, 0, none⟩), .string p, .string u] w fun e w' => e = .returned (.bool (meanB S p u)) ∧ Below w.heap.size w w' := by
  obtain ⟨v, D, hA⟩ := hsc
  have hL := hA.lookup p hp
  have c0 := hA.c0
  have c1 := hA.c1
  unfold meanB
  obtain ⟨b1, e1, E1⟩ := tst p xmlP
  obtain ⟨b2, e2, E2⟩ := tst u xmlU
  obtain ⟨b3, e3, E3⟩ := tst0 p
  obtain ⟨b4, e4, E4⟩ := tst0 u
  rw [e1, e2, e3, e4]
  clear e1 e2 e3 e4
  unfold xmlP at E1
  unfold xmlU at E2
  have t1 := E1.out
  have t2 := E2.out
  obtain ⟨t3, t3'⟩ := E3.out
  obtain ⟨t4, t4'⟩ := E4.out
  cases b1 with
  | true =>
    go_enter Tryd.func52, Tryd.ntmps52
    go_wp2
    go_ret
    exact ⟨rfl, Below.refl _ _⟩
  | false =>
    cases hf : findS S p.data.toList with
    | none =>
      rw [find_none.1 hf] at hL
      clear hf hA
      cases b3 with
      | true =>
        go_enter Tryd.func52, Tryd.ntmps52
        go_wp2
        go_ret
        exact ⟨rfl, Below.refl _ _⟩
      | false =>
        go_enter Tryd.func52, Tryd.ntmps52
        go_wp2
        go_ret
        exact ⟨rfl, Below.refl _ _⟩
    | some z =>
      obtain ⟨k, hk, hc⟩ := find_some hf
      have hle := nrS_le S p.data.toList
      rw [hk] at hL hle
      obtain ⟨gb, capg, rfl, _, _⟩ := hA.own.form (by omega)
      have ho := own_cell hA.own hc
      have hkz : (k : Int) < (S.length : Int) := by omega
      have hkp : (0 : Int) < (k : Int) + 1 := by omega
      have hkle : k ≤ 1000000000000 := by omega
      clear hf hA hk hc hle
      generalize S.length = sl at *
      go_enter Tryd.func52, Tryd.ntmps52
      go_wp2
      go_ret
      exact ⟨rfl, Below.refl _ _⟩
/-- Does an attribute's prefix mean its URI? -/
def attrM (S : List Dc) (a : At) : Bool := bif eqL a.p [] then eqL a.u [] else meanB S a.p a.u
/-- Do an element's prefixes mean their URIs? -/
def elemM (S : List Dc) (x : Nd) : Bool := meanB S x.p x.u && x.ats.all (attrM S)
set_option maxHeartbeats 8000000 in
theorem elementMeans_any (B sb mb N y : Nat) (O : Obj) (S : List Dc) (x : Nd) (v : Value) (hs : Sm x) (w : World) (hsc : Sc w B sb mb N y O S) (hS : S.length ≤ 1000000000000) (hv : NdV w w.heap.size v x) :
    Calls Tryd.prog 39 #[.pointer (some ⟨sb, 0, none⟩), v] w fun e w' => e = .returned (.bool (elemM S x)) ∧ Below w.heap.size w w' := by
  obtain ⟨vd, va, rfl, hd, ha⟩ := hv
  have HS := Lib.hid hs
  have HM : Hid (∀ w' p u, p.size ≤ 2000000 → Below w.heap.size w w' → Calls Tryd.prog 52 #[.pointer (some ⟨sb, 0, none⟩), .string p, .string u] w' fun e w'' => e = .returned (.bool (meanB S p u)) ∧ Below w'.heap.size w' w'') := fun w' p u hp hb => means_any B sb mb N y O S p u w' (hsc.later hb) hS hp
  have HA : Hid (AsAt w w.heap.size va x.ats) := ha
  obtain ⟨A1, cap1, rfl, hl1, hm1, _⟩ := hd
  obtain ⟨A2, cap2, rfl, hl2, hm2, _⟩ := ha
  obtain ⟨R, hR⟩ : ∃ R, elemM S x = R := ⟨_, rfl⟩
  rw [hR]
  have HR : Hid ((meanB S x.p x.u && x.ats.all (attrM S)) = R) := hR
  have hna := hs.na
  have hxp := hs.p
  obtain ⟨na, hnaE⟩ : ∃ n, x.ats.length = n := ⟨_, rfl⟩
  have HNA := Lib.hid hnaE
  rw [hnaE] at hna hl2
  rw [hnaE]
  have HMX := Lib.hid (fun w' => HM.out w' x.p x.u hxp)
  generalize meanB S x.p x.u = B1 at *
  generalize x.ds.length = nd at *
  clear hR hs hsc hnaE
  go_enter Tryd.func39, Tryd.ntmps39
  go_wp2_with fail
  refine (HMX.out _ ((Below.refl _ _).alloc (Nat.le_refl _) _)).mono ?_
  rintro e w1 ⟨rfl, hb1⟩
  have c7 := boxed (j := 7) hb1 rfl
  have hbw := below_box hb1
  cases B1 with
  | false =>
    have hF : false = R := by simpa using HR.out
    subst hF
    go_wp2
    go_ret
    exact ⟨rfl, hbw⟩
  | true =>
    have HR2 : Hid (x.ats.all (attrM S) = R) := Lib.hid (by simpa using HR.out)
    have HBW := Lib.hid hbw
    clear HR HMX hb1
    go_wp2
    clear c7
    go_loopw [17] (AllRel (attrM S) x.ats w1) (fun i _ => na - (intOf i).toNat)
    case atStart => exact ⟨0, Nat.zero_le _, rfl, rfl, Below.refl _ _⟩
    case round =>
      obtain ⟨q, hq, rfl, hal, hbq⟩ := hrel
      have HAL := Lib.hid hal
      have hbwq := HBW.out.trans (hbq.mono HBW.out.size)
      rw [HNA.out] at hq
      clear hal
      by_cases hltq : q < na
      · have hltd : q < x.ats.length := by rw [HNA.out]; exact hltq
        obtain ⟨b, o, cap', e, _, _, hbB, hcell⟩ := AsAt.open (SlAt.below HA.out hbwq) (by omega)
        simp only [Value.slice.injEq] at e
        obtain ⟨rfl, _, rfl⟩ := e
        obtain ⟨d0, d1, d2, d3⟩ := hcell q hltd
        have hsd := HS.out.ats _ (List.getElem_mem hltd)
        have hkz : (q : Int) < (na : Int) := by omega
        have HF : Hid (attrM S x.ats[q] = false → R = false) := fun h => by rw [← HR2.out, all_not hltd h]
        have HT : Hid (attrM S x.ats[q] = true → (x.ats.take (q + 1)).all (attrM S) = true) := all_next hltd HAL.out
        have HMQ := Lib.hid (fun w' => HM.out w' x.ats[q].p x.ats[q].u hsd.1)
        have hAM : attrM S x.ats[q] = bif eqL x.ats[q].p [] then eqL x.ats[q].u [] else meanB S x.ats[q].p x.ats[q].u := rfl
        rw [hAM] at HF HT
        obtain ⟨b1, e1, E1⟩ := tst0 x.ats[q].p
        obtain ⟨b2, e2, E2⟩ := tst0 x.ats[q].u
        rw [e1, e2] at HF HT
        clear hAM e1 e2
        generalize meanB S x.ats[q].p x.ats[q].u = BM at *
        generalize x.ats[q].p = P at *
        generalize x.ats[q].l = L at *
        generalize x.ats[q].u = U at *
        generalize x.ats[q].v = V at *
        obtain ⟨t1, t1'⟩ := E1.out
        obtain ⟨t2, t2'⟩ := E2.out
        clear hcell
        cases b1 with
        | true =>
          cases b2 with
          | true =>
            go_wp2
            go_roundw
            case rel => exact ⟨q + 1, hltd, by go_num, HT.out (by simp), hbq.alloc hbq.size _⟩
            case measure => simp [intOf]; omega
          | false =>
            obtain rfl := HF.out (by simp)
            go_wp2
            go_ret
            exact ⟨rfl, hbwq.alloc hbwq.size _⟩
        | false =>
          go_wp2_with fail
          refine (HMQ.out _ (hbwq.alloc hbwq.size _)).mono ?_
          rintro e w3 ⟨rfl, hb3⟩
          have hb3' := below_box hb3
          clear hb3
          cases BM with
          | false =>
            obtain rfl := HF.out (by simp)
            go_wp2
            go_ret
            exact ⟨rfl, hbwq.trans (hb3'.mono hbwq.size)⟩
          | true =>
            go_wp2
            go_roundw
            case rel => exact ⟨q + 1, hltd, by go_num, HT.out (by simp), hbq.trans (hb3'.mono hbq.size)⟩
            case measure => simp [intOf]; omega
      · have hkz : ¬ (q : Int) < (na : Int) := by omega
        have hall := all_whole (by rw [HNA.out]; exact hltq) HAL.out
        have hT : true = R := by rw [← HR2.out, hall]
        subst hT
        go_wp2
        go_ret
        exact ⟨rfl, hbwq⟩
end Go.Proofs.YtalcmhngebobnaaDoor
namespace Go.Proofs.YtalcmhngebobnaaDoor
open Go.RowKit Go.Maps Go.WideMaps
set_option linter.unusedVariables false
set_option maxRecDepth 100000
/-- A node's declarations. -/
def dsA (l : List Nd) (m : Nat) : List Dc := ((l[m]?).map (·.ds)).getD []
theorem dsA_at {l : List Nd} {m : Nat} (h : m < l.length) : dsA l m = l[m].ds := by simp [dsA, List.getElem?_eq_getElem h]
/-- What is declared at a node, and above it, the nearest first. -/
def stk (l : List Nd) (n : Nat) : List Dc := (chn l n).flatMap (fun m => (dsA l m).reverse)
theorem stk_step {l : List Nd} {n : Nat} (h : 0 ≤ pa l n ∧ (pa l n).toNat < n) : stk l n = (dsA l n).reverse ++ stk l (pa l n).toNat := by
  unfold stk
  rw [chn_step h, List.flatMap_cons]
theorem stk_stop {l : List Nd} {n : Nat} (h : ¬ (0 ≤ pa l n ∧ (pa l n).toNat < n)) : stk l n = (dsA l n).reverse := by
  unfold stk
  rw [chn_stop h]; simp
/-- How many declarations the first nodes have. -/
def tot (l : List Nd) : Nat → Nat
  | 0 => 0
  | k + 1 => tot l k + (dsA l k).length
theorem tot_le {l : List Nd} (hs : ∀ x ∈ l, Sm x) : ∀ k, k ≤ l.length → tot l k ≤ k * 2000000
  | 0, _ => Nat.le_refl _
  | k + 1, h => by
    have h1 := tot_le hs k (by omega)
    have h2 := (hs _ (List.getElem_mem (show k < l.length by omega))).nd
    rw [tot, dsA_at (by omega)]
    omega
/-- Does the node j's prefixes mean their URIs, if it is an element? -/
def elmN (l : List Nd) (j : Nat) : Bool := match l[j]? with | some x => !(x.k == 1) || elemM (stk l j) x | none => true
theorem elmN_at {l : List Nd} {j : Nat} (h : j < l.length) : elmN l j = (!(l[j].k == 1) || elemM (stk l j) l[j]) := by simp [elmN, List.getElem?_eq_getElem h]
open Classical in
noncomputable def namesB (l : List Nd) : Bool := decide (∀ j, j < l.length → elmN l j = true)
/-- What is open ahead of a node. -/
def stkA (l : List Nd) : Nat → List Dc
  | 0 => []
  | k + 1 => stk l k
theorem sc_start (w : World) {O : Obj} (h0 : w.heap[0]? = some O) (hp : 0 < w.heap.size) : Sc ((w.alloc (.map #[] 0)).alloc (.cells #[.slice none 0 0, .map (some w.heap.size)] 60)) w.heap.size (w.heap.size + 1) w.heap.size 0 0 O [] := by
  have hb : Below (w.alloc (.map #[] 0)).heap.size (w.alloc (.map #[] 0)) ((w.alloc (.map #[] 0)).alloc (.cells #[.slice none 0 0, .map (some w.heap.size)] 60)) := (Below.refl _ _).alloc (Nat.le_refl _) _
  have hl := heap_alloc_last (w.alloc (.map #[] 0)) (.cells #[.slice none 0 0, .map (some w.heap.size)] 60)
  have hs : (w.alloc (.map #[] 0)).heap.size = w.heap.size + 1 := by simp
  rw [hs] at hl
  refine ⟨.slice none 0 0, .map [], ?_, ?_, ?_, ⟨rfl, .inl ⟨rfl, rfl⟩⟩, (World.ownsMap_made _ _ _ _).alloc _, fun s => rfl, by omega, by simp [Value.ownBlock], by simp [Value.ownBlock], by omega, by omega, by omega, by omega, by simp [Value.ownBlock], ?_⟩
  · rw [cell_of_row _ (w.heap.size + 1) 0 _ _ _ hl]; rfl
  · rw [cell_of_row _ (w.heap.size + 1) 1 _ _ _ hl]; rfl
  · unfold World.frozen?; rw [hl]; simp
  · exact ((((Below.refl w.heap.size w).alloc (Nat.le_refl _) _).alloc (by simp) _).block 0 hp).trans h0
/-- What holds at each round's head. -/
def NmRel (w : World) (l : List Nd) (O : Obj) (i : Value) (wr : World) : Prop :=
  ∃ k N : Nat, k ≤ l.length ∧ i = .int .i64 k ∧ Sc wr w.heap.size (w.heap.size + 1) w.heap.size N 0 O (stkA l k) ∧ N + (stkA l k).length ≤ 2 * tot l k ∧ (∀ j, j < k → elmN l j = true) ∧ Below w.heap.size w wr
/-- What holds at each head of the inner rounds. -/
def InRel (w : World) (l : List Nd) (k p q : Nat) (O : Obj) (i : Value) (wr : World) : Prop :=
  ∃ m N : Nat, m < k ∧ i = .int .i64 m ∧ Sc wr w.heap.size (w.heap.size + 1) w.heap.size N q O (stk l m) ∧ N + (stk l m).length ≤ 2 * tot l k ∧ p ∈ chn l m ∧ Below w.heap.size w wr
set_option maxHeartbeats 16000000 in
theorem names_any (l : List Nd) (v : Value) (w : World) (hv : NsAt w w.heap.size v l) (hlen : l.length ≤ 100000) (hs : ∀ x ∈ l, Sm x) (h0p : 0 < w.heap.size) (hr : pa l 0 = -1) (hh : ∀ i, 1 ≤ i → i < l.length → hangB l i = true) :
    Calls Tryd.prog 23 #[v] w fun e w' => e = .returned (.bool (namesB l)) ∧ Below w.heap.size w w' := by
  have hmm := @run_makeMap Tryd.prog
  have HV := Lib.hid hv
  obtain ⟨A, cap, rfl, hc1, hc2⟩ := hv.slice
  obtain ⟨R, hR⟩ : ∃ R, namesB l = R := ⟨_, rfl⟩
  rw [hR]
  have HR := Lib.hid hR
  have HH := Lib.hid hh
  have HRO := Lib.hid hr
  obtain ⟨O0, h00⟩ : ∃ O, w.heap[0]? = some O := ⟨w.heap[0], Array.getElem?_eq_getElem h0p⟩
  obtain ⟨n, hn⟩ : ∃ n, l.length = n := ⟨_, rfl⟩
  have HN := Lib.hid hn
  rw [hn] at hlen hc1 ⊢
  have HST := Lib.hid (sc_start w h00 h0p)
  have H00 := Lib.hid h00
  have H0P := Lib.hid h0p
  clear h00 h0p
  clear hR hn hr hh
  go_enter Tryd.func23, Tryd.ntmps23
  go_wp2
  go_loopw [11] (NmRel w l O0) (fun i _ => n - (intOf i).toNat)
  case atStart => exact ⟨0, 0, Nat.zero_le _, rfl, HST.out, by simp [stkA, tot], fun j hj => by omega, ((Below.refl _ _).alloc (Nat.le_refl _) _).alloc (by simp) _⟩
  case round =>
    obtain ⟨k, N, hk, rfl, hsc, hbn, hok, hb⟩ := hrel
    rw [HN.out] at hk
    have HOK := Lib.hid hok
    have HSC := Lib.hid hsc
    have HB := Lib.hid hb
    clear hok hsc hmm HST
    by_cases hlt : k < n
    · have hkl : k < l.length := by rw [HN.out]; exact hlt
      obtain ⟨b, o, cap', e, _, _, hbB, hnd⟩ := (HV.out.below hb).open (by intro h; rw [h] at hkl; simp at hkl)
      simp only [Value.slice.injEq] at e
      obtain ⟨rfl, _, rfl⟩ := e
      have HND := Lib.hid (fun wi (hbi : Below w.heap.size w wi) => (HV.out.below hbi).open (by intro h; rw [h] at hkl; simp at hkl))
      obtain ⟨vd, va, d0, d1, d2, d3, d4, d5, d6, d7, hd, ha⟩ := (hnd k hkl).cells
      have HXW : Hid (NdV wr w.heap.size (.agg #[.int .i64 l[k].k, .int .i64 l[k].n, .string l[k].p, .string l[k].l, .string l[k].u, .string l[k].t, vd, va]) l[k]) := ⟨vd, va, rfl, hd, ha⟩
      have HDSW : Hid (DsAt wr w.heap.size vd l[k].ds) := hd
      obtain ⟨A1, c1, rfl, _⟩ := hd
      obtain ⟨A2, c2, rfl, _⟩ := ha
      have hsx := hs _ (List.getElem_mem hkl)
      have hpaX := pa_at hkl
      have hkz : (k : Int) < (n : Int) := by omega
      have HEL := Lib.hid (elmN_at hkl)
      have HTOT : Hid (tot l (k + 1) = tot l k + l[k].ds.length) := by rw [Hid, tot, dsA_at hkl]
      have HDA := Lib.hid (dsA_at hkl)
      have HNO : Hid (elmN l k = false → R = false) := fun h => by
        rw [← HR.out]; unfold namesB
        exact decide_eq_false (fun h' => by rw [h' k hkl] at h; cases h)
      have hT1 := tot_le hs k (by omega)
      have hT2 := tot_le hs (k + 1) (by omega)
      have HTL : Hid (tot l (k + 1) ≤ 200000000000 ∧ tot l k ≤ 200000000000) := ⟨by omega, by omega⟩
      obtain ⟨hTA, hTB⟩ := HTL.out
      -- the list as it lies below w stays; what is read in wr lies so later
      have HXV : Hid (∀ wi, Below w.heap.size w wi → NdV wi wi.heap.size (.agg #[.int .i64 l[k].k, .int .i64 l[k].n, .string l[k].p, .string l[k].l, .string l[k].u, .string l[k].t, .slice A1 l[k].ds.length c1, .slice A2 l[k].ats.length c2]) l[k]) := fun wi hbi => by
        obtain ⟨b', o', cap'', e', _, _, _, hnd'⟩ := HND.out wi hbi
        simp only [Value.slice.injEq, Option.some.injEq, Addr.mk.injEq] at e'
        obtain ⟨⟨rfl, rfl, _⟩, _, _⟩ := e'
        obtain ⟨vd', va', _, _, _, _, _, _, e6, e7, hd', ha'⟩ := (hnd' k hkl).cells
        have q6 := (hbi.cell (p := ⟨b, o + k * 8 + 6, none⟩) hbB).trans ((hb.cell (p := ⟨b, o + k * 8 + 6, none⟩) hbB).symm.trans d6)
        have q7 := (hbi.cell (p := ⟨b, o + k * 8 + 7, none⟩) hbB).trans ((hb.cell (p := ⟨b, o + k * 8 + 7, none⟩) hbB).symm.trans d7)
        rw [q6] at e6
        rw [q7] at e7
        obtain rfl := Option.some.inj e6
        obtain rfl := Option.some.inj e7
        exact ⟨_, _, rfl, SlAt.mono hd' hbi.size, SlAt.mono ha' hbi.size⟩
      have HDS : Hid (DsAt w w.heap.size (.slice A1 l[k].ds.length c1) l[k].ds) := by
        obtain ⟨b', o', cap'', e', _, _, _, hnd'⟩ := HND.out w (Below.refl _ _)
        simp only [Value.slice.injEq, Option.some.injEq, Addr.mk.injEq] at e'
        obtain ⟨⟨rfl, rfl, _⟩, _, _⟩ := e'
        obtain ⟨vd', va', _, _, _, _, _, _, e6, e7, hd', ha'⟩ := (hnd' k hkl).cells
        have q6 := (hb.cell (p := ⟨b, o + k * 8 + 6, none⟩) hbB).symm.trans d6
        rw [q6] at e6
        obtain rfl := Option.some.inj e6
        exact hd'
      have HNDK : Hid (∀ m, m < k → ∃ vd, ∀ wi, Below w.heap.size w wi → wi.cell? ⟨b, o + m * 8 + 1, none⟩ = some (.int .i64 (pa l m)) ∧ wi.cell? ⟨b, o + m * 8 + 6, none⟩ = some vd ∧ DsAt wi w.heap.size vd (dsA l m)) := fun m hm => by
        have hml : m < l.length := by omega
        obtain ⟨b', o', cap'', e', _, _, _, hnd'⟩ := HND.out w (Below.refl _ _)
        simp only [Value.slice.injEq, Option.some.injEq, Addr.mk.injEq] at e'
        obtain ⟨⟨rfl, rfl, _⟩, _, _⟩ := e'
        obtain ⟨vd', va', _, e1, _, _, _, _, e6, e7, hd', ha'⟩ := (hnd' m hml).cells
        rw [← pa_at hml] at e1
        rw [← dsA_at hml] at hd'
        exact ⟨vd', fun wi hbi => ⟨(hbi.cell (p := ⟨b, o + m * 8 + 1, none⟩) hbB).trans e1, (hbi.cell (p := ⟨b, o + m * 8 + 6, none⟩) hbB).trans e6, SlAt.below hd' hbi⟩⟩
      have HSM : Hid (∀ m, m < k → (dsA l m).length ≤ 2000000 ∧ ∀ d ∈ dsA l m, d.p.size ≤ 2000000) := fun m hm => by
        have hml : m < l.length := by omega
        rw [dsA_at hml]
        have := hs _ (List.getElem_mem hml)
        exact ⟨this.nd, fun d hd => (this.ds d hd).1⟩
      obtain ⟨X, hX⟩ : ∃ X, l[k] = X := ⟨_, rfl⟩
      rw [hX] at d0 d1 d2 d3 d4 d5 d6 d7 hsx HEL HTOT HDA HXV HDS hpaX
      clear hnd HXW HDSW hX HND
      go_wp2
      obtain ⟨W1, hW1⟩ : ∃ W1, wr.alloc (Obj.cells #[.int .i64 X.k, .int .i64 X.n, .string X.p, .string X.l, .string X.u, .string X.t, .slice A1 X.ds.length c1, .slice A2 X.ats.length c2] 28) = W1 := ⟨_, rfl⟩
      have hWb : Below wr.heap.size wr W1 := by rw [← hW1]; exact (Below.refl _ _).alloc (Nat.le_refl _) _
      have hheap : W1.heap[wr.heap.size]? = some (Obj.cells #[.int .i64 X.k, .int .i64 X.n, .string X.p, .string X.l, .string X.u, .string X.t, .slice A1 X.ds.length c1, .slice A2 X.ats.length c2] 28) := by rw [← hW1]; exact heap_alloc_last wr _
      have HSC1 : Hid (Sc W1 w.heap.size (w.heap.size + 1) w.heap.size N wr.heap.size (Obj.cells #[.int .i64 X.k, .int .i64 X.n, .string X.p, .string X.l, .string X.u, .string X.t, .slice A1 X.ds.length c1, .slice A2 X.ats.length c2] 28) (stkA l k)) := by
        have hlt1 : w.heap.size + 1 < wr.heap.size := by obtain ⟨v', D', hA'⟩ := HSC.out; exact hA'.lt
        exact (HSC.out.later hWb).aside (by omega) (by omega) (fun v D hA h => by
          obtain ⟨v', D', hA'⟩ := HSC.out
          have e1 := hA.c0
          rw [(hA'.later hWb).c0] at e1
          obtain rfl := Option.some.inj e1
          have := (own_lt hA'.own h).2
          omega) hheap
      have HB1 : Hid (Below w.heap.size w W1) := HB.out.trans (hWb.mono HB.out.size)
      rw [hW1]
      clear hW1 hWb hheap d0 d1 d2 d3 d4 d5 d6 d7 HSC HB hb
      generalize wr.heap.size = q at *
      rcases Nat.eq_zero_or_pos k with hk0 | hk0
      · have HK0 := Lib.hid hk0
        have HST0 : Hid (X.ds.reverse ++ [] = stk l k) := by rw [Hid, hk0, stk_stop (by rw [HRO.out]; omega), ← hk0, HDA.out, List.append_nil]
        have hXn : X.n = -1 := by rw [← hpaX, hk0]; exact HRO.out
        have HSCA : Hid (Sc W1 w.heap.size (w.heap.size + 1) w.heap.size N q (Obj.cells #[.int .i64 X.k, .int .i64 X.n, .string X.p, .string X.l, .string X.u, .string X.t, .slice A1 X.ds.length c1, .slice A2 X.ats.length c2] 28) []) := by have h := HSC1.out; rw [hk0] at h; exact h
        have z1 : W1.cell? ⟨q, 1, none⟩ = some (.int .i64 (-1)) := by rw [cell_of_row W1 q 1 _ _ _ HSCA.out.held, ← hXn]; rfl
        have hbn0 : N ≤ 2 * tot l k := by rw [hk0] at hbn ⊢; simpa [stkA] using hbn
        have hcmp : ¬ ((-1 : Int) < (k : Int) - 1) := by omega
        have hcmp1 := decide_eq_false hcmp
        clear hXn hpaX hbn hk0
        refine wp_loop_rounds 1 ?_
        rw [rounds_succ]
        have hSx := HSCA.out
        have hheld := hSx.held
        have z0 : W1.cell? ⟨q, 0, none⟩ = some (.int .i64 X.k) := by rw [cell_of_row W1 q 0 _ _ _ hheld]; rfl
        have z6 : W1.cell? ⟨q, 6, none⟩ = some (.slice A1 X.ds.length c1) := by rw [cell_of_row W1 q 6 _ _ _ hheld]; rfl
        have HBG := Lib.hid (begin_any w.heap.size (w.heap.size + 1) w.heap.size N q (Obj.cells #[.int .i64 X.k, .int .i64 X.n, .string X.p, .string X.l, .string X.u, .string X.t, .slice A1 X.ds.length c1, .slice A2 X.ats.length c2] 28) [] X.ds _ W1 hSx HB1.out.size (SlAt.below HDS.out HB1.out) (by omega) (by first | omega | simp) hsx.nd (fun d hd => (hsx.ds d hd).1))
        clear hSx hheld
        go_wp2_with fail
        refine HBG.out.mono ?_
        rintro e w5 ⟨rfl, hsc5, hb5⟩
        have HB5 := Lib.hid (HB1.out.trans hb5)
        have hheld := hsc5.held
        have hsz5 : q < w5.heap.size := block_lt hheld
        have y0 : w5.cell? ⟨q, 0, none⟩ = some (.int .i64 X.k) := by rw [cell_of_row w5 q 0 _ _ _ hheld]; rfl
        have y1 : w5.cell? ⟨q, 1, none⟩ = some (.int .i64 X.n) := by rw [cell_of_row w5 q 1 _ _ _ hheld]; rfl
        have y2 : w5.cell? ⟨q, 2, none⟩ = some (.string X.p) := by rw [cell_of_row w5 q 2 _ _ _ hheld]; rfl
        have y3 : w5.cell? ⟨q, 3, none⟩ = some (.string X.l) := by rw [cell_of_row w5 q 3 _ _ _ hheld]; rfl
        have y4 : w5.cell? ⟨q, 4, none⟩ = some (.string X.u) := by rw [cell_of_row w5 q 4 _ _ _ hheld]; rfl
        have y5 : w5.cell? ⟨q, 5, none⟩ = some (.string X.t) := by rw [cell_of_row w5 q 5 _ _ _ hheld]; rfl
        have y6 : w5.cell? ⟨q, 6, none⟩ = some (.slice A1 X.ds.length c1) := by rw [cell_of_row w5 q 6 _ _ _ hheld]; rfl
        have y7 : w5.cell? ⟨q, 7, none⟩ = some (.slice A2 X.ats.length c2) := by rw [cell_of_row w5 q 7 _ _ _ hheld]; rfl
        have HSC5 := Lib.hid hsc5
        rw [HST0.out] at HSC5
        have HBN5 : Hid (N + X.ds.length + (stk l k).length ≤ 2 * tot l (k + 1)) := by
          have h1 := HTOT.out
          rw [← HST0.out, h1]
          simp only [List.length_append, List.length_reverse]
          show _ ≤ _
          simp only [List.length_nil]; omega
        have HEND : Hid (∀ w6, Below w5.heap.size w5 w6 → elmN l k = true → NmRel w l O0 (.int .i64 ((k + 1 : Nat) : Int)) w6) := fun w6 hb6 he => by
          have hbw := HB5.out.trans (hb6.mono HB5.out.size)
          exact ⟨k + 1, N + X.ds.length, hkl, rfl, (HSC5.out.later hb6).aside (by omega) (by omega) (fun v D hA h => by have := (own_lt hA.own h).1; omega) ((hbw.block 0 H0P.out).trans H00.out), HBN5.out, less_two HOK.out he, hbw⟩
        have HEM := Lib.hid (elementMeans_any w.heap.size (w.heap.size + 1) w.heap.size (N + X.ds.length) q (Obj.cells #[.int .i64 X.k, .int .i64 X.n, .string X.p, .string X.l, .string X.u, .string X.t, .slice A1 X.ds.length c1, .slice A2 X.ats.length c2] 28) (stk l k) X _ hsx w5 HSC5.out (by have := HBN5.out; have := HTL.out; omega) (HXV.out w5 HB5.out))
        clear hb5 hsc5 hheld HBG
        by_cases hk1 : X.k = 1
        · have t1 : (X.k == 1) = true := by simpa using hk1
          rw [t1] at HEL
          obtain ⟨BE, hBE⟩ : ∃ BE, elemM (stk l k) X = BE := ⟨_, rfl⟩
          rw [hBE] at HEL HEM
          have HEL2 : Hid (elmN l k = BE) := Lib.hid (by simpa using HEL.out)
          clear hk1 hBE HEL
          cases BE with
          | true =>
            go_wp2_with fail
            refine HEM.out.mono ?_
            rintro e w6 ⟨rfl, hb6⟩
            go_wp2
            go_roundw
            case rel => exact (show Value.int .i64 ((k + 1 : Nat) : Int) = _ by go_num) ▸ HEND.out w6 hb6 HEL2.out
            case measure => simp [intOf]; omega
          | false =>
            obtain rfl := HNO.out HEL2.out
            go_wp2_with fail
            refine HEM.out.mono ?_
            rintro e w6 ⟨rfl, hb6⟩
            have hbw := HB5.out.trans (hb6.mono HB5.out.size)
            go_wp2
            go_ret
            exact ⟨rfl, hbw⟩
        · have t1 : (X.k == 1) = false := by simpa using hk1
          rw [t1] at HEL
          have HEL2 : Hid (elmN l k = true) := Lib.hid (by simpa using HEL.out)
          clear hk1 HEL
          go_wp2
          go_roundw
          case rel => exact (show Value.int .i64 ((k + 1 : Nat) : Int) = _ by go_num) ▸ HEND.out w5 (Below.refl _ _) HEL2.out
          case measure => simp [intOf]; omega
      · have hpk := hang_less hk0 (HH.out k hk0 hkl)
        have hhk := HH.out k hk0 hkl
        obtain ⟨p, hp⟩ : ∃ p : Nat, pa l k = (p : Int) := ⟨(pa l k).toNat, by omega⟩
        have hXn : X.n = (p : Int) := by rw [← hpaX, hp]
        have hpk2 : p < k := by omega
        have HPM : Hid (p ∈ chn l (k - 1)) := by
          unfold hangB at hhk
          rw [hp] at hhk
          simp only [Bool.and_eq_true, decide_eq_true_eq, Int.toNat_natCast] at hhk
          exact hhk.1.2
        have HSTK : Hid (X.ds.reverse ++ stk l p = stk l k) := by
          rw [Hid, stk_step (n := k) (by rw [hp]; omega), hp, HDA.out, Int.toNat_natCast]
        have HHU : Hid (∀ m, 1 ≤ m → m < k → 0 ≤ pa l m ∧ (pa l m).toNat < m) := fun m h1 h2 => by
          have := hang_less h1 (HH.out m h1 (by omega))
          omega
        have hk1e : stkA l k = stk l (k - 1) := by
          cases k with
          | zero => omega
          | succ j => rfl
        rw [hk1e] at hbn HSC1
        have HIN : Hid (InRel w l k p q (Obj.cells #[.int .i64 X.k, .int .i64 X.n, .string X.p, .string X.l, .string X.u, .string X.t, .slice A1 X.ds.length c1, .slice A2 X.ats.length c2] 28) (.int .i64 ((k : Int) - 1)) W1) := ⟨k - 1, N, by omega, by congr 1; omega, HSC1.out, hbn, HPM.out, HB1.out⟩
        have HXN := Lib.hid hXn
        clear hhk hp hXn hpaX hbn hk1e HSC1 HB1 HPM
        go_loopw [6] (InRel w l k p q (Obj.cells #[.int .i64 X.k, .int .i64 X.n, .string X.p, .string X.l, .string X.u, .string X.t, .slice A1 X.ds.length c1, .slice A2 X.ats.length c2] 28)) (fun i _ => (intOf i).toNat)
        case atStart => exact HIN.out
        case round =>
          obtain ⟨m, N1, hm, rfl, hsc1, hbn1, hpm, hb1⟩ := hrel
          have HSC1 := Lib.hid hsc1
          have HB1 := Lib.hid hb1
          have z1 : wr.cell? ⟨q, 1, none⟩ = some (.int .i64 (p : Int)) := by rw [cell_of_row wr q 1 _ _ _ hsc1.held, ← HXN.out]; rfl
          by_cases hmp : p < m
          · obtain ⟨vdm, hvm⟩ := HNDK.out m hm
            obtain ⟨x1, x6, hdm⟩ := hvm wr hb1
            have hum := HHU.out m (by omega) hm
            have HPM2 : Hid (p ∈ chn l (pa l m).toNat) := by
              rw [chn_step hum, List.mem_cons] at hpm
              rcases hpm with h | h
              · omega
              · exact h
            have hsm := HSM.out m hm
            have hse := stk_step hum
            rw [hse] at hsc1 hbn1
            obtain ⟨pm, hpmE⟩ : ∃ pm : Nat, pa l m = (pm : Int) := ⟨(pa l m).toNat, by omega⟩
            rw [hpmE, Int.toNat_natCast] at hsc1 hbn1 HPM2 hum
            rw [hpmE] at x1
            simp only [List.length_append, List.length_reverse] at hbn1
            have HEN := Lib.hid (end_any w.heap.size (w.heap.size + 1) w.heap.size N1 q (Obj.cells #[.int .i64 X.k, .int .i64 X.n, .string X.p, .string X.l, .string X.u, .string X.t, .slice A1 X.ds.length c1, .slice A2 X.ats.length c2] 28) (stk l pm) (dsA l m) vdm wr hsc1 hb1.size hdm (by omega) (by omega) hsm.1 hsm.2)
            have HVM : Hid (∀ wi, Below w.heap.size w wi → wi.cell? ⟨b, o + m * 8 + 1, none⟩ = some (.int .i64 (pm : Int))) := fun wi hbi => by rw [← hpmE]; exact (hvm wi hbi).1
            have hmn : (m : Int) < (n : Int) := by omega
            have hmz : (p : Int) < (m : Int) := by omega
            have hpmm := hum.2
            clear hsc1 hvm hpmE hse hpm hsm hum
            obtain ⟨Am, cm, rfl, _⟩ := hdm
            go_wp2_with fail
            refine HEN.out.mono ?_
            rintro e w4 ⟨rfl, hsc4, hb4⟩
            have HB4 := Lib.hid (hb1.trans hb4)
            have x1' := HVM.out w4 HB4.out
            have HSC4 := Lib.hid hsc4
            clear hb4 hsc4 z1 x1 x6 HEN
            go_wp2
            go_roundw
            case rel => exact ⟨pm, N1 + (dsA l m).length, by omega, rfl, HSC4.out, by omega, HPM2.out, HB4.out⟩
            case measure => simp [intOf]; omega
          · have hmz : ¬ (p : Int) < (m : Int) := by omega
            have hmz1 := decide_eq_false hmz
            have hmp2 : m = p := by
              have := (mem_end (l := l) (a := m) (p := p) (by omega)).1 hpm
              omega
            subst hmp2
            clear hsc1 hpm hb1
            have hSx := HSC1.out
            have hheld := hSx.held
            have z0 : wr.cell? ⟨q, 0, none⟩ = some (.int .i64 X.k) := by rw [cell_of_row wr q 0 _ _ _ hheld]; rfl
            have z6 : wr.cell? ⟨q, 6, none⟩ = some (.slice A1 X.ds.length c1) := by rw [cell_of_row wr q 6 _ _ _ hheld]; rfl
            have HBG := Lib.hid (begin_any w.heap.size (w.heap.size + 1) w.heap.size N1 q (Obj.cells #[.int .i64 X.k, .int .i64 X.n, .string X.p, .string X.l, .string X.u, .string X.t, .slice A1 X.ds.length c1, .slice A2 X.ats.length c2] 28) (stk l m) X.ds _ wr hSx HB1.out.size (SlAt.below HDS.out HB1.out) (by omega) (by first | omega | simp) hsx.nd (fun d hd => (hsx.ds d hd).1))
            clear hSx hheld
            go_wp2_with fail
            refine HBG.out.mono ?_
            rintro e w5 ⟨rfl, hsc5, hb5⟩
            have HB5 := Lib.hid (HB1.out.trans hb5)
            have hheld := hsc5.held
            have hsz5 : q < w5.heap.size := block_lt hheld
            have y0 : w5.cell? ⟨q, 0, none⟩ = some (.int .i64 X.k) := by rw [cell_of_row w5 q 0 _ _ _ hheld]; rfl
            have y1 : w5.cell? ⟨q, 1, none⟩ = some (.int .i64 X.n) := by rw [cell_of_row w5 q 1 _ _ _ hheld]; rfl
            have y2 : w5.cell? ⟨q, 2, none⟩ = some (.string X.p) := by rw [cell_of_row w5 q 2 _ _ _ hheld]; rfl
            have y3 : w5.cell? ⟨q, 3, none⟩ = some (.string X.l) := by rw [cell_of_row w5 q 3 _ _ _ hheld]; rfl
            have y4 : w5.cell? ⟨q, 4, none⟩ = some (.string X.u) := by rw [cell_of_row w5 q 4 _ _ _ hheld]; rfl
            have y5 : w5.cell? ⟨q, 5, none⟩ = some (.string X.t) := by rw [cell_of_row w5 q 5 _ _ _ hheld]; rfl
            have y6 : w5.cell? ⟨q, 6, none⟩ = some (.slice A1 X.ds.length c1) := by rw [cell_of_row w5 q 6 _ _ _ hheld]; rfl
            have y7 : w5.cell? ⟨q, 7, none⟩ = some (.slice A2 X.ats.length c2) := by rw [cell_of_row w5 q 7 _ _ _ hheld]; rfl
            have HSC5 := Lib.hid hsc5
            rw [HSTK.out] at HSC5
            have HBN5 : Hid (N1 + X.ds.length + (stk l k).length ≤ 2 * tot l (k + 1)) := by
              have h1 := HTOT.out
              rw [← HSTK.out, h1]
              simp only [List.length_append, List.length_reverse]
              show _ ≤ _
              omega
            have HEND : Hid (∀ w6, Below w5.heap.size w5 w6 → elmN l k = true → NmRel w l O0 (.int .i64 ((k + 1 : Nat) : Int)) w6) := fun w6 hb6 he => by
              have hbw := HB5.out.trans (hb6.mono HB5.out.size)
              exact ⟨k + 1, N1 + X.ds.length, hkl, rfl, (HSC5.out.later hb6).aside (by omega) (by omega) (fun v D hA h => by have := (own_lt hA.own h).1; omega) ((hbw.block 0 H0P.out).trans H00.out), HBN5.out, less_two HOK.out he, hbw⟩
            have HEM := Lib.hid (elementMeans_any w.heap.size (w.heap.size + 1) w.heap.size (N1 + X.ds.length) q (Obj.cells #[.int .i64 X.k, .int .i64 X.n, .string X.p, .string X.l, .string X.u, .string X.t, .slice A1 X.ds.length c1, .slice A2 X.ats.length c2] 28) (stk l k) X _ hsx w5 HSC5.out (by have := HBN5.out; have := HTL.out; omega) (HXV.out w5 HB5.out))
            clear hb5 hsc5 hheld HBG
            by_cases hk1 : X.k = 1
            · have t1 : (X.k == 1) = true := by simpa using hk1
              rw [t1] at HEL
              obtain ⟨BE, hBE⟩ : ∃ BE, elemM (stk l k) X = BE := ⟨_, rfl⟩
              rw [hBE] at HEL HEM
              have HEL2 : Hid (elmN l k = BE) := Lib.hid (by simpa using HEL.out)
              clear hk1 hBE HEL
              cases BE with
              | true =>
                go_wp2_with fail
                refine HEM.out.mono ?_
                rintro e w6 ⟨rfl, hb6⟩
                go_wp2
                go_roundw
                case rel => exact (show Value.int .i64 ((k + 1 : Nat) : Int) = _ by go_num) ▸ HEND.out w6 hb6 HEL2.out
                case measure => simp [intOf]; omega
              | false =>
                obtain rfl := HNO.out HEL2.out
                go_wp2_with fail
                refine HEM.out.mono ?_
                rintro e w6 ⟨rfl, hb6⟩
                have hbw := HB5.out.trans (hb6.mono HB5.out.size)
                go_wp2
                go_ret
                exact ⟨rfl, hbw⟩
            · have t1 : (X.k == 1) = false := by simpa using hk1
              rw [t1] at HEL
              have HEL2 : Hid (elmN l k = true) := Lib.hid (by simpa using HEL.out)
              clear hk1 HEL
              go_wp2
              go_roundw
              case rel => exact (show Value.int .i64 ((k + 1 : Nat) : Int) = _ by go_num) ▸ HEND.out w5 (Below.refl _ _) HEL2.out
              case measure => simp [intOf]; omega
    · have hkz : ¬ (k : Int) < (n : Int) := by omega
      have hkn : k = n := by omega
      have hT : true = R := by
        rw [← HR.out]; unfold namesB
        exact (decide_eq_true (fun j hj => HOK.out j (by rw [HN.out] at hj; omega))).symm
      subst hT
      go_wp2
      go_ret
      exact ⟨rfl, hb⟩
end Go.Proofs.YtalcmhngebobnaaDoor
