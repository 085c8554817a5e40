/-
  doc.formed: whether a list is formed. Conditions: the list lies as it is, the tables too; there are not too many nodes, the texts are not too long.
  doc.copies of nodes: a list of nodes in new memory. Conditions: the list lies as it is; there are not too many nodes, the texts are not too long.
  doc.Of: the document of a list, or why it is none. Conditions: the list lies as it is, the tables too; there are not too many nodes, the texts are not too long.
-/
import Derived.Test.YtalcmhngebobnaaDoorDNames
import Derived.Test.YtalcmhngebobnaaDoorDNode
import Derived.Test.YtalcmhngebobnaaDoorDNodeCopy
namespace Go.Proofs.YtalcmhngebobnaaDoor
open Go.RowKit
set_option linter.unusedVariables false
set_option maxRecDepth 100000
/-- Is a list formed, as the program asks it? -/
noncomputable def formedP : List Nd → Bool
  | [] => false
  | x :: r => rootB x && (placedB (x :: r) && (r.all nodeB && namesB (x :: r)))
theorem rest_of {b o n cap : Nat} (hn : 1 ≤ n) (hc : n ≤ cap) : ∃ A', (∀ W, (Instr.slice 22 (.slice (some ⟨b, o, none⟩) n cap) (some (.int .i64 1)) none none).run Tryd.prog W = .ok (.slice A' (n - 1) (cap - 1)) W) ∧ (1 < n → A' = some ⟨b, o + 8, none⟩) := by
  have hs : ∀ w, (sizeOf 28).run Tryd.prog w = .ok 8 w := fun w => by kernel_rfl
  refine ⟨if cap = 1 then some ⟨b, o, none⟩ else some ⟨b, o + 8, none⟩, fun W => ?_, fun h => by rw [if_neg (by omega)]⟩
  have h1 : (1 : Int) ≤ (n : Int) := by omega
  simp [Instr.slice, run_underlying Tryd.underlying22, Instr.sliceBounds, Instr.sliceBound, asIntOf, hs, h1, Addr.add]
theorem root_pa {x : Nd} {r : List Nd} (h : rootB x = true) : pa (x :: r) 0 = -1 := by
  unfold rootB at h
  simp only [Bool.and_eq_true, beq_iff_eq] at h
  rw [pa_at (by simp)]
  exact h.2.1
theorem placed_hang {l : List Nd} (h : placedB l = true) : ∀ i, 1 ≤ i → i < l.length → hangB l i = true := fun i h1 h2 => by
  cases hh : hangB l i with
  | true => rfl
  | false =>
    have := placed_no h1 h2 (by unfold okP; rw [hh]; rfl)
    rw [h] at this
    cases this
set_option maxHeartbeats 16000000 in
theorem formed_any (l : List Nd) (v : Value) (w : World) (hv : NsAt w w.heap.size v l) (hlen : l.length ≤ 100000) (hs : ∀ x ∈ l, Sm x) (hW : Wd w) :
    Calls Tryd.prog 13 #[v] w fun e w' => e = .returned (.bool (formedP l)) ∧ Below w.heap.size w w' := by
  have HV := Lib.hid hv
  obtain ⟨A, cap, rfl, hc1, hc2⟩ := hv.slice
  match l, hs, HV, hc1, hlen with
  | [], hs, HV, hc1, hlen =>
    have hnz : ((0 : Int) == 0) = true := rfl
    rw [show ([] : List Nd).length = 0 from rfl]
    go_enter Tryd.func13, Tryd.ntmps13
    go_wp2
    go_ret
    exact ⟨rfl, Below.refl _ _⟩
  | x :: r, hs, HV, hc1, hlen =>
    obtain ⟨b, o, cap', e, _, _, hbB, hnd⟩ := HV.out.open (by simp)
    simp only [Value.slice.injEq] at e
    obtain ⟨rfl, _, rfl⟩ := e
    have HND := Lib.hid hnd
    obtain ⟨vd, va, d0, d1, d2, d3, d4, d5, d6, d7, hd, ha⟩ := (hnd 0 (by simp)).cells
    have hx0 : (x :: r)[0] = x := rfl
    rw [hx0] at d0 d1 d2 d3 d4 d5 hd ha
    rw [Nat.zero_mul, Nat.add_zero] at d0 d1 d2 d3 d4 d5 d6 d7
    have HRT : Hid (Calls Tryd.prog 20 #[.agg #[.int .i64 x.k, .int .i64 x.n, .string x.p, .string x.l, .string x.u, .string x.t, vd, va]] w fun e w' => e = .returned (.bool (rootB x)) ∧ Below w.heap.size w w') := root_any x _ w ⟨vd, va, rfl, hd, ha⟩
    obtain ⟨A1, c1, rfl, _⟩ := hd
    obtain ⟨A2, c2, rfl, _⟩ := ha
    obtain ⟨n, hn⟩ : ∃ n, (x :: r).length = n := ⟨_, rfl⟩
    have HN := Lib.hid hn
    have hn1 : 1 ≤ n := by rw [← hn]; simp
    have HPL : Hid (∀ w', Below w.heap.size w w' → Calls Tryd.prog 21 #[.slice (some ⟨b, o, none⟩) (x :: r).length cap] w' fun e w'' => e = .returned (.bool (placedB (x :: r))) ∧ Below w'.heap.size w' w'') := fun w' hb => placed_any (x :: r) _ w' (HV.out.later hb) (by simp) (by omega)
    have HNM : Hid (rootB x = true → placedB (x :: r) = true → ∀ w', Below w.heap.size w w' → Calls Tryd.prog 23 #[.slice (some ⟨b, o, none⟩) (x :: r).length cap] w' fun e w'' => e = .returned (.bool (namesB (x :: r))) ∧ Below w'.heap.size w' w'') := fun h1 h2 w' hb =>
      names_any (x :: r) _ w' (HV.out.later hb) hlen hs (by have := (hW.later hb).tabs.five; omega) (root_pa h1) (placed_hang h2)
    rw [hn] at HPL HNM hc1 hlen ⊢
    obtain ⟨A', hsl, hA'⟩ := rest_of (b := b) (o := o) hn1 hc1
    have HW := Lib.hid hW
    rw [show formedP (x :: r) = (rootB x && (placedB (x :: r) && (r.all nodeB && namesB (x :: r)))) from rfl]
    generalize rootB x = B1 at *
    generalize placedB (x :: r) = B2 at *
    generalize namesB (x :: r) = B4 at *
    obtain ⟨B3, hB3⟩ : ∃ B3, r.all nodeB = B3 := ⟨_, rfl⟩
    rw [hB3]
    have HB3 := Lib.hid hB3
    have hnz : ((n : Int) == 0) = false := by rw [beq_eq_false_iff_ne]; omega
    have hnp : (0 : Int) < (n : Int) := by omega
    have hrl : r.length = n - 1 := by rw [← hn]; simp
    have HRL := Lib.hid hrl
    have hn1z : ((n - 1 : Nat) : Int) = (n : Int) - 1 := by omega
    clear hB3 hnd hn hrl hW hx0
    go_enter Tryd.func13, Tryd.ntmps13
    go_wp2_with fail
    refine HRT.out.mono ?_
    rintro e w1 ⟨rfl, hb1⟩
    cases B1 with
    | false =>
      go_wp2
      go_ret
      exact ⟨rfl, hb1⟩
    | true =>
      go_wp2_with fail
      refine (HPL.out w1 hb1).mono ?_
      rintro e w2 ⟨rfl, hb2⟩
      have hbw := hb1.trans (hb2.mono hb1.size)
      have HBW := Lib.hid hbw
      cases B2 with
      | false =>
        go_wp2
        go_ret
        exact ⟨rfl, hbw⟩
      | true =>
        clear hb1 hb2 HRT HPL d0 d1 d2 d3 d4 d5 d6 d7
        obtain ⟨m, hm⟩ : ∃ m, n - 1 = m := ⟨_, rfl⟩
        rw [hm] at hsl HRL
        have HM := Lib.hid hm
        have hmn : m + 1 = n := by omega
        clear hm hn1z
        go_wp2
        go_loopw [23] (AllRel nodeB r w2) (fun i _ => m - (intOf i).toNat)
        case atStart => exact ⟨0, Nat.zero_le _, rfl, rfl, Below.refl _ _⟩
        case round =>
          obtain ⟨k, hk, rfl, hal, hbr⟩ := hrel
          have HAL := Lib.hid hal
          have hbwr := HBW.out.trans (hbr.mono HBW.out.size)
          rw [HRL.out] at hk
          clear hal hsl
          by_cases hlt : k < m
          · have hkr : k < r.length := by rw [HRL.out]; exact hlt
            have hkl : k + 1 < (x :: r).length := by simp; omega
            obtain rfl := hA' (by omega)
            obtain ⟨vd, va, d0, d1, d2, d3, d4, d5, d6, d7, hd, ha⟩ := ((HND.out (k + 1) hkl).below hbB hbwr).cells
            have hxe : (x :: r)[k + 1] = r[k] := rfl
            rw [hxe] at d0 d1 d2 d3 d4 d5 hd ha
            have ho : o + (k + 1) * 8 = o + 8 + k * 8 := by omega
            rw [ho] at d0 d1 d2 d3 d4 d5 d6 d7
            have hsx := hs r[k] (List.mem_cons_of_mem _ (List.getElem_mem hkr))
            have HNX : Hid (∀ w', Below wr.heap.size wr w' → Calls Tryd.prog 22 #[.agg #[.int .i64 r[k].k, .int .i64 r[k].n, .string r[k].p, .string r[k].l, .string r[k].u, .string r[k].t, vd, va]] w' fun e w'' => e = .returned (.bool (nodeB r[k])) ∧ Below w'.heap.size w' w'') := fun w' hb' =>
              node_any r[k] _ hsx w' (HW.out.later (hbwr.trans (hb'.mono hbwr.size))) ((NdV.mono ⟨vd, va, rfl, hd, ha⟩ hbwr.size).later hb')
            obtain ⟨A1, c1, rfl, _⟩ := hd
            obtain ⟨A2, c2, rfl, _⟩ := ha
            have HF : Hid (nodeB r[k] = false → B3 = false) := fun h => by rw [← HB3.out, all_not hkr h]
            have HT : Hid (nodeB r[k] = true → (r.take (k + 1)).all nodeB = true) := all_next hkr HAL.out
            have hkz : (k : Int) < (m : Int) := by omega
            generalize nodeB r[k] = BB at *
            generalize r[k] = y at *
            clear ho hxe
            go_wp2_with fail
            refine (HNX.out _ ((Below.refl _ _).alloc (Nat.le_refl _) _)).mono ?_
            rintro e w3 ⟨rfl, hb3⟩
            have hb3' := below_box hb3
            clear hb3
            cases BB with
            | false =>
              obtain rfl := HF.out rfl
              go_wp2
              go_ret
              exact ⟨rfl, hbwr.trans (hb3'.mono hbwr.size)⟩
            | true =>
              go_wp2
              go_roundw
              case rel => exact ⟨k + 1, hkr, by go_num, HT.out (by simp), hbr.trans (hb3'.mono hbr.size)⟩
              case measure => simp [intOf]; omega
          · have hkz : ¬ (k : Int) < (m : Int) := by omega
            have hT : true = B3 := by rw [← HB3.out]; exact (all_whole (by rw [HRL.out]; exact hlt) HAL.out).symm
            subst hT
            have HNN := Lib.hid (HNM.out (by simp) (by simp) wr hbwr)
            go_wp2_with fail
            refine HNN.out.mono ?_
            rintro e w3 ⟨rfl, hb3⟩
            go_wp2
            go_ret
            exact ⟨rfl, hbwr.trans (hb3.mono hbwr.size)⟩
end Go.Proofs.YtalcmhngebobnaaDoor
namespace Go.Proofs.YtalcmhngebobnaaDoor
open Go.RowKit
set_option linter.unusedVariables false
set_option maxRecDepth 100000
/-- The first k nodes lie in these cells. -/
def NdsIn (w : World) (B : Nat) (cur : Array Value) (l : List Nd) (k : Nat) : Prop :=
  ∀ i (hi : i < l.length), i < k → ∃ vd va, (∀ j (hj : j < 8), cur[i * 8 + j]? = some ((ndC l[i] vd va)[j]'hj)) ∧ OwnDs w B vd l[i].ds ∧ OwnAs w B va l[i].ats
/-- A list of nodes of its own blocks, from block B on. -/
def NsOwn (w : World) (B : Nat) (v : Value) (l : List Nd) : Prop :=
  (l = [] ∧ v = .slice none 0 0) ∨ ∃ g cur, v = .slice (some ⟨g, 0, none⟩) l.length l.length ∧ B ≤ g ∧ w.heap[g]? = some (.cells cur 28 (0, 0)) ∧ cur.size = l.length * 8 ∧ NdsIn w B cur l l.length
theorem NdsIn.later {w w' : World} {B k : Nat} {cur : Array Value} {l : List Nd} (h : NdsIn w B cur l k) (hb : Below w.heap.size w w') : NdsIn w' B cur l k := fun i hi hk => by
  obtain ⟨vd, va, h1, h2, h3⟩ := h i hi hk
  exact ⟨vd, va, h1, OwnSl.later h2 hb, OwnSl.later h3 hb⟩
theorem NdsIn.aside {w w' : World} {B k r : Nat} {cur z : Array Value} {l : List Nd} (h : NdsIn w B cur l k) (hr : w.heap[r]? = some (.cells z 28 (0, 0))) (hoth : ∀ g, g ≠ r → w'.heap[g]? = w.heap[g]?) : NdsIn w' B cur l k := fun i hi hk => by
  obtain ⟨vd, va, h1, h2, h3⟩ := h i hi hk
  exact ⟨vd, va, h1, OwnSl.aside h2 hr (by decide) hoth, OwnSl.aside h3 hr (by decide) hoth⟩
theorem NsOwn.later {w w' : World} {B : Nat} {v : Value} {l : List Nd} (h : NsOwn w B v l) (hb : Below w.heap.size w w') : NsOwn w' B v l := by
  rcases h with h | ⟨g, cur, h1, h2, h3, h4, h5⟩
  · exact .inl h
  · exact .inr ⟨g, cur, h1, h2, (hb.block g (block_lt h3)).trans h3, h4, h5.later hb⟩
theorem NsOwn.mono {w : World} {B B' : Nat} {v : Value} {l : List Nd} (h : NsOwn w B v l) (hb : B' ≤ B) : NsOwn w B' v l := by
  rcases h with h | ⟨g, cur, h1, h2, h3, h4, h5⟩
  · exact .inl h
  · refine .inr ⟨g, cur, h1, by omega, h3, h4, fun i hi hk => ?_⟩
    obtain ⟨vd, va, e1, e2, e3⟩ := h5 i hi hk
    exact ⟨vd, va, e1, OwnSl.mono e2 hb, OwnSl.mono e3 hb⟩
theorem flat_nil {α : Type} {l : List α} {f : α → List Value} (h : l.length = 0) : l.flatMap f = [] := by rw [List.eq_nil_of_length_eq_zero h]; rfl
/-- So it lies there. -/
theorem NsOwn.at {w : World} {B : Nat} {v : Value} {l : List Nd} (h : NsOwn w B v l) (hn : l.length ≤ 2000000) (hs : ∀ x ∈ l, Sm x) : NsAt w w.heap.size v l := by
  rcases h with ⟨rfl, rfl⟩ | ⟨g, cur, rfl, h2, h3, h4, h5⟩
  · exact ⟨none, 0, rfl, Nat.le_refl _, by omega, fun h => absurd rfl h⟩
  · refine ⟨some ⟨g, 0, none⟩, l.length, rfl, Nat.le_refl _, by omega, fun _ => ⟨g, 0, rfl, block_lt h3, fun i hi => ?_⟩⟩
    obtain ⟨vd, va, e1, e2, e3⟩ := h5 i hi hi
    have hx := hs _ (List.getElem_mem hi)
    exact ⟨vd, va, fun j hj => by rw [Nat.zero_add, cell_of_row w g _ _ _ _ h3]; exact e1 j hj, OwnSl.at e2 (by have := hx.nd; omega) flat_nil, OwnSl.at e3 (by have := hx.na; omega) flat_nil⟩
/-- What holds at each round's head. -/
def NcRel (w : World) (g n : Nat) (l : List Nd) (i : Value) (wr : World) : Prop :=
  ∃ (k : Nat) (cur : Array Value), k ≤ n ∧ i = .int .i64 k ∧ wr.heap[g]? = some (.cells cur 28 (0, 0)) ∧ cur.size = n * 8 ∧ NdsIn wr w.heap.size cur l k ∧ Below w.heap.size w wr
theorem nodeInfo : (Tryd.prog.info? 28).map (fun i => (i.zero, i.size, i.bytes)) = some (some (.agg #[.int .i64 0, .int .i64 0, .string ⟨#[]⟩, .string ⟨#[]⟩, .string ⟨#[]⟩, .string ⟨#[]⟩, .slice none 0 0, .slice none 0 0]), 8, 128) := by kernel_rfl
/-- Cells set one behind the other. -/
def setAll (cur : Array Value) (o : Nat) : List Value → Array Value
  | [] => cur
  | u :: us => setAll (cur.setIfInBounds o u) (o + 1) us
theorem setAll_size : ∀ (us : List Value) (cur : Array Value) (o : Nat), (setAll cur o us).size = cur.size
  | [], _, _ => rfl
  | u :: us, cur, o => by rw [setAll, setAll_size us]; simp
theorem setAll_before : ∀ (us : List Value) (cur : Array Value) (o j : Nat), j < o → (setAll cur o us)[j]? = cur[j]?
  | [], _, _, _, _ => rfl
  | u :: us, cur, o, j, h => by
    rw [setAll, setAll_before us _ _ _ (by omega), Array.getElem?_setIfInBounds, if_neg (by omega)]
theorem setAll_at : ∀ (us : List Value) (cur : Array Value) (o j : Nat), o + us.length ≤ cur.size → (hj : j < us.length) → (setAll cur o us)[o + j]? = some us[j]
  | u :: us, cur, o, 0, h, _ => by
    rw [setAll, setAll_before us _ _ _ (by omega), Array.getElem?_setIfInBounds, if_pos (by omega), if_pos (by simp at h; omega)]; rfl
  | u :: us, cur, o, j + 1, h, hj => by
    have := setAll_at us (cur.setIfInBounds o u) (o + 1) j (by simp at h ⊢; omega) (by simpa using hj)
    rw [setAll, show o + (j + 1) = o + 1 + j by omega, this]; rfl
theorem setAll_eight (cur : Array Value) (o : Nat) (v0 v1 v2 v3 v4 v5 v6 v7 : Value) : setAll cur o [v0, v1, v2, v3, v4, v5, v6, v7] = (((((((cur.setIfInBounds o v0).setIfInBounds (o + 1) v1).setIfInBounds (o + 2) v2).setIfInBounds (o + 3) v3).setIfInBounds (o + 4) v4).setIfInBounds (o + 5) v5).setIfInBounds (o + 6) v6).setIfInBounds (o + 7) v7 := rfl
theorem block_eight {w : World} {b o : Nat} {cs : Array Value} {t : TypeId} {fz : Nat × Nat} (v0 v1 v2 v3 v4 v5 v6 v7 : Value) (h : w.heap[b]? = some (.cells cs t fz)) :
    ((((((((w.setCell ⟨b, o, none⟩ v0).setCell ⟨b, o + 1, none⟩ v1).setCell ⟨b, o + 2, none⟩ v2).setCell ⟨b, o + 3, none⟩ v3).setCell ⟨b, o + 4, none⟩ v4).setCell ⟨b, o + 5, none⟩ v5).setCell ⟨b, o + 6, none⟩ v6).setCell ⟨b, o + 7, none⟩ v7).heap[b]? = some (.cells (setAll cs o [v0, v1, v2, v3, v4, v5, v6, v7]) t fz) := by
  rw [setAll_eight]
  exact block_set (block_set (block_set (block_set (block_set (block_set (block_set (block_set h)))))))
theorem other_eight {w : World} {b o g : Nat} (v0 v1 v2 v3 v4 v5 v6 v7 : Value) (hg : g ≠ b) :
    ((((((((w.setCell ⟨b, o, none⟩ v0).setCell ⟨b, o + 1, none⟩ v1).setCell ⟨b, o + 2, none⟩ v2).setCell ⟨b, o + 3, none⟩ v3).setCell ⟨b, o + 4, none⟩ v4).setCell ⟨b, o + 5, none⟩ v5).setCell ⟨b, o + 6, none⟩ v6).setCell ⟨b, o + 7, none⟩ v7).heap[g]? = w.heap[g]? :=
  (Below.heap_setCell _ _ _ _ hg).trans ((Below.heap_setCell _ _ _ _ hg).trans ((Below.heap_setCell _ _ _ _ hg).trans ((Below.heap_setCell _ _ _ _ hg).trans ((Below.heap_setCell _ _ _ _ hg).trans ((Below.heap_setCell _ _ _ _ hg).trans ((Below.heap_setCell _ _ _ _ hg).trans (Below.heap_setCell _ _ _ _ hg)))))))
theorem below_eight {a w : World} {B b o : Nat} (v0 v1 v2 v3 v4 v5 v6 v7 : Value) (h : Below B a w) (hb : B ≤ b) :
    Below B a ((((((((w.setCell ⟨b, o, none⟩ v0).setCell ⟨b, o + 1, none⟩ v1).setCell ⟨b, o + 2, none⟩ v2).setCell ⟨b, o + 3, none⟩ v3).setCell ⟨b, o + 4, none⟩ v4).setCell ⟨b, o + 5, none⟩ v5).setCell ⟨b, o + 6, none⟩ v6).setCell ⟨b, o + 7, none⟩ v7) :=
  (((((((h.setCell (p := ⟨b, o, none⟩) hb v0).setCell (p := ⟨b, o + 1, none⟩) hb v1).setCell (p := ⟨b, o + 2, none⟩) hb v2).setCell (p := ⟨b, o + 3, none⟩) hb v3).setCell (p := ⟨b, o + 4, none⟩) hb v4).setCell (p := ⟨b, o + 5, none⟩) hb v5).setCell (p := ⟨b, o + 6, none⟩) hb v6).setCell (p := ⟨b, o + 7, none⟩) hb v7
theorem NdsIn.more {w : World} {B k : Nat} {cur : Array Value} {l : List Nd} {vd va : Value} (h : NdsIn w B cur l k) (hk : k < l.length) (hs : cur.size = l.length * 8) (h1 : OwnDs w B vd l[k].ds) (h2 : OwnAs w B va l[k].ats) : NdsIn w B (setAll cur (k * 8) (ndC l[k] vd va)) l (k + 1) := fun i hi hik => by
  by_cases he : i = k
  · subst he
    exact ⟨vd, va, fun j hj => setAll_at _ _ _ _ (by rw [hs]; show i * 8 + 8 ≤ _; omega) hj, h1, h2⟩
  · obtain ⟨vd', va', e1, e2, e3⟩ := h i hi (by omega)
    exact ⟨vd', va', fun j hj => by rw [setAll_before _ _ _ _ (by omega)]; exact e1 j hj, e2, e3⟩
set_option maxHeartbeats 16000000 in
theorem ncopies_any (l : List Nd) (v : Value) (w : World) (hv : NsAt w w.heap.size v l) (hn : l.length ≤ 2000000) (hs : ∀ x ∈ l, Sm x) :
    Calls Tryd.prog 15 #[v, .func (.func 16) #[] #[]] w fun e w' => ∃ v', e = .returned v' ∧ NsOwn w' w.heap.size v' l ∧ Below w.heap.size w w' := by
  have HV := Lib.hid hv
  obtain ⟨A, cap, rfl, hc1, hc2⟩ := hv.slice
  obtain ⟨n, hnE⟩ : ∃ n, l.length = n := ⟨_, rfl⟩
  have HN := Lib.hid hnE
  rw [hnE] at hn hc1 ⊢
  clear hnE
  rcases Nat.eq_zero_or_pos n with h0 | h0
  · subst h0
    have HL : Hid (l = []) := List.eq_nil_of_length_eq_zero HN.out
    go_enter Tryd.func15, Tryd.ntmps15
    go_wp2
    go_ret
    exact ⟨_, rfl, .inl ⟨HL.out, rfl⟩, Below.refl _ _⟩
  · obtain ⟨i0, hi, hz0, hz1, hz2⟩ := info_parts nodeInfo
    have hnz : ((n : Int) == 0) = false := by rw [beq_eq_false_iff_ne]; omega
    obtain ⟨M, hM⟩ : ∃ M, M = madeCells (Value.agg #[.int .i64 0, .int .i64 0, .string ⟨#[]⟩, .string ⟨#[]⟩, .string ⟨#[]⟩, .string ⟨#[]⟩, .slice none 0 0, .slice none 0 0]).cells (((n : Nat) : Int).toNat * i0.size) := ⟨_, rfl⟩
    have hMs : M.size = n * 8 := by rw [hM, size_madeCells, hz1]; simp
    have hmk : ∀ W : World, (Instr.makeSlice 22 (.int .i64 (n : Int)) (.int .i64 (n : Int))).run Tryd.prog W = .ok (.slice (some ⟨W.heap.size, 0, none⟩) n n) (W.alloc (.cells M 28)) := fun W => by
      have h := run_make (P := Tryd.prog) W 22 28 i0 _ Tryd.underlying22 hi hz0 .i64 .i64 (n : Int) (n : Int) (by omega) (by omega) (by rw [hz2]; omega) (by omega)
      rw [← hM] at h
      simpa using h
    clear hM
    have HMS := Lib.hid hMs
    clear hMs
    go_enter Tryd.func15, Tryd.ntmps15
    go_wp2
    clear hmk
    go_loopw [16] (NcRel w w.heap.size n l) (fun i _ => n - (intOf i).toNat)
    case atStart => exact ⟨0, M, Nat.zero_le _, rfl, heap_alloc_last w _, HMS.out, fun i _ h => by omega, (Below.refl _ _).alloc (Nat.le_refl _) _⟩
    case round =>
      obtain ⟨k, cur, hk, rfl, hcur, hcs, hin, hb⟩ := hrel
      have HIN := Lib.hid hin
      clear hin
      by_cases hlt : k < n
      · have hkl : k < l.length := by rw [HN.out]; exact hlt
        have hvr := HV.out.below hb
        obtain ⟨b, o, cap', e, _, _, hbB, hnd⟩ := hvr.open (by intro h; rw [h] at hkl; simp at hkl)
        simp only [Value.slice.injEq] at e
        obtain ⟨rfl, _, rfl⟩ := e
        obtain ⟨vd, va, d0, d1, d2, d3, d4, d5, d6, d7, hd, ha⟩ := (hnd k hkl).cells
        have HX : Hid (NdV wr w.heap.size (.agg #[.int .i64 l[k].k, .int .i64 l[k].n, .string l[k].p, .string l[k].l, .string l[k].u, .string l[k].t, vd, va]) l[k]) := ⟨vd, va, rfl, hd, ha⟩
        obtain ⟨A1, c1, rfl, _⟩ := hd
        obtain ⟨A2, c2, rfl, _⟩ := ha
        have hsx := hs _ (List.getElem_mem hkl)
        have HMORE : Hid (∀ y cur', cur'.size = l.length * 8 → NdsIn y w.heap.size cur' l k → ∀ vd va, OwnDs y w.heap.size vd l[k].ds → OwnAs y w.heap.size va l[k].ats → NdsIn y w.heap.size (setAll cur' (k * 8) (ndC l[k] vd va)) l (k + 1)) := fun y cur' h1 h2 vd va h3 h4 => h2.more hkl h1 h3 h4
        have HCP : Hid (∀ w', Below wr.heap.size wr w' → Calls Tryd.prog 16 #[.agg #[.int .i64 l[k].k, .int .i64 l[k].n, .string l[k].p, .string l[k].l, .string l[k].u, .string l[k].t, .slice A1 l[k].ds.length c1, .slice A2 l[k].ats.length c2]] w' fun e w'' => ∃ vd va, e = .returned (.agg #[.int .i64 l[k].k, .int .i64 l[k].n, .string l[k].p, .string l[k].l, .string l[k].u, .string l[k].t, vd, va]) ∧ OwnDs w'' w'.heap.size vd l[k].ds ∧ OwnAs w'' w'.heap.size va l[k].ats ∧ Below w'.heap.size w' w'') := fun w' hb' =>
          nodeCopy_any l[k] _ hsx w' ((HX.out.mono hb.size).later hb')
        have hkz : (k : Int) < (n : Int) := by omega
        generalize l[k] = x at *
        clear hnd hvr
        go_wp2_with fail
        refine (HCP.out _ ((Below.refl _ _).alloc (Nat.le_refl _) _)).mono ?_
        rintro e w1 ⟨vd', va', rfl, ho1, ho2, hb1⟩
        have hbw := below_box hb1
        obtain ⟨A3, c3, rfl⟩ := OwnSl.form ho1
        obtain ⟨A4, c4, rfl⟩ := OwnSl.form ho2
        have hwle : w.heap.size ≤ (wr.alloc (Obj.cells #[.int .i64 x.k, .int .i64 x.n, .string x.p, .string x.l, .string x.u, .string x.t, .slice A1 x.ds.length c1, .slice A2 x.ats.length c2] 28)).heap.size := Nat.le_trans hb.size (by simp)
        have HO1 : Hid (OwnDs w1 w.heap.size (.slice A3 x.ds.length c3) x.ds) := OwnSl.mono ho1 hwle
        have HO2 : Hid (OwnAs w1 w.heap.size (.slice A4 x.ats.length c4) x.ats) := OwnSl.mono ho2 hwle
        have hcur1 : w1.heap[w.heap.size]? = some (.cells cur 28 (0, 0)) := (hbw.block _ (block_lt hcur)).trans hcur
        have hfz : ∀ j, w1.frozen? ⟨w.heap.size, j, none⟩ = false := fun j => by unfold World.frozen?; rw [hcur1]; simp
        have g0 : w1.cell? ⟨w.heap.size, k * 8, none⟩ = some cur[k * 8] := by rw [cell_of_row w1 w.heap.size _ _ _ _ hcur1]; exact Array.getElem?_eq_getElem (by omega)
        have g1 : w1.cell? ⟨w.heap.size, k * 8 + 1, none⟩ = some cur[k * 8 + 1] := by rw [cell_of_row w1 w.heap.size _ _ _ _ hcur1]; exact Array.getElem?_eq_getElem (by omega)
        have g2 : w1.cell? ⟨w.heap.size, k * 8 + 2, none⟩ = some cur[k * 8 + 2] := by rw [cell_of_row w1 w.heap.size _ _ _ _ hcur1]; exact Array.getElem?_eq_getElem (by omega)
        have g3 : w1.cell? ⟨w.heap.size, k * 8 + 3, none⟩ = some cur[k * 8 + 3] := by rw [cell_of_row w1 w.heap.size _ _ _ _ hcur1]; exact Array.getElem?_eq_getElem (by omega)
        have g4 : w1.cell? ⟨w.heap.size, k * 8 + 4, none⟩ = some cur[k * 8 + 4] := by rw [cell_of_row w1 w.heap.size _ _ _ _ hcur1]; exact Array.getElem?_eq_getElem (by omega)
        have g5 : w1.cell? ⟨w.heap.size, k * 8 + 5, none⟩ = some cur[k * 8 + 5] := by rw [cell_of_row w1 w.heap.size _ _ _ _ hcur1]; exact Array.getElem?_eq_getElem (by omega)
        have g6 : w1.cell? ⟨w.heap.size, k * 8 + 6, none⟩ = some cur[k * 8 + 6] := by rw [cell_of_row w1 w.heap.size _ _ _ _ hcur1]; exact Array.getElem?_eq_getElem (by omega)
        have g7 : w1.cell? ⟨w.heap.size, k * 8 + 7, none⟩ = some cur[k * 8 + 7] := by rw [cell_of_row w1 w.heap.size _ _ _ _ hcur1]; exact Array.getElem?_eq_getElem (by omega)
        have HNX : Hid (NcRel w w.heap.size n l (.int .i64 ((k + 1 : Nat) : Int)) (((((((((w1.setCell ⟨w.heap.size, k * 8, none⟩ (.int .i64 x.k)).setCell ⟨w.heap.size, k * 8 + 1, none⟩ (.int .i64 x.n)).setCell ⟨w.heap.size, k * 8 + 2, none⟩ (.string x.p)).setCell ⟨w.heap.size, k * 8 + 3, none⟩ (.string x.l)).setCell ⟨w.heap.size, k * 8 + 4, none⟩ (.string x.u)).setCell ⟨w.heap.size, k * 8 + 5, none⟩ (.string x.t)).setCell ⟨w.heap.size, k * 8 + 6, none⟩ (.slice A3 x.ds.length c3)).setCell ⟨w.heap.size, k * 8 + 7, none⟩ (.slice A4 x.ats.length c4)))) := by
          have hin1 := HIN.out.later hbw
          have hin2 := HMORE.out w1 cur (by rw [HN.out]; exact hcs) hin1 _ _ HO1.out HO2.out
          exact ⟨k + 1, _, hlt, rfl, block_eight _ _ _ _ _ _ _ _ hcur1, by rw [setAll_size]; exact hcs, hin2.aside hcur1 (fun g hg => other_eight _ _ _ _ _ _ _ _ hg), below_eight _ _ _ _ _ _ _ _ (hb.trans (hbw.mono hb.size)) (Nat.le_refl _)⟩
        clear hbw hb1 ho1 ho2 hwle
        go_wp2
        go_roundw
        case rel => exact (show Value.int .i64 ((k + 1 : Nat) : Int) = _ by go_num) ▸ HNX.out
        case measure => simp [intOf]; omega
      · have hkn : k = n := by omega
        subst hkn
        have hkz : ¬ (k : Int) < (k : Int) := by omega
        have HF : Hid (NsOwn wr w.heap.size (.slice (some ⟨w.heap.size, 0, none⟩) k k) l) := .inr ⟨_, cur, by rw [HN.out], Nat.le_refl _, hcur, by rw [HN.out]; exact hcs, by rw [HN.out]; exact HIN.out⟩
        clear hcur
        go_wp2
        go_ret
        exact ⟨_, rfl, HF.out, hb⟩
end Go.Proofs.YtalcmhngebobnaaDoor
namespace Go.Proofs.YtalcmhngebobnaaDoor
open Go.RowKit
set_option linter.unusedVariables false
set_option maxRecDepth 100000
/-- A document in memory: a block that holds a list of its own. -/
def DocAt (w : World) (B d : Nat) (l : List Nd) : Prop := ∃ v, B ≤ d ∧ w.heap[d]? = some (.cells #[v] 46 (0, 0)) ∧ NsOwn w B v l
theorem DocAt.later {w w' : World} {B d : Nat} {l : List Nd} (h : DocAt w B d l) (hb : Below w.heap.size w w') : DocAt w' B d l := by
  obtain ⟨v, h1, h2, h3⟩ := h
  exact ⟨v, h1, (hb.block d (block_lt h2)).trans h2, h3.later hb⟩
/-- What is answered. -/
def OfAns (l : List Nd) (B : Nat) (e : Ending) (w' : World) : Prop :=
  (formedP l = false ∧ e = .returned (.tuple #[.pointer none, .int .i64 2])) ∨ (formedP l = true ∧ withinB l = false ∧ e = .returned (.tuple #[.pointer none, .int .i64 3])) ∨
  (formedP l = true ∧ withinB l = true ∧ ∃ d, e = .returned (.tuple #[.pointer (some ⟨d, 0, none⟩), .int .i64 0]) ∧ DocAt w' B d l)
theorem formed_hung {l : List Nd} (h : formedP l = true) : l ≠ [] ∧ pa l 0 = -1 ∧ Hung l l.length ∧ ∀ i, 1 ≤ i → i < l.length → hangB l i = true := by
  match l, h with
  | x :: r, h =>
    rw [show formedP (x :: r) = (rootB x && (placedB (x :: r) && (r.all nodeB && namesB (x :: r)))) from rfl] at h
    simp only [Bool.and_eq_true] at h
    have hh := placed_hang h.2.1
    exact ⟨by simp, root_pa h.1, fun j h1 h2 => hang_less h1 (hh j h1 h2), hh⟩
set_option maxHeartbeats 8000000 in
theorem of_any (l : List Nd) (v : Value) (w : World) (hv : NsAt w w.heap.size v l) (hlen : l.length ≤ 100000) (hs : ∀ x ∈ l, Sm x) (hW : Wd w) :
    Calls Tryd.prog 6 #[v] w fun e w' => OfAns l w.heap.size e w' ∧ Below w.heap.size w w' := by
  have HF := Lib.hid (formed_any l v w hv hlen hs hW)
  have HWI : Hid (formedP l = true → ∀ w', Below w.heap.size w w' → Calls Tryd.prog 14 #[v] w' fun e w'' => e = .returned (.bool (withinB l)) ∧ Below w'.heap.size w' w'') := fun h w' hb =>
    within_any l v w' (hv.later hb) (by omega) (fun x hx => ⟨(hs x hx).nd, (hs x hx).na⟩) (formed_hung h).2.2.1 (formed_hung h).2.1
  have HC : Hid (∀ w', Below w.heap.size w w' → Calls Tryd.prog 15 #[v, .func (.func 16) #[] #[]] w' fun e w'' => ∃ v', e = .returned v' ∧ NsOwn w'' w'.heap.size v' l ∧ Below w'.heap.size w' w'') := fun w' hb => ncopies_any l v w' (hv.later hb) (by omega) hs
  clear hv hW
  unfold OfAns
  cases hf : formedP l with
  | false =>
    rw [hf] at HF
    clear hf
    go_enter Tryd.func6, Tryd.ntmps6
    go_wp2_with fail
    refine HF.out.mono ?_
    rintro e w1 ⟨rfl, hb1⟩
    go_wp2
    go_ret2
    exact ⟨.inl ⟨by simp, rfl⟩, hb1⟩
  | true =>
    have HWI2 := Lib.hid (HWI.out hf)
    rw [hf] at HF
    clear hf HWI
    cases hw : withinB l with
    | false =>
      rw [hw] at HWI2
      clear hw
      go_enter Tryd.func6, Tryd.ntmps6
      go_wp2_with fail
      refine HF.out.mono ?_
      rintro e w1 ⟨rfl, hb1⟩
      go_wp2_with fail
      refine (HWI2.out w1 hb1).mono ?_
      rintro e w2 ⟨rfl, hb2⟩
      go_wp2
      go_ret2
      exact ⟨.inr (.inl ⟨by simp, by simp, rfl⟩), hb1.trans (hb2.mono hb1.size)⟩
    | true =>
      rw [hw] at HWI2
      clear hw
      go_enter Tryd.func6, Tryd.ntmps6
      go_wp2_with fail
      refine HF.out.mono ?_
      rintro e w1 ⟨rfl, hb1⟩
      go_wp2_with fail
      refine (HWI2.out w1 hb1).mono ?_
      rintro e w2 ⟨rfl, hb2⟩
      have hbw := hb1.trans (hb2.mono hb1.size)
      clear hb1 hb2
      go_wp2_with fail
      refine (HC.out w2 hbw).mono ?_
      rintro e w3 ⟨v', rfl, hown, hb3⟩
      have HO := Lib.hid hown
      obtain ⟨A, n, c, rfl⟩ : ∃ A n c, v' = .slice A n c := by
        rcases hown with ⟨_, rfl⟩ | ⟨g, cur, rfl, _⟩
        · exact ⟨_, _, _, rfl⟩
        · exact ⟨_, _, _, rfl⟩
      have hbw3 := hbw.trans (hb3.mono hbw.size)
      clear hown
      go_wp2
      go_ret2
      refine ⟨.inr (.inr ⟨by simp, by simp, w3.heap.size, rfl, _, Nat.le_trans hbw.size hb3.size, heap_alloc_last w3 _, ?_⟩), hbw3.alloc hbw3.size _⟩
      exact (HO.out.mono hbw.size).later ((Below.refl _ _).alloc (Nat.le_refl _) _)
end Go.Proofs.YtalcmhngebobnaaDoor
