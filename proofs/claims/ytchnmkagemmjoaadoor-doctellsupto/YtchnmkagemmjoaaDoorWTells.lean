/-
  (*Doc).Nodes and Node of a document: copies in new memory. Conditions: the document lies as it is; there are not too many nodes, the texts are not too long.
  apostilleref07.Ints, One and Same, of lists and nodes that are alike: they say so. Conditions: they lie as they are.
  DocNil walked. Conditions: the tables lie as they are laid, internal/bytealg.MaxLen holds some number.
  DocTells walked. Conditions: the list lies as it is, its texts are not too long; the tables lie as they are laid, internal/bytealg.MaxLen holds some number.
-/
import Derived.Test.YtchnmkagemmjoaaDoorREndP
import Derived.Test.YtchnmkagemmjoaaDoorDTwice
import Derived.Test.YtchnmkagemmjoaaDoorDForm
import Derived.Test.YtchnmkagemmjoaaDoorValidParts
import Derived.Deep.QuietTactic
import Derived.StillTailTactics
import Derived.Test.YtchnmkagemmjoaaDoorWForms
import Derived.Test.YtchnmkagemmjoaaDoorDOrders
namespace Go.Proofs.YtchnmkagemmjoaaDoor
open Go.RowKit
set_option linter.unusedVariables false
set_option maxRecDepth 100000
theorem NsOwn.form {w : World} {B : Nat} {v : Value} {l : List Nd} (h : NsOwn w B v l) : ∃ A c, v = .slice A l.length c := by
  rcases h with ⟨rfl, rfl⟩ | ⟨g, cur, rfl, _⟩
  · exact ⟨_, _, rfl⟩
  · exact ⟨_, _, rfl⟩
set_option maxHeartbeats 4000000 in
theorem nodes_doc {B d : Nat} {l : List Nd} (w : World) (h : DocAt w B d l) (hn : l.length ≤ 100000) (hs : ∀ x ∈ l, Sm x) : Calls Tryd.prog 14 #[.pointer (some ⟨d, 0, none⟩)] w fun e w' => ∃ v', e = .returned v' ∧ NsOwn w' w.heap.size v' l ∧ Below w.heap.size w w' := by
  obtain ⟨v, hc, hv, _⟩ := h.list hn hs
  have HL := Lib.hid (list_doc d v w hc)
  have HC := Lib.hid (ncopies_any l v w hv (by omega) hs)
  obtain ⟨A, cap, rfl, _, _⟩ := hv.slice
  clear hc hv h
  go_enter Tryd.func14, Tryd.ntmps14
  go_wp2_with fail
  refine HL.out.mono ?_
  rintro e w1 ⟨rfl, hw⟩
  rw [hw]
  clear hw
  go_wp2_with fail
  refine HC.out.mono ?_
  rintro e w2 ⟨v', rfl, ho, hb⟩
  have HO := Lib.hid ho
  obtain ⟨A', c', rfl⟩ := ho.form
  clear ho
  go_wp2
  go_ret
  exact ⟨_, rfl, HO.out, hb⟩
/-- The eight cells of a block, set one behind the other. -/
theorem eight_zero {w2 : World} {b : Nat} {cs : Array Value} {t : TypeId} {fz : Nat × Nat} (v0 v1 v2 v3 v4 v5 v6 v7 : Value) (h : w2.heap[b]? = some (.cells cs t fz)) (h8 : cs.size = 8) :
    ∃ W8, W8 = ((((((((w2.setCell ⟨b, 0, none⟩ v0).setCell ⟨b, 1, none⟩ v1).setCell ⟨b, 2, none⟩ v2).setCell ⟨b, 3, none⟩ v3).setCell ⟨b, 4, none⟩ v4).setCell ⟨b, 5, none⟩ v5).setCell ⟨b, 6, none⟩ v6).setCell ⟨b, 7, none⟩ v7) ∧ (∀ g, g ≠ b → W8.heap[g]? = w2.heap[g]?) ∧ (∀ (B : Nat) (a : World), Below B a w2 → B ≤ b → Below B a W8) ∧ W8.cell? ⟨b, 0, none⟩ = some v0 ∧ W8.cell? ⟨b, 1, none⟩ = some v1 ∧ W8.cell? ⟨b, 2, none⟩ = some v2 ∧ W8.cell? ⟨b, 3, none⟩ = some v3 ∧ W8.cell? ⟨b, 4, none⟩ = some v4 ∧ W8.cell? ⟨b, 5, none⟩ = some v5 ∧ W8.cell? ⟨b, 6, none⟩ = some v6 ∧ W8.cell? ⟨b, 7, none⟩ = some v7 := by
  have hb : (((((((((w2.setCell ⟨b, 0, none⟩ v0).setCell ⟨b, 1, none⟩ v1).setCell ⟨b, 2, none⟩ v2).setCell ⟨b, 3, none⟩ v3).setCell ⟨b, 4, none⟩ v4).setCell ⟨b, 5, none⟩ v5).setCell ⟨b, 6, none⟩ v6).setCell ⟨b, 7, none⟩ v7)).heap[b]? = some (.cells ((((((((cs.setIfInBounds 0 v0).setIfInBounds 1 v1).setIfInBounds 2 v2).setIfInBounds 3 v3).setIfInBounds 4 v4).setIfInBounds 5 v5).setIfInBounds 6 v6).setIfInBounds 7 v7) t fz) := (block_set (block_set (block_set (block_set (block_set (block_set (block_set (block_set h))))))))
  refine ⟨_, rfl, fun g hg => ((Below.heap_setCell _ _ _ _ hg).trans ((Below.heap_setCell _ _ _ _ hg).trans ((Below.heap_setCell _ _ _ _ hg).trans ((Below.heap_setCell _ _ _ _ hg).trans ((Below.heap_setCell _ _ _ _ hg).trans ((Below.heap_setCell _ _ _ _ hg).trans ((Below.heap_setCell _ _ _ _ hg).trans ((Below.heap_setCell _ _ _ _ hg).trans rfl)))))))), fun B a hB hle => ((((((((hB.setCell (p := ⟨b, 0, none⟩) hle v0).setCell (p := ⟨b, 1, none⟩) hle v1).setCell (p := ⟨b, 2, none⟩) hle v2).setCell (p := ⟨b, 3, none⟩) hle v3).setCell (p := ⟨b, 4, none⟩) hle v4).setCell (p := ⟨b, 5, none⟩) hle v5).setCell (p := ⟨b, 6, none⟩) hle v6).setCell (p := ⟨b, 7, none⟩) hle v7), ?_⟩
  have hc := fun j => cell_of_row _ b j _ _ _ hb
  refine ⟨?_, ?_, ?_, ?_, ?_, ?_, ?_, ?_⟩ <;> rw [hc] <;> simp [h8]
set_option maxHeartbeats 8000000 in
theorem node_doc {B d : Nat} {l : List Nd} (n : Nat) (w : World) (h : DocAt w B d l) (hn : l.length ≤ 100000) (hs : ∀ x ∈ l, Sm x) (hnl : n < l.length) : Calls Tryd.prog 19 #[.pointer (some ⟨d, 0, none⟩), .int .i64 (n : Int)] w fun e w' => ∃ vd va, e = .returned (.agg #[.int .i64 l[n].k, .int .i64 l[n].n, .string l[n].p, .string l[n].l, .string l[n].u, .string l[n].t, vd, va]) ∧ OwnDs w' w.heap.size vd l[n].ds ∧ OwnAs w' w.heap.size va l[n].ats ∧ Below w.heap.size w w' := by
  have HH : Hid (∀ w', Below w.heap.size w w' → Calls Tryd.prog 36 #[.pointer (some ⟨d, 0, none⟩), .int .i64 (n : Int)] w' fun e w'' => e = .returned (.bool true) ∧ w'' = w') := fun w' hb => by
    have := has_doc (n : Int) w' (h.later hb) hn hs
    rw [decide_eq_true (by omega)] at this
    exact this
  obtain ⟨v, hc, hv, hd⟩ := h.list hn hs
  obtain ⟨b, o, cap, rfl, hc1, hc2, hbB, hnd⟩ := hv.open (by intro h; rw [h] at hnl; simp at hnl)
  obtain ⟨vd, va, d0, d1, d2, d3, d4, d5, d6, d7, hds, has⟩ := (hnd n hnl).cells
  have HX : Hid (NdV w w.heap.size (.agg #[.int .i64 l[n].k, .int .i64 l[n].n, .string l[n].p, .string l[n].l, .string l[n].u, .string l[n].t, vd, va]) l[n]) := ⟨vd, va, rfl, hds, has⟩
  obtain ⟨A1, c1, rfl, _⟩ := hds
  obtain ⟨A2, c2, rfl, _⟩ := has
  have hsx := hs _ (List.getElem_mem hnl)
  have HCP : Hid (∀ w', Below w.heap.size w w' → Calls Tryd.prog 32 #[.agg #[.int .i64 l[n].k, .int .i64 l[n].n, .string l[n].p, .string l[n].l, .string l[n].u, .string l[n].t, .slice A1 l[n].ds.length c1, .slice A2 l[n].ats.length c2]] w' fun e w'' => ∃ vd va, e = .returned (.agg #[.int .i64 l[n].k, .int .i64 l[n].n, .string l[n].p, .string l[n].l, .string l[n].u, .string l[n].t, vd, va]) ∧ OwnDs w'' w'.heap.size vd l[n].ds ∧ OwnAs w'' w'.heap.size va l[n].ats ∧ Below w'.heap.size w' w'') := fun w' hb' =>
    nodeCopy_any l[n] _ hsx w' (HX.out.later hb')
  obtain ⟨m, hmE⟩ : ∃ m, l.length = m := ⟨_, rfl⟩
  rw [hmE] at hn hc1 hnl hc
  generalize l[n] = x at *
  clear hnd hv h hmE
  go_enter Tryd.func19, Tryd.ntmps19
  go_wp2_with fail
  refine (HH.out _ (by first | exact Below.refl _ _ | exact (Below.refl _ _).alloc (Nat.le_refl _) _)).mono ?_
  rintro e w1 ⟨rfl, hw⟩
  rw [hw]
  clear hw
  go_wp2_with fail
  refine (HCP.out _ (by first | exact Below.refl _ _ | exact (Below.refl _ _).alloc (Nat.le_refl _) _)).mono ?_
  rintro e w2 ⟨vd', va', rfl, ho1, ho2, hb1⟩
  obtain ⟨A3, c3, rfl⟩ := OwnSl.form ho1
  obtain ⟨A4, c4, rfl⟩ := OwnSl.form ho2
  have HO1 : Hid (OwnDs w2 w.heap.size (.slice A3 x.ds.length c3) x.ds) := OwnSl.mono ho1 (by simp)
  have HO2 : Hid (OwnAs w2 w.heap.size (.slice A4 x.ats.length c4) x.ats) := OwnSl.mono ho2 (by simp)
  have hbw := below_box hb1
  have hcur : w2.heap[w.heap.size]? = some (.cells #[.int .i64 0, .int .i64 0, .string ⟨#[]⟩, .string ⟨#[]⟩, .string ⟨#[]⟩, .string ⟨#[]⟩, .slice none 0 0, .slice none 0 0] 38 (0, 0)) := (hb1.block _ (by simp)).trans (heap_alloc_last w _)
  have hfz : ∀ j, w2.frozen? ⟨w.heap.size, j, none⟩ = false := fun j => by unfold World.frozen?; rw [hcur]; simp
  have g0 : w2.cell? ⟨w.heap.size, 0, none⟩ = some (.int .i64 0) := by rw [cell_of_row w2 w.heap.size _ _ _ _ hcur]; rfl
  have g1 : w2.cell? ⟨w.heap.size, 1, none⟩ = some (.int .i64 0) := by rw [cell_of_row w2 w.heap.size _ _ _ _ hcur]; rfl
  have g2 : w2.cell? ⟨w.heap.size, 2, none⟩ = some (.string ⟨#[]⟩) := by rw [cell_of_row w2 w.heap.size _ _ _ _ hcur]; rfl
  have g3 : w2.cell? ⟨w.heap.size, 3, none⟩ = some (.string ⟨#[]⟩) := by rw [cell_of_row w2 w.heap.size _ _ _ _ hcur]; rfl
  have g4 : w2.cell? ⟨w.heap.size, 4, none⟩ = some (.string ⟨#[]⟩) := by rw [cell_of_row w2 w.heap.size _ _ _ _ hcur]; rfl
  have g5 : w2.cell? ⟨w.heap.size, 5, none⟩ = some (.string ⟨#[]⟩) := by rw [cell_of_row w2 w.heap.size _ _ _ _ hcur]; rfl
  have g6 : w2.cell? ⟨w.heap.size, 6, none⟩ = some (.slice none 0 0) := by rw [cell_of_row w2 w.heap.size _ _ _ _ hcur]; rfl
  have g7 : w2.cell? ⟨w.heap.size, 7, none⟩ = some (.slice none 0 0) := by rw [cell_of_row w2 w.heap.size _ _ _ _ hcur]; rfl
  obtain ⟨W8, hW8, hoth, hbel, q0, q1, q2, q3, q4, q5, q6, q7⟩ := eight_zero (.int .i64 x.k) (.int .i64 x.n) (.string x.p) (.string x.l) (.string x.u) (.string x.t) (.slice A3 x.ds.length c3) (.slice A4 x.ats.length c4) hcur rfl
  have HO8 : Hid (OwnDs W8 w.heap.size (.slice A3 x.ds.length c3) x.ds) := OwnSl.aside HO1.out hcur (by decide) hoth
  have HA8 : Hid (OwnAs W8 w.heap.size (.slice A4 x.ats.length c4) x.ats) := OwnSl.aside HO2.out hcur (by decide) hoth
  have HB8 : Hid (Below w.heap.size w W8) := hbel _ _ hbw (Nat.le_refl _)
  have HW8 := Lib.hid hW8
  clear ho1 ho2 hcur hbw hb1 hW8 hoth hbel
  go_wp2
  rw [← HW8.out]
  refine bodyPost_ret (v := .agg #[.int .i64 x.k, .int .i64 x.n, .string x.p, .string x.l, .string x.u, .string x.t, .slice A3 x.ds.length c3, .slice A4 x.ats.length c4]) (by simp [results, Tryd.results19, go_sem, q0, q1, q2, q3, q4, q5, q6, q7]) rfl ⟨_, _, rfl, HO8.out, HA8.out, HB8.out⟩
end Go.Proofs.YtchnmkagemmjoaaDoor
namespace Go.Proofs.YtchnmkagemmjoaaDoor
open Go.RowKit
set_option linter.unusedVariables false
set_option maxRecDepth 100000
/-- What holds at each round's head. -/
def InsRel (w : World) (n : Nat) (i : Value) (wr : World) : Prop := ∃ k : Nat, k ≤ n ∧ i = .int .i64 k ∧ Below w.heap.size w wr
set_option maxHeartbeats 8000000 in
theorem ints_any (L : List Int) (A1 A2 : Option Addr) (c1 c2 : Nat) (w : World) (h1 : Lies w w.heap.size A1 (i64c L)) (h2 : Lies w w.heap.size A2 (i64c L)) (hl1 : L.length ≤ c1) (hc1 : c1 ≤ 9223372036854775807) (hl2 : L.length ≤ c2) (hc2 : c2 ≤ 9223372036854775807) :
    Calls Tryd.prog 20 #[.slice A1 L.length c1, .slice A2 L.length c2] w fun e w' => e = .returned (.bool true) ∧ Below w.heap.size w w' := by
  have H1 := Lib.hid h1
  have H2 := Lib.hid h2
  obtain ⟨n, hnE⟩ : ∃ n, L.length = n := ⟨_, rfl⟩
  have HN := Lib.hid hnE
  rw [hnE] at hl1 hl2 ⊢
  have hnn : ((n : Int) != (n : Int)) = false := by simp
  clear h1 h2 hnE
  go_enter Tryd.func20, Tryd.ntmps20
  go_wp2
  go_loopw [13] (InsRel w n) (fun i _ => n - (intOf i).toNat)
  case atStart => exact ⟨0, Nat.zero_le _, rfl, Below.refl _ _⟩
  case round =>
    obtain ⟨k, hk, rfl, hb⟩ := hrel
    by_cases hlt : k < n
    · have hkl : k < L.length := by rw [HN.out]; exact hlt
      have hki : k < (i64c L).length := by rw [i64c_length]; exact hkl
      obtain ⟨b1, o1, rfl, hB1, hc1'⟩ := H1.out (by intro h; rw [h] at hki; simp at hki)
      obtain ⟨b2, o2, rfl, hB2, hc2'⟩ := H2.out (by intro h; rw [h] at hki; simp at hki)
      have d1 : wr.cell? ⟨b1, o1 + k, none⟩ = some (.int .i64 L[k]) := by
        have := (hb.cell (p := ⟨b1, o1 + k, none⟩) hB1).trans (hc1' k hki)
        simpa [i64c] using this
      have d2 : wr.cell? ⟨b2, o2 + k, none⟩ = some (.int .i64 L[k]) := by
        have := (hb.cell (p := ⟨b2, o2 + k, none⟩) hB2).trans (hc2' k hki)
        simpa [i64c] using this
      clear hc1' hc2' hki
      generalize L[k] = z at *
      have hzz : (z != z) = false := by simp
      have hkz : (k : Int) < (n : Int) := by omega
      go_wp2_with fail
      go_quiet (fail)
      go_wp2
      go_roundw
      case rel => exact ⟨k + 1, hlt, by go_num, drewN_below hb _⟩
      case measure => simp [intOf]; omega
    · have hkz : ¬ (k : Int) < (n : Int) := by omega
      go_wp2
      go_ret
      exact ⟨rfl, hb⟩
theorem two_boxes (w : World) (C1 C2 : Array Value) (t1 t2 : TypeId) (z1 z2 : Nat × Nat) (j : Nat) : ((w.alloc (.cells C1 t1 z1)).alloc (.cells C2 t2 z2)).cell? ⟨w.heap.size, j, none⟩ = C1[j]? ∧ ((w.alloc (.cells C1 t1 z1)).alloc (.cells C2 t2 z2)).cell? ⟨w.heap.size + 1, j, none⟩ = C2[j]? := by
  have h2 := heap_alloc_last (w.alloc (.cells C1 t1 z1)) (.cells C2 t2 z2)
  rw [show (w.alloc (.cells C1 t1 z1)).heap.size = w.heap.size + 1 by simp] at h2
  refine ⟨?_, cell_of_row _ (w.heap.size + 1) j _ _ _ h2⟩
  have hb : Below (w.alloc (.cells C1 t1 z1)).heap.size (w.alloc (.cells C1 t1 z1)) ((w.alloc (.cells C1 t1 z1)).alloc (.cells C2 t2 z2)) := (Below.refl _ _).alloc (Nat.le_refl _) _
  rw [hb.cell (p := ⟨w.heap.size, j, none⟩) (by simp)]
  exact cell_of_row _ w.heap.size j _ _ _ (heap_alloc_last w _)
/-- What holds at each round's head: the two nodes' lists lie in their boxes. -/
def OnRel (w : World) (n : Nat) (vd va vd' va' : Value) (i : Value) (wr : World) : Prop := ∃ k : Nat, k ≤ n ∧ i = .int .i64 k ∧ wr.cell? ⟨w.heap.size, 6, none⟩ = some vd ∧ wr.cell? ⟨w.heap.size, 7, none⟩ = some va ∧ wr.cell? ⟨w.heap.size + 1, 6, none⟩ = some vd' ∧ wr.cell? ⟨w.heap.size + 1, 7, none⟩ = some va' ∧ Below w.heap.size w wr
/-- What holds at each round's head of the second rounds. -/
def On2Rel (w : World) (n : Nat) (va va' : Value) (i : Value) (wr : World) : Prop := ∃ k : Nat, k ≤ n ∧ i = .int .i64 k ∧ wr.cell? ⟨w.heap.size, 7, none⟩ = some va ∧ wr.cell? ⟨w.heap.size + 1, 7, none⟩ = some va' ∧ Below w.heap.size w wr
set_option maxHeartbeats 8000000 in
theorem one_any (x : Nd) (va vb : Value) (w : World) (ha : NdV w w.heap.size va x) (hb : NdV w w.heap.size vb x) :
    Calls Tryd.prog 18 #[va, vb] w fun e w' => e = .returned (.bool true) ∧ Below w.heap.size w w' := by
  obtain ⟨d1, a1, rfl, hd1, ha1⟩ := ha
  obtain ⟨d2, a2, rfl, hd2, ha2⟩ := hb
  have HD1 := Lib.hid hd1
  have HD2 := Lib.hid hd2
  have HA1 := Lib.hid ha1
  have HA2 := Lib.hid ha2
  obtain ⟨D1, e1, rfl, _, _, _⟩ := hd1
  obtain ⟨D2, e2, rfl, _, _, _⟩ := hd2
  obtain ⟨T1, f1, rfl, _, _, _⟩ := ha1
  obtain ⟨T2, f2, rfl, _, _, _⟩ := ha2
  obtain ⟨nd, hnd⟩ : ∃ n, x.ds.length = n := ⟨_, rfl⟩
  obtain ⟨na, hna⟩ : ∃ n, x.ats.length = n := ⟨_, rfl⟩
  have HND := Lib.hid hnd
  have HNA := Lib.hid hna
  rw [hnd, hna]
  have t1 : (x.k != x.k) = false := by simp
  have t2 : (x.n != x.n) = false := by simp
  have t3 : ((nd : Int) != (nd : Int)) = false := by simp
  have t4 : ((na : Int) != (na : Int)) = false := by simp
  clear hnd hna
  go_enter Tryd.func18, Tryd.ntmps18
  go_wp2
  go_loopw [68] (OnRel w nd (.slice D1 nd e1) (.slice T1 na f1) (.slice D2 nd e2) (.slice T2 na f2)) (fun i _ => nd - (intOf i).toNat)
  case atStart => exact ⟨0, Nat.zero_le _, rfl, (two_boxes _ _ _ _ _ _ _ 6).1, (two_boxes _ _ _ _ _ _ _ 7).1, (two_boxes _ _ _ _ _ _ _ 6).2, (two_boxes _ _ _ _ _ _ _ 7).2, ((Below.refl _ _).alloc (Nat.le_refl _) _).alloc (by simp) _⟩
  case round =>
    obtain ⟨k, hk, rfl, q1, q2, q3, q4, hb⟩ := hrel
    by_cases hlt : k < nd
    · have hkl : k < x.ds.length := by rw [HND.out]; exact hlt
      obtain ⟨b1, o1, cap1, r1, _, _, hB1, hc1⟩ := HD1.out.open (by omega)
      obtain ⟨b2, o2, cap2, r2, _, _, hB2, hc2⟩ := HD2.out.open (by omega)
      rw [HND.out] at r1 r2
      simp only [Value.slice.injEq] at r1 r2
      obtain ⟨rfl, _, rfl⟩ := r1
      obtain ⟨rfl, _, rfl⟩ := r2
      obtain ⟨m1, m2⟩ := hc1 k hkl
      obtain ⟨m3, m4⟩ := hc2 k hkl
      replace m1 := (hb.cell (p := ⟨b1, o1 + k * 2, none⟩) hB1).trans m1
      replace m2 := (hb.cell (p := ⟨b1, o1 + k * 2 + 1, none⟩) hB1).trans m2
      replace m3 := (hb.cell (p := ⟨b2, o2 + k * 2, none⟩) hB2).trans m3
      replace m4 := (hb.cell (p := ⟨b2, o2 + k * 2 + 1, none⟩) hB2).trans m4
      clear hc1 hc2
      generalize x.ds[k] = y at *
      obtain ⟨P, U⟩ := y
      dsimp only at m1 m2 m3 m4
      have hkz : (k : Int) < (nd : Int) := by omega
      go_wp2_with fail
      go_quiet (fail)
      go_wp2
      go_roundw
      case rel => exact ⟨k + 1, hlt, by go_num, q1, q2, q3, q4, drewN_below hb _⟩
      case measure => simp [intOf]; omega
    · have hkz : ¬ (k : Int) < (nd : Int) := by omega
      clear q1 q3
      go_wp2
      go_loopw [86] (On2Rel w na (.slice T1 na f1) (.slice T2 na f2)) (fun i _ => na - (intOf i).toNat)
      case atStart => exact ⟨0, Nat.zero_le _, rfl, q2, q4, hb⟩
      case round =>
        clear hb q2 q4 hkz hlt hk
        obtain ⟨k, hk, rfl, q2, q4, hb⟩ := hrel
        by_cases hlt : k < na
        · have hkl : k < x.ats.length := by rw [HNA.out]; exact hlt
          obtain ⟨b1, o1, cap1, r1, _, _, hB1, hc1⟩ := HA1.out.open (by omega)
          obtain ⟨b2, o2, cap2, r2, _, _, hB2, hc2⟩ := HA2.out.open (by omega)
          rw [HNA.out] at r1 r2
          simp only [Value.slice.injEq] at r1 r2
          obtain ⟨rfl, _, rfl⟩ := r1
          obtain ⟨rfl, _, rfl⟩ := r2
          obtain ⟨m1, m2, m3, m4⟩ := hc1 k hkl
          obtain ⟨m5, m6, m7, m8⟩ := hc2 k hkl
          replace m1 := (hb.cell (p := ⟨b1, o1 + k * 4, none⟩) hB1).trans m1
          replace m2 := (hb.cell (p := ⟨b1, o1 + k * 4 + 1, none⟩) hB1).trans m2
          replace m3 := (hb.cell (p := ⟨b1, o1 + k * 4 + 2, none⟩) hB1).trans m3
          replace m4 := (hb.cell (p := ⟨b1, o1 + k * 4 + 3, none⟩) hB1).trans m4
          replace m5 := (hb.cell (p := ⟨b2, o2 + k * 4, none⟩) hB2).trans m5
          replace m6 := (hb.cell (p := ⟨b2, o2 + k * 4 + 1, none⟩) hB2).trans m6
          replace m7 := (hb.cell (p := ⟨b2, o2 + k * 4 + 2, none⟩) hB2).trans m7
          replace m8 := (hb.cell (p := ⟨b2, o2 + k * 4 + 3, none⟩) hB2).trans m8
          clear hc1 hc2
          generalize x.ats[k] = y at *
          obtain ⟨P, L, U, V⟩ := y
          dsimp only at m1 m2 m3 m4 m5 m6 m7 m8
          have hkz : (k : Int) < (na : Int) := by omega
          go_wp2_with fail
          go_quiet (fail)
          go_wp2
          go_roundw
          case rel => exact ⟨k + 1, hlt, by go_num, q2, q4, drewN_below hb _⟩
          case measure => simp [intOf]; omega
        · have hkz : ¬ (k : Int) < (na : Int) := by omega
          go_wp2
          go_ret
          exact ⟨rfl, hb⟩
/-- What holds at each round's head. -/
def SmRel (w : World) (n : Nat) (i : Value) (wr : World) : Prop := ∃ k : Nat, k ≤ n ∧ i = .int .i64 k ∧ Below w.heap.size w wr
set_option maxHeartbeats 8000000 in
theorem same_any (l : List Nd) (v1 v2 : Value) (w : World) (h1 : NsAt w w.heap.size v1 l) (h2 : NsAt w w.heap.size v2 l) :
    Calls Tryd.prog 17 #[v1, v2] w fun e w' => e = .returned (.bool true) ∧ Below w.heap.size w w' := by
  have HO : Hid (∀ x wr va vb, Below w.heap.size w wr → NdV w w.heap.size va x → NdV w w.heap.size vb x → Calls Tryd.prog 18 #[va, vb] wr fun e w' => e = .returned (.bool true) ∧ Below wr.heap.size wr w') := fun x wr va vb hb ha hb' => one_any x va vb wr (ha.later hb) (hb'.later hb)
  have H1 := Lib.hid h1
  have H2 := Lib.hid h2
  obtain ⟨A1, c1, rfl, hl1, hm1⟩ := h1.slice
  obtain ⟨A2, c2, rfl, hl2, hm2⟩ := h2.slice
  obtain ⟨n, hnE⟩ : ∃ n, l.length = n := ⟨_, rfl⟩
  have HN := Lib.hid hnE
  rw [hnE] at hl1 hl2 ⊢
  have hnn : ((n : Int) != (n : Int)) = false := by simp
  clear h1 h2 hnE
  go_enter Tryd.func17, Tryd.ntmps17
  go_wp2
  go_loopw [13] (SmRel w n) (fun i _ => n - (intOf i).toNat)
  case atStart => exact ⟨0, Nat.zero_le _, rfl, Below.refl _ _⟩
  case round =>
    obtain ⟨k, hk, rfl, hb⟩ := hrel
    by_cases hlt : k < n
    · have hkl : k < l.length := by rw [HN.out]; exact hlt
      obtain ⟨b1, o1, cap1, r1, _, _, hB1, hnd1⟩ := H1.out.open (by intro h; rw [h] at hkl; simp at hkl)
      obtain ⟨b2, o2, cap2, r2, _, _, hB2, hnd2⟩ := H2.out.open (by intro h; rw [h] at hkl; simp at hkl)
      simp only [Value.slice.injEq] at r1 r2
      obtain ⟨rfl, _, rfl⟩ := r1
      obtain ⟨rfl, _, rfl⟩ := r2
      obtain ⟨vd, va, m0, m1, m2, m3, m4, m5, m6, m7, hds, has⟩ := (hnd1 k hkl).cells
      obtain ⟨vd', va', p0, p1, p2, p3, p4, p5, p6, p7, hds', has'⟩ := (hnd2 k hkl).cells
      have HC : Hid (∀ wr, Below w.heap.size w wr → Calls Tryd.prog 18 #[.agg #[.int .i64 l[k].k, .int .i64 l[k].n, .string l[k].p, .string l[k].l, .string l[k].u, .string l[k].t, vd, va], .agg #[.int .i64 l[k].k, .int .i64 l[k].n, .string l[k].p, .string l[k].l, .string l[k].u, .string l[k].t, vd', va']] wr fun e w' => e = .returned (.bool true) ∧ Below wr.heap.size wr w') := fun wr hb => HO.out l[k] wr _ _ hb ⟨vd, va, rfl, hds, has⟩ ⟨vd', va', rfl, hds', has'⟩
      obtain ⟨T1, f1, rfl, -⟩ := hds
      obtain ⟨T2, f2, rfl, -⟩ := has
      obtain ⟨T3, f3, rfl, -⟩ := hds'
      obtain ⟨T4, f4, rfl, -⟩ := has'
      replace m0 := (hb.cell (p := ⟨b1, o1 + k * 8, none⟩) hB1).trans m0
      replace m1 := (hb.cell (p := ⟨b1, o1 + k * 8 + 1, none⟩) hB1).trans m1
      replace m2 := (hb.cell (p := ⟨b1, o1 + k * 8 + 2, none⟩) hB1).trans m2
      replace m3 := (hb.cell (p := ⟨b1, o1 + k * 8 + 3, none⟩) hB1).trans m3
      replace m4 := (hb.cell (p := ⟨b1, o1 + k * 8 + 4, none⟩) hB1).trans m4
      replace m5 := (hb.cell (p := ⟨b1, o1 + k * 8 + 5, none⟩) hB1).trans m5
      replace m6 := (hb.cell (p := ⟨b1, o1 + k * 8 + 6, none⟩) hB1).trans m6
      replace m7 := (hb.cell (p := ⟨b1, o1 + k * 8 + 7, none⟩) hB1).trans m7
      replace p0 := (hb.cell (p := ⟨b2, o2 + k * 8, none⟩) hB2).trans p0
      replace p1 := (hb.cell (p := ⟨b2, o2 + k * 8 + 1, none⟩) hB2).trans p1
      replace p2 := (hb.cell (p := ⟨b2, o2 + k * 8 + 2, none⟩) hB2).trans p2
      replace p3 := (hb.cell (p := ⟨b2, o2 + k * 8 + 3, none⟩) hB2).trans p3
      replace p4 := (hb.cell (p := ⟨b2, o2 + k * 8 + 4, none⟩) hB2).trans p4
      replace p5 := (hb.cell (p := ⟨b2, o2 + k * 8 + 5, none⟩) hB2).trans p5
      replace p6 := (hb.cell (p := ⟨b2, o2 + k * 8 + 6, none⟩) hB2).trans p6
      replace p7 := (hb.cell (p := ⟨b2, o2 + k * 8 + 7, none⟩) hB2).trans p7
      generalize l[k] = x at *
      clear hnd1 hnd2
      have hkz : (k : Int) < (n : Int) := by omega
      go_wp2_with fail
      go_still_tail 8, (by kernel_rfl)
      change wpList _ _ _ _ _ wr.drew
      have hbd : Below w.heap.size w wr.drew := drewN_below hb 1
      generalize wr.drew = w2 at *
      clear m0 m1 m2 m3 m4 m5 m6 m7 p0 p1 p2 p3 p4 p5 p6 p7 hb
      go_wp2_with fail
      refine (HC.out _ hbd).mono ?_
      rintro e w3 ⟨rfl, hb3⟩
      go_wp2
      go_roundw
      case rel => exact ⟨k + 1, hlt, by go_num, hbd.trans (hb3.mono hbd.size)⟩
      case measure => simp [intOf]; omega
    · have hkz : ¬ (k : Int) < (n : Int) := by omega
      go_wp2
      go_ret
      exact ⟨rfl, hb⟩
end Go.Proofs.YtchnmkagemmjoaaDoor
namespace Go.Proofs.YtchnmkagemmjoaaDoor
open Go.RowKit
set_option linter.unusedVariables false
set_option maxRecDepth 100000
set_option maxHeartbeats 8000000 in
theorem one_zero (w : World) : Calls Tryd.prog 18 #[zeroN, zeroN] w fun e w' => e = .returned (.bool true) ∧ Below w.heap.size w w' := by
  unfold zeroN
  go_enter Tryd.func18, Tryd.ntmps18
  go_wp2
  refine wp_loop_rounds 1 ?_
  rw [rounds_succ]
  go_wp2
  refine wp_loop_rounds 1 ?_
  rw [rounds_succ]
  go_wp2
  go_ret
  exact ⟨rfl, ((Below.refl _ _).alloc (Nat.le_refl _) _).alloc (by simp) _⟩
set_option maxHeartbeats 8000000 in
theorem nil_law (z : Int) (w : World) (hW : Wd w) : Calls Tryd.prog 6 #[.int .i64 z] w fun e w' => e = .returned (.bool true) ∧ Below w.heap.size w w' := by
  have HA := Lib.hid (awake_any w hW)
  have HH : ∀ w, Hid (Calls Tryd.prog 36 #[.pointer none, .int .i64 z] w fun e w' => e = .returned (.bool false) ∧ w' = w) := fun w => has_nil z w
  have HN := Lib.hid (fun w => node_none (.pointer none) z w HH)
  have HE := Lib.hid (fun w => end_none (.pointer none) z w (HH w))
  have HK := Lib.hid (fun w => kids_none (.pointer none) z w (HH w))
  have HU := Lib.hid (fun w => up_none (.pointer none) z w (HH w))
  have HL := Lib.hid (fun w => len_nil w)
  have HT := Lib.hid (fun w => top_nil w)
  have HO := Lib.hid (fun w => one_zero w)
  have HNS := Lib.hid (fun w => nodes_nil w)
  have hzn : (Value.agg #[.int .i64 0, .int .i64 0, .string ⟨#[]⟩, .string ⟨#[]⟩, .string ⟨#[]⟩, .string ⟨#[]⟩, .slice none 0 0, .slice none 0 0]) = zeroN := rfl
  unfold zeroN at HN HO
  clear hW HH
  go_enter Tryd.func6, Tryd.ntmps6
  go_wp2_with fail
  refine HA.out.mono ?_
  rintro e w1 ⟨rfl, hb1⟩
  clear hzn
  go_wp2_with fail
  refine (HL.out w1).mono ?_
  rintro e w2 ⟨rfl, hw⟩
  rw [hw]
  clear hw
  go_wp2_with fail
  refine (HT.out w1).mono ?_
  rintro e w3 ⟨rfl, hb3⟩
  have hbw := hb1.trans (hb3.mono hb1.size)
  go_wp2_with fail
  refine (HN.out w3).mono ?_
  rintro e w4 ⟨rfl, hb4⟩
  have hbw4 := hbw.trans (hb4.mono hbw.size)
  go_wp2_with fail
  refine (HO.out w4).mono ?_
  rintro e w5 ⟨rfl, hb5⟩
  have hbw5 := hbw4.trans (hb5.mono hbw4.size)
  clear hb1 hb3 hb4 hb5 hbw hbw4
  go_wp2_with fail
  refine (HK.out w5).mono ?_
  rintro e w6 ⟨rfl, hw⟩
  rw [hw]
  clear hw
  go_wp2_with fail
  refine (HU.out w5).mono ?_
  rintro e w6 ⟨rfl, hw⟩
  rw [hw]
  clear hw
  go_wp2_with fail
  refine (HE.out w5).mono ?_
  rintro e w6 ⟨rfl, hw⟩
  rw [hw]
  clear hw
  go_wp2_with fail
  refine (HNS.out w5).mono ?_
  rintro e w6 ⟨A, c, rfl, hb6⟩
  go_wp2
  go_ret
  exact ⟨rfl, hbw5.trans (hb6.mono hbw5.size)⟩
end Go.Proofs.YtchnmkagemmjoaaDoor
namespace Go.Proofs.YtchnmkagemmjoaaDoor
open Go.RowKit
set_option linter.unusedVariables false
set_option maxRecDepth 100000
theorem wpOp_if {P : Program} {ops : Array Oper} {Q : Exit → Act → World → Prop} {i j : Nat} {b : Bool} {o : Oper} {a : Act} {w : World} {K : Act → World → Prop} (ho : ops[i]? = some o) (hg : o.guard = some (j, b)) (hy : yielded ops a.tmps j = some b) (h : o.wp P a w K Q) : wpOp P ops Q i K a w := by
  unfold wpOp
  rw [ho]
  simp only [Region.wanted, hg, hy, beq_self_eq_true, if_true]
  exact .inl h
theorem yielded_of {ops : Array Oper} {tmps : Array Value} {j d : Nat} {o : Oper} {v : Value} {b : Bool} (ho : ops[j]? = some o) (hd : o.dst = some d) (ht : tmps[d]? = some v) (hv : v = .bool b) : yielded ops tmps j = some b := by
  unfold yielded
  rw [ho, Option.bind_some, hd, Option.bind_some, ht, hv]
/-- A slice of these numbers, somewhere. -/
def InAt (w : World) (v : Value) (L : List Int) : Prop := ∃ A c, v = .slice A L.length c ∧ L.length ≤ c ∧ c ≤ 9223372036854775807 ∧ Lies w w.heap.size A (i64c L)
theorem InAt.later {w w' : World} {v : Value} {L : List Int} (h : InAt w v L) (hb : Below w.heap.size w w') : InAt w' v L := by
  obtain ⟨A, c, e, h1, h2, h3⟩ := h
  exact ⟨A, c, e, h1, h2, (h3.below hb).mono hb.size⟩
theorem OwnI.inAt {w : World} {B : Nat} {v : Value} {L : List Int} (h : OwnI w B v L) : InAt w v L := by
  obtain ⟨A, c, e, h1, h2, h3⟩ := h.lies
  exact ⟨A, c, e, h1, h2, h3⟩
theorem ints_at_any {w : World} {v1 v2 : Value} {L : List Int} (h1 : InAt w v1 L) (h2 : InAt w v2 L) : Calls Tryd.prog 20 #[v1, v2] w fun e w' => e = .returned (.bool true) ∧ Below w.heap.size w w' := by
  obtain ⟨A1, c1, rfl, a1, a2, a3⟩ := h1
  obtain ⟨A2, c2, rfl, b1, b2, b3⟩ := h2
  exact ints_any L A1 A2 c1 c2 w a3 b3 a1 a2 b1 b2
set_option maxHeartbeats 4000000 in
theorem node_none_from (P : Value) (z : Int) (w : World) (H : ∀ w', Below w.heap.size w w' → Calls Tryd.prog 36 #[P, .int .i64 z] w' fun e w'' => e = .returned (.bool false) ∧ w'' = w') : Calls Tryd.prog 19 #[P, .int .i64 z] w fun e w' => e = .returned zeroN ∧ Below w.heap.size w w' := by
  have HH := Lib.hid H
  clear H
  go_enter Tryd.func19, Tryd.ntmps19
  go_wp2_with fail
  refine (HH.out _ ((Below.refl _ _).alloc (Nat.le_refl _) _)).mono ?_
  rintro e w1 ⟨rfl, hw⟩
  rw [hw]
  clear hw
  go_wp2
  refine bodyPost_ret (v := zeroN) (by simp [results, zeroN, Tryd.results19, go_sem]) rfl ⟨rfl, ?_⟩
  exact (Below.refl _ _).alloc (Nat.le_refl _) _
/-- What each operation of the round's test yields. -/
def tlF (b o m cap d k en : Nat) (x : Nd) (LK LU : List Int) : Nat → Value → World → Prop
  | 0, v, _ => v = .pointer (some ⟨d, 0, none⟩)
  | 1, v, _ => v = .int .i64 (k : Int)
  | 2, v, w => NdV w w.heap.size v x
  | 3, v, _ => v = .slice (some ⟨b, o, none⟩) m cap
  | 4, v, _ => v = .int .i64 (k : Int)
  | 5, v, _ => v = .pointer (some ⟨b, o + k * 8, none⟩)
  | 6, v, w => NdV w w.heap.size v x
  | 7, v, _ => v = .bool true
  | 8, v, _ => v = .bool false
  | 9, v, _ => v = .bool false
  | 10, v, _ => v = .pointer (some ⟨d, 0, none⟩)
  | 11, v, _ => v = .int .i64 (k : Int)
  | 12, v, w => InAt w v LK
  | 13, v, _ => v = .slice (some ⟨b, o, none⟩) m cap
  | 14, v, _ => v = .int .i64 (k : Int)
  | 15, v, w => InAt w v LK
  | 16, v, _ => v = .bool true
  | 17, v, _ => v = .bool false
  | 18, v, _ => v = .bool false
  | 19, v, _ => v = .bool false
  | 20, v, _ => v = .pointer (some ⟨d, 0, none⟩)
  | 21, v, _ => v = .int .i64 (k : Int)
  | 22, v, w => InAt w v LU
  | 23, v, _ => v = .slice (some ⟨b, o, none⟩) m cap
  | 24, v, _ => v = .int .i64 (k : Int)
  | 25, v, w => InAt w v LU
  | 26, v, _ => v = .bool true
  | 27, v, _ => v = .bool false
  | 28, v, _ => v = .bool false
  | 29, v, _ => v = .bool false
  | 30, v, _ => v = .pointer (some ⟨d, 0, none⟩)
  | 31, v, _ => v = .int .i64 (k : Int)
  | 32, v, _ => v = .int .i64 (en : Int)
  | 33, v, _ => v = .slice (some ⟨b, o, none⟩) m cap
  | 34, v, _ => v = .int .i64 (k : Int)
  | 35, v, _ => v = .int .i64 (en : Int)
  | 36, v, _ => v = .bool false
  | _, _, _ => True
theorem tlF_mono {b o m cap d k en : Nat} {x : Nd} {LK LU : List Int} (j : Nat) (v : Value) (w w' : World) (h : tlF b o m cap d k en x LK LU j v w) (hb : Below w.heap.size w w') : tlF b o m cap d k en x LK LU j v w' := by
  match j, h with
  | 0, h => exact h
  | 1, h => exact h
  | 2, h => exact NdV.later h hb
  | 3, h => exact h
  | 4, h => exact h
  | 5, h => exact h
  | 6, h => exact NdV.later h hb
  | 7, h => exact h
  | 8, h => exact h
  | 9, h => exact h
  | 10, h => exact h
  | 11, h => exact h
  | 12, h => exact InAt.later h hb
  | 13, h => exact h
  | 14, h => exact h
  | 15, h => exact InAt.later h hb
  | 16, h => exact h
  | 17, h => exact h
  | 18, h => exact h
  | 19, h => exact h
  | 20, h => exact h
  | 21, h => exact h
  | 22, h => exact InAt.later h hb
  | 23, h => exact h
  | 24, h => exact h
  | 25, h => exact InAt.later h hb
  | 26, h => exact h
  | 27, h => exact h
  | 28, h => exact h
  | 29, h => exact h
  | 30, h => exact h
  | 31, h => exact h
  | 32, h => exact h
  | 33, h => exact h
  | 34, h => exact h
  | 35, h => exact h
  | 36, h => exact h
  | _ + 37, _ => exact trivial
/-- What holds at each round's head. -/
def TlRel (w : World) (l : List Nd) (i : Value) (wr : World) : Prop := ∃ k : Nat, k ≤ l.length ∧ i = .int .i64 k ∧ Below w.heap.size w wr
set_option maxHeartbeats 32000000 in
theorem tells_law (l : List Nd) (v : Value) (z : Int) (w : World) (hv : NsAt w w.heap.size v l) (hs : ∀ x ∈ l, Sm x) (hW : Wd w) : Calls Tryd.prog 4 #[v, .int .i64 z] w fun e w' => e = .returned (.bool true) ∧ Below w.heap.size w w' := by
  have HA : Hid (∀ w', Below w.heap.size w w' → Calls Tryd.prog 9 #[] w' fun e w'' => e = .returned (.bool true) ∧ Below w'.heap.size w' w'') := fun w' hb => awake_any w' (hW.later hb)
  have HF : Hid (∀ w', Below w.heap.size w w' → Calls Tryd.prog 10 #[v, .int .i64 30] w' fun e w'' => e = .returned (.bool (fewB l 30)) ∧ w'' = w') := fun w' hb => few_any l 30 v w' (by omega) (hv.later hb)
  have HO : Hid (l.length ≤ 30 → ∀ w', Below w.heap.size w w' → Calls Tryd.prog 11 #[v] w' fun e w'' => OfAns l w'.heap.size e w'' ∧ Below w'.heap.size w' w'') := fun h w' hb => of_any l v w' (hv.later hb) (by omega) hs (hW.later hb)
  have HV := Lib.hid hv
  obtain ⟨A, cap, rfl, hc1, hc2⟩ := hv.slice
  have hr0 := Below.refl w.heap.size w
  have HS := Lib.hid hs
  clear hW hv hs
  cases hf : fewB l 30 with
  | false =>
    rw [hf] at HF
    clear hf HO
    go_enter Tryd.func4, Tryd.ntmps4
    go_wp2_with fail
    refine (HA.out _ hr0).mono ?_
    rintro e w1 ⟨rfl, hb1⟩
    go_wp2_with fail
    refine (HF.out _ hb1).mono ?_
    rintro e w2 ⟨rfl, hw⟩
    rw [hw]
    clear hw
    go_wp2_with fail
    refine (HA.out _ hb1).mono ?_
    rintro e w2 ⟨rfl, hb2⟩
    go_wp2
    go_ret
    exact ⟨rfl, hb1.trans (hb2.mono hb1.size)⟩
  | true =>
    rw [hf] at HF
    have hl : l.length ≤ 30 := by
      unfold fewB at hf
      rw [Bool.and_eq_true, decide_eq_true_eq] at hf
      exact hf.1
    have HL := Lib.hid hl
    have HO' := Lib.hid (HO.out hl)
    have HLN := Lib.hid (fun w => len_nil w)
    have HNN := Lib.hid (fun w => nodes_nil w)
    obtain ⟨m, hmE⟩ : ∃ m, l.length = m := ⟨_, rfl⟩
    have HM := Lib.hid hmE
    rw [hmE] at HO' hl hc1 HV ⊢
    rw [hmE] at HF
    clear hf HO hmE
    go_enter Tryd.func4, Tryd.ntmps4
    go_wp2_with fail
    refine (HA.out _ hr0).mono ?_
    rintro e w1 ⟨rfl, hb1⟩
    go_wp2_with fail
    refine (HF.out _ hb1).mono ?_
    rintro e w2 ⟨rfl, hw⟩
    rw [hw]
    clear hw
    go_wp2_with fail
    refine (HO'.out _ hb1).mono ?_
    rintro e w2 ⟨ho, hb2⟩
    have hbw := hb1.trans (hb2.mono hb1.size)
    clear hb1 hb2 hr0 HO' HF HA
    rcases ho with ⟨_, rfl⟩ | ⟨_, _, rfl⟩ | ⟨hfo, hwi, d, rfl, hd⟩
    · go_wp2_with fail
      refine (HLN.out w2).mono ?_
      rintro e w3 ⟨rfl, hw⟩
      rw [hw]
      clear hw
      go_wp2_with fail
      refine (HNN.out w2).mono ?_
      rintro e w3 ⟨A0, c0, rfl, hb3⟩
      go_wp2
      go_ret
      exact ⟨rfl, hbw.trans (hb3.mono hbw.size)⟩
    · go_wp2_with fail
      refine (HLN.out w2).mono ?_
      rintro e w3 ⟨rfl, hw⟩
      rw [hw]
      clear hw
      go_wp2_with fail
      refine (HNN.out w2).mono ?_
      rintro e w3 ⟨A0, c0, rfl, hb3⟩
      go_wp2
      go_ret
      exact ⟨rfl, hbw.trans (hb3.mono hbw.size)⟩
    · obtain ⟨_, h0, hh, hg⟩ := formed_hung hfo
      have hl1 := HL.out
      have HD : Hid (∀ w', Below w2.heap.size w2 w' → DocAt w' w1.heap.size d l) := fun w' hb => hd.later hb
      have HNV : Hid (∀ w', Below w2.heap.size w2 w' → NsAt w' w'.heap.size (.slice A m cap) l) := fun w' hb => (HV.out.later hbw).later hb
      have HLE : Hid (Calls Tryd.prog 13 #[.pointer (some ⟨d, 0, none⟩)] w2 fun e w' => e = .returned (.int .i64 (m : Nat)) ∧ w' = w2) := by rw [← HM.out]; exact len_doc w2 hd (by omega) HS.out
      have HTO := Lib.hid (top_doc w2 hd (by omega) HS.out)
      have HRT : Hid (∀ w', Below w2.heap.size w2 w' → Calls Tryd.prog 16 #[.slice A m cap] w' fun e w'' => e = .returned (.int .i64 (topP l : Nat)) ∧ w'' = w') := fun w' hb => by rw [← rtop_eq hfo]; exact rtop_any l _ w' (HNV.out w' hb)
      have HND : Hid (∀ w', Below w2.heap.size w2 w' → Calls Tryd.prog 14 #[.pointer (some ⟨d, 0, none⟩)] w' fun e w'' => ∃ v', e = .returned v' ∧ NsOwn w'' w'.heap.size v' l ∧ Below w'.heap.size w' w'') := fun w' hb => nodes_doc w' (HD.out w' hb) (by omega) HS.out
      have HSA : Hid (∀ w' v', Below w2.heap.size w2 w' → NsAt w' w'.heap.size v' l → Calls Tryd.prog 17 #[v', .slice A m cap] w' fun e w'' => e = .returned (.bool true) ∧ Below w'.heap.size w' w'') := fun w' v' hb h => same_any l v' _ w' h (HNV.out w' hb)
      have hr2 := Below.refl w2.heap.size w2
      have htt : ((topP l : Int) != (topP l : Int)) = false := by simp
      generalize topP l = tp at *
      have hmm : ((m : Int) != (m : Int)) = false := by simp
      clear hd
      go_wp2_with fail
      refine HLE.out.mono ?_
      rintro e w3 ⟨rfl, hw⟩
      rw [hw]
      clear hw HLE
      go_wp2_with fail
      refine HTO.out.mono ?_
      rintro e w3 ⟨rfl, hb3⟩
      clear HTO
      go_wp2_with fail
      refine (HRT.out w3 hb3).mono ?_
      rintro e w4 ⟨rfl, hw⟩
      rw [hw]
      clear hw HRT
      go_wp2_with fail
      refine (HND.out w3 hb3).mono ?_
      rintro e w4 ⟨v', rfl, hno, hb4⟩
      have hb24 := hb3.trans (hb4.mono hb3.size)
      have hat := hno.at (by omega) HS.out
      obtain ⟨A9, c9, rfl⟩ := hno.form
      clear hno hb4 hb3 HND
      go_wp2_with fail
      refine (HSA.out w4 _ hb24 hat).mono ?_
      rintro e w5 ⟨rfl, hb5⟩
      have hb25 := hb24.trans (hb5.mono hb24.size)
      clear hat hb24 hb5 HSA htt hmm
      go_wp2
      go_loopw [58] (TlRel w5 l) (fun i _ => m - (intOf i).toNat)
      case atStart => exact ⟨0, Nat.zero_le _, rfl, Below.refl _ _⟩
      case round =>
        obtain ⟨k, hk, rfl, hbr⟩ := hrel
        rw [HM.out] at hk
        by_cases hlt : k < m
        · have hkz : (k : Int) < (m : Int) := by omega
          have hkl : k < l.length := by rw [HM.out]; exact hlt
          obtain ⟨b, o, cap', e, _, _, hbB, hnd⟩ := (HNV.out w5 hb25).open (by intro h; rw [h] at hkl; simp at hkl)
          simp only [Value.slice.injEq] at e
          obtain ⟨rfl, -, rfl⟩ := e
          obtain ⟨vd, va, d0, d1, d2, d3, d4, d5, d6, d7, hds, has⟩ := ((hnd k hkl).below hbB hbr).cells
          have hb2r : Below w2.heap.size w2 wr := hb25.trans (hbr.mono hb25.size)
          have hbr' : b < wr.heap.size := Nat.lt_of_lt_of_le hbB hbr.size
          have HX : Hid (NdV wr wr.heap.size (.agg #[.int .i64 l[k].k, .int .i64 l[k].n, .string l[k].p, .string l[k].l, .string l[k].u, .string l[k].t, vd, va]) l[k]) := NdV.mono ⟨vd, va, rfl, hds, has⟩ hbr.size
          have HN1 : Hid (∀ y, Below w2.heap.size w2 y → Calls Tryd.prog 19 #[.pointer (some ⟨d, 0, none⟩), .int .i64 (k : Int)] y fun e w'' => ∃ v, e = .returned v ∧ NdV w'' w''.heap.size v l[k] ∧ Below y.heap.size y w'') := fun y hb => by
            refine (node_doc k y (HD.out y hb) (by have := HL.out; omega) HS.out hkl).mono ?_
            rintro e w'' ⟨vd, va, rfl, h1, h2, hb'⟩
            have hsx := HS.out _ (List.getElem_mem hkl)
            exact ⟨_, rfl, ⟨vd, va, rfl, OwnSl.at h1 (by have := hsx.nd; omega) (fun h => by rw [List.eq_nil_of_length_eq_zero h]; rfl), OwnSl.at h2 (by have := hsx.na; omega) (fun h => by rw [List.eq_nil_of_length_eq_zero h]; rfl)⟩, hb'⟩
          have HK1 : Hid (∀ y, Below w2.heap.size w2 y → Calls Tryd.prog 21 #[.pointer (some ⟨d, 0, none⟩), .int .i64 (k : Int)] y fun e w'' => ∃ v, e = .returned v ∧ InAt w'' v (kidsL l k (endP l k)) ∧ Below y.heap.size y w'') := fun y hb => by
            refine (kids_doc k y (HD.out y hb) (by have := HL.out; omega) HS.out hkl).mono ?_
            rintro e w'' ⟨v', rfl, h1, hb'⟩
            exact ⟨v', rfl, h1.inAt, hb'⟩
          have HK2 : Hid (∀ y, Below w2.heap.size w2 y → Calls Tryd.prog 22 #[.slice (some ⟨b, o, none⟩) m cap, .int .i64 (k : Int)] y fun e w'' => ∃ v, e = .returned v ∧ InAt w'' v (kidsL l k (endP l k)) ∧ Below y.heap.size y w'') := fun y hb => by
            refine (rkids_any l _ k y (HNV.out y hb) (by have := HL.out; omega)).mono ?_
            rintro e w'' ⟨v', rfl, h1, hb'⟩
            rw [rkids_eq hh hg hkl] at h1
            exact ⟨v', rfl, h1.inAt, hb'⟩
          have HU1 : Hid (∀ y, Below w2.heap.size w2 y → Calls Tryd.prog 23 #[.pointer (some ⟨d, 0, none⟩), .int .i64 (k : Int)] y fun e w'' => ∃ v, e = .returned v ∧ InAt w'' v (upL l k) ∧ Below y.heap.size y w'') := fun y hb => by
            refine (up_doc k y (HD.out y hb) (by have := HL.out; omega) HS.out hkl hh h0).mono ?_
            rintro e w'' ⟨v', rfl, h1, hb'⟩
            exact ⟨v', rfl, h1.inAt, hb'⟩
          have HU2 : Hid (∀ y, Below w2.heap.size w2 y → Calls Tryd.prog 24 #[.slice (some ⟨b, o, none⟩) m cap, .int .i64 (k : Int)] y fun e w'' => ∃ v, e = .returned v ∧ InAt w'' v (upL l k) ∧ Below y.heap.size y w'') := fun y hb => by
            refine (rup_any l _ k y (HNV.out y hb) (by have := HL.out; omega) hkl hh h0).mono ?_
            rintro e w'' ⟨v', rfl, h1, hb'⟩
            exact ⟨v', rfl, h1.inAt, hb'⟩
          have HE1 : Hid (∀ y, Below w2.heap.size w2 y → Calls Tryd.prog 25 #[.pointer (some ⟨d, 0, none⟩), .int .i64 (k : Int)] y fun e w'' => e = .returned (.int .i64 (endP l k : Nat)) ∧ w'' = y) := fun y hb => end_doc k y (HD.out y hb) (by have := HL.out; omega) HS.out hkl
          have HE2 : Hid (∀ y, Below w2.heap.size w2 y → Calls Tryd.prog 26 #[.slice (some ⟨b, o, none⟩) m cap, .int .i64 (k : Int)] y fun e w'' => e = .returned (.int .i64 (endP l k : Nat)) ∧ w'' = y) := fun y hb => by
            have h := rend_any l _ k y (HNV.out y hb) hkl hh h0 (by have := HL.out; omega)
            rw [rend_eq hh hg hkl] at h
            exact h
          obtain ⟨A3, c3, rfl, -⟩ := hds
          obtain ⟨A4, c4, rfl, -⟩ := has
          have hq : ∀ j (hj : j < 8), wr.cell? ⟨b, o + k * 8 + j, none⟩ = some (([.int .i64 l[k].k, .int .i64 l[k].n, .string l[k].p, .string l[k].l, .string l[k].u, .string l[k].t, .slice A3 l[k].ds.length c3, .slice A4 l[k].ats.length c4] : List Value)[j]'hj) := fun j hj => by
            match j, hj with
            | 0, _ => exact d0
            | 1, _ => exact d1
            | 2, _ => exact d2
            | 3, _ => exact d3
            | 4, _ => exact d4
            | 5, _ => exact d5
            | 6, _ => exact d6
            | 7, _ => exact d7
            | j + 8, hj => omega
          have HNL := Lib.hid hkl
          generalize kidsL l k (endP l k) = LK at *
          generalize upL l k = LU at *
          generalize endP l k = en at *
          generalize l[k] = x at *
          clear hnd d0 d1 d2 d3 d4 d5 d6 d7
          have hee : ((en : Int) != (en : Int)) = false := by simp
          go_wp2_with fail
          go_cut [98] from 61 to 99 (fun t wx => t = .bool false ∧ Below w5.heap.size w5 wx)
          case first =>
            refine region_facts (n := 37) (by kernel_rfl) rfl (by kernel_rfl) (by kernel_rfl) (fun f => { tmps := #[Value.slice (some ⟨b, o, none⟩) m cap, Value.int IntKind.i64 z, undef, undef, u4, Value.pointer (some ⟨d, 0, none⟩), Value.int IntKind.i64 0, Value.int IntKind.i64 k, undef, Value.bool true, Value.bool false, Value.bool false, Value.slice (some ⟨b, o, none⟩) m cap, Value.bool true, Value.bool false, Value.bool false, undef, Value.tuple #[Value.pointer (some ⟨d, 0, none⟩), Value.int IntKind.i64 0], Value.slice (some ⟨b, o, none⟩) m cap, Value.tuple #[Value.pointer (some ⟨d, 0, none⟩), Value.int IntKind.i64 0], Value.pointer (some ⟨d, 0, none⟩), Value.int IntKind.i64 0, Value.int IntKind.i64 0, Value.bool false, undef, undef, undef, undef, undef, undef, undef, undef, undef, undef, undef, undef, undef, Value.pointer (some ⟨d, 0, none⟩), Value.int IntKind.i64 m, Value.slice (some ⟨b, o, none⟩) m cap, Value.int IntKind.i64 m, Value.bool false, Value.bool false, Value.pointer (some ⟨d, 0, none⟩), Value.int IntKind.i64 tp, Value.slice (some ⟨b, o, none⟩) m cap, Value.int IntKind.i64 tp, Value.bool false, Value.bool false, Value.bool false, Value.pointer (some ⟨d, 0, none⟩), Value.slice A9 l.length c9, Value.slice (some ⟨b, o, none⟩) m cap, Value.bool true, Value.bool false, Value.bool false, Value.slice (some ⟨b, o, none⟩) m cap, Value.int IntKind.i64 m, Value.int IntKind.i64 k, Value.bool true, Value.int IntKind.i64 k, f 0, f 1, f 2, f 3, f 4, f 5, f 6, f 7, f 8, f 9, f 10, f 11, f 12, f 13, f 14, f 15, f 16, f 17, f 18, f 19, f 20, f 21, f 22, f 23, f 24, f 25, f 26, f 27, f 28, f 29, f 30, f 31, f 32, f 33, f 34, f 35, f 36, f 37, u99, undef, undef, undef, undef, undef, undef, undef, undef, undef, undef, undef, undef, undef, undef, undef, undef, undef, undef, undef, undef, undef, undef, undef, undef, undef, undef, undef, undef, undef, undef, undef, undef], defers := [] }) (tlF b o m cap d k en x LK LU) (Below wr.heap.size wr) (fun j => (#[u61, u62, u63, u64, u65, u66, u67, u68, u69, u70, u71, u72, u73, u74, u75, u76, u77, u78, u79, u80, u81, u82, u83, u84, u85, u86, u87, u88, u89, u90, u91, u92, u93, u94, u95, u96, u97, u98] : Array Value).getD j undef) _ (fun j v w w' h hb => tlF_mono j v w w' h hb) (drewN_below (Below.refl _ _) 1) ?step ?last
            case step =>
              intro i hi f y hG hF K hK
              have hc : ∀ j v, wr.cell? ⟨b, o + k * 8 + j, none⟩ = some v → y.cell? ⟨b, o + k * 8 + j, none⟩ = some v := fun j v h => (hG.cell (p := ⟨b, o + k * 8 + j, none⟩) hbr').trans h
              have hwy : Below w2.heap.size w2 y := hb2r.trans (hG.mono hb2r.size)
              match i, hi with
              | 0, _ =>
                clear hF
                refine wpOp_one rfl rfl ?_
                try dsimp only
                go_simp
                refine K_eq (hK (.pointer (some ⟨d, 0, none⟩)) y rfl hG (Below.refl _ _)) ?_
                simp [upd]
              | 1, _ =>
                clear hF
                refine wpOp_one rfl rfl ?_
                try dsimp only
                go_simp
                refine K_eq (hK (.int .i64 k) y rfl hG (Below.refl _ _)) ?_
                simp [upd]
              | 2, _ =>
                have e0 : f 0 = .pointer (some ⟨d, 0, none⟩) := hF 0 (by kernel_rfl)
                have e1 : f 1 = .int .i64 k := hF 1 (by kernel_rfl)
                clear hF
                refine wpOp_one rfl rfl ?_
                try dsimp only
                go_simp
                refine (HN1.out y hwy).mono ?_
                rintro e y1 ⟨v', rfl, hv', hb1⟩
                dsimp only
                refine K_eq (hK v' y1 hv' (hG.trans (hb1.mono hG.size)) hb1) ?_
                simp [upd, e0, e1]
              | 3, _ =>
                clear hF
                refine wpOp_one rfl rfl ?_
                try dsimp only
                go_simp
                refine K_eq (hK (.slice (some ⟨b, o, none⟩) m cap) y rfl hG (Below.refl _ _)) ?_
                simp [upd]
              | 4, _ =>
                clear hF
                refine wpOp_one rfl rfl ?_
                try dsimp only
                go_simp
                refine K_eq (hK (.int .i64 k) y rfl hG (Below.refl _ _)) ?_
                simp [upd]
              | 5, _ =>
                have e3 : f 3 = .slice (some ⟨b, o, none⟩) m cap := hF 3 (by kernel_rfl)
                have e4 : f 4 = .int .i64 k := hF 4 (by kernel_rfl)
                clear hF
                refine wpOp_one rfl rfl ?_
                try dsimp only
                go_simp
                refine K_eq (hK (.pointer (some ⟨b, o + k * 8, none⟩)) y rfl hG (Below.refl _ _)) ?_
                simp [upd, e3, e4]
              | 6, _ =>
                have e5 : f 5 = .pointer (some ⟨b, o + k * 8, none⟩) := hF 5 (by kernel_rfl)
                have cc0 : y.cell? ⟨b, o + k * 8, none⟩ = some (.int .i64 x.k) := hc 0 _ (hq 0 (by omega))
                have cc1 : y.cell? ⟨b, o + k * 8 + 1, none⟩ = some (.int .i64 x.n) := hc 1 _ (hq 1 (by omega))
                have cc2 : y.cell? ⟨b, o + k * 8 + 2, none⟩ = some (.string x.p) := hc 2 _ (hq 2 (by omega))
                have cc3 : y.cell? ⟨b, o + k * 8 + 3, none⟩ = some (.string x.l) := hc 3 _ (hq 3 (by omega))
                have cc4 : y.cell? ⟨b, o + k * 8 + 4, none⟩ = some (.string x.u) := hc 4 _ (hq 4 (by omega))
                have cc5 : y.cell? ⟨b, o + k * 8 + 5, none⟩ = some (.string x.t) := hc 5 _ (hq 5 (by omega))
                have cc6 : y.cell? ⟨b, o + k * 8 + 6, none⟩ = some (.slice A3 x.ds.length c3) := hc 6 _ (hq 6 (by omega))
                have cc7 : y.cell? ⟨b, o + k * 8 + 7, none⟩ = some (.slice A4 x.ats.length c4) := hc 7 _ (hq 7 (by omega))
                clear hF
                refine wpOp_one rfl rfl ?_
                try dsimp only
                go_simp
                refine K_eq (hK (.agg #[.int .i64 x.k, .int .i64 x.n, .string x.p, .string x.l, .string x.u, .string x.t, .slice A3 x.ds.length c3, .slice A4 x.ats.length c4]) y (NdV.mono (NdV.below HX.out hG) hG.size) hG (Below.refl _ _)) ?_
                simp [upd, e5]
              | 7, _ =>
                have n2 : NdV y y.heap.size (f 2) x := hF 2 (by kernel_rfl)
                have n6 : NdV y y.heap.size (f 6) x := hF 6 (by kernel_rfl)
                have N2 := Lib.hid n2
                have N6 := Lib.hid n6
                clear n2 n6
                clear hF
                refine wpOp_one rfl rfl ?_
                try dsimp only
                go_simp
                refine (one_any x _ _ y N2.out N6.out).mono ?_
                rintro e y1 ⟨rfl, hb1⟩
                dsimp only
                refine K_eq (hK (.bool true) y1 rfl (hG.trans (hb1.mono hG.size)) hb1) ?_
                simp [upd]
              | 8, _ =>
                have e7 : f 7 = .bool true := hF 7 (by kernel_rfl)
                clear hF
                refine wpOp_one rfl rfl ?_
                try dsimp only
                go_simp
                refine K_eq (hK (.bool false) y rfl hG (Below.refl _ _)) ?_
                simp [upd, e7]
              | 9, _ =>
                have e8 : f 8 = .bool false := hF 8 (by kernel_rfl)
                clear hF
                refine wpOp_one rfl rfl ?_
                try dsimp only
                go_simp
                refine K_eq (hK (.bool false) y rfl hG (Below.refl _ _)) ?_
                simp [upd, e8]
              | 10, _ =>
                have e9 : f 9 = .bool false := hF 9 (by kernel_rfl)
                clear hF
                refine wpOp_if rfl rfl (yielded_of (v := f 9) rfl rfl rfl e9) ?_
                try dsimp only
                go_simp
                refine K_eq (hK (.pointer (some ⟨d, 0, none⟩)) y rfl hG (Below.refl _ _)) ?_
                simp [upd, e9]
              | 11, _ =>
                have e9 : f 9 = .bool false := hF 9 (by kernel_rfl)
                clear hF
                refine wpOp_if rfl rfl (yielded_of (v := f 9) rfl rfl rfl e9) ?_
                try dsimp only
                go_simp
                refine K_eq (hK (.int .i64 k) y rfl hG (Below.refl _ _)) ?_
                simp [upd, e9]
              | 12, _ =>
                have e9 : f 9 = .bool false := hF 9 (by kernel_rfl)
                have e10 : f 10 = .pointer (some ⟨d, 0, none⟩) := hF 10 (by kernel_rfl)
                have e11 : f 11 = .int .i64 k := hF 11 (by kernel_rfl)
                clear hF
                refine wpOp_if rfl rfl (yielded_of (v := f 9) rfl rfl rfl e9) ?_
                try dsimp only
                go_simp
                refine (HK1.out y hwy).mono ?_
                rintro e y1 ⟨v', rfl, hv', hb1⟩
                dsimp only
                refine K_eq (hK v' y1 hv' (hG.trans (hb1.mono hG.size)) hb1) ?_
                simp [upd, e10, e11, e9]
              | 13, _ =>
                have e9 : f 9 = .bool false := hF 9 (by kernel_rfl)
                clear hF
                refine wpOp_if rfl rfl (yielded_of (v := f 9) rfl rfl rfl e9) ?_
                try dsimp only
                go_simp
                refine K_eq (hK (.slice (some ⟨b, o, none⟩) m cap) y rfl hG (Below.refl _ _)) ?_
                simp [upd, e9]
              | 14, _ =>
                have e9 : f 9 = .bool false := hF 9 (by kernel_rfl)
                clear hF
                refine wpOp_if rfl rfl (yielded_of (v := f 9) rfl rfl rfl e9) ?_
                try dsimp only
                go_simp
                refine K_eq (hK (.int .i64 k) y rfl hG (Below.refl _ _)) ?_
                simp [upd, e9]
              | 15, _ =>
                have e9 : f 9 = .bool false := hF 9 (by kernel_rfl)
                have e13 : f 13 = .slice (some ⟨b, o, none⟩) m cap := hF 13 (by kernel_rfl)
                have e14 : f 14 = .int .i64 k := hF 14 (by kernel_rfl)
                clear hF
                refine wpOp_if rfl rfl (yielded_of (v := f 9) rfl rfl rfl e9) ?_
                try dsimp only
                go_simp
                refine (HK2.out y hwy).mono ?_
                rintro e y1 ⟨v', rfl, hv', hb1⟩
                dsimp only
                refine K_eq (hK v' y1 hv' (hG.trans (hb1.mono hG.size)) hb1) ?_
                simp [upd, e13, e14, e9]
              | 16, _ =>
                have e9 : f 9 = .bool false := hF 9 (by kernel_rfl)
                have n12 : InAt y (f 12) LK := hF 12 (by kernel_rfl)
                have N12 := Lib.hid n12
                clear n12
                have n15 : InAt y (f 15) LK := hF 15 (by kernel_rfl)
                have N15 := Lib.hid n15
                clear n15
                clear hF
                refine wpOp_if rfl rfl (yielded_of (v := f 9) rfl rfl rfl e9) ?_
                try dsimp only
                go_simp
                refine (ints_at_any N12.out N15.out).mono ?_
                rintro e y1 ⟨rfl, hb1⟩
                dsimp only
                refine K_eq (hK (.bool true) y1 rfl (hG.trans (hb1.mono hG.size)) hb1) ?_
                simp [upd, e9]
              | 17, _ =>
                have e9 : f 9 = .bool false := hF 9 (by kernel_rfl)
                have e16 : f 16 = .bool true := hF 16 (by kernel_rfl)
                clear hF
                refine wpOp_if rfl rfl (yielded_of (v := f 9) rfl rfl rfl e9) ?_
                try dsimp only
                go_simp
                refine K_eq (hK (.bool false) y rfl hG (Below.refl _ _)) ?_
                simp [upd, e16, e9]
              | 18, _ =>
                have e9 : f 9 = .bool false := hF 9 (by kernel_rfl)
                have e17 : f 17 = .bool false := hF 17 (by kernel_rfl)
                clear hF
                refine wpOp_one rfl rfl ?_
                try dsimp only
                go_simp
                refine K_eq (hK (.bool false) y rfl hG (Below.refl _ _)) ?_
                simp [upd, e17, e9]
              | 19, _ =>
                have e18 : f 18 = .bool false := hF 18 (by kernel_rfl)
                clear hF
                refine wpOp_one rfl rfl ?_
                try dsimp only
                go_simp
                refine K_eq (hK (.bool false) y rfl hG (Below.refl _ _)) ?_
                simp [upd, e18]
              | 20, _ =>
                have e19 : f 19 = .bool false := hF 19 (by kernel_rfl)
                clear hF
                refine wpOp_if rfl rfl (yielded_of (v := f 19) rfl rfl rfl e19) ?_
                try dsimp only
                go_simp
                refine K_eq (hK (.pointer (some ⟨d, 0, none⟩)) y rfl hG (Below.refl _ _)) ?_
                simp [upd, e19]
              | 21, _ =>
                have e19 : f 19 = .bool false := hF 19 (by kernel_rfl)
                clear hF
                refine wpOp_if rfl rfl (yielded_of (v := f 19) rfl rfl rfl e19) ?_
                try dsimp only
                go_simp
                refine K_eq (hK (.int .i64 k) y rfl hG (Below.refl _ _)) ?_
                simp [upd, e19]
              | 22, _ =>
                have e19 : f 19 = .bool false := hF 19 (by kernel_rfl)
                have e20 : f 20 = .pointer (some ⟨d, 0, none⟩) := hF 20 (by kernel_rfl)
                have e21 : f 21 = .int .i64 k := hF 21 (by kernel_rfl)
                clear hF
                refine wpOp_if rfl rfl (yielded_of (v := f 19) rfl rfl rfl e19) ?_
                try dsimp only
                go_simp
                refine (HU1.out y hwy).mono ?_
                rintro e y1 ⟨v', rfl, hv', hb1⟩
                dsimp only
                refine K_eq (hK v' y1 hv' (hG.trans (hb1.mono hG.size)) hb1) ?_
                simp [upd, e19, e20, e21]
              | 23, _ =>
                have e19 : f 19 = .bool false := hF 19 (by kernel_rfl)
                clear hF
                refine wpOp_if rfl rfl (yielded_of (v := f 19) rfl rfl rfl e19) ?_
                try dsimp only
                go_simp
                refine K_eq (hK (.slice (some ⟨b, o, none⟩) m cap) y rfl hG (Below.refl _ _)) ?_
                simp [upd, e19]
              | 24, _ =>
                have e19 : f 19 = .bool false := hF 19 (by kernel_rfl)
                clear hF
                refine wpOp_if rfl rfl (yielded_of (v := f 19) rfl rfl rfl e19) ?_
                try dsimp only
                go_simp
                refine K_eq (hK (.int .i64 k) y rfl hG (Below.refl _ _)) ?_
                simp [upd, e19]
              | 25, _ =>
                have e19 : f 19 = .bool false := hF 19 (by kernel_rfl)
                have e23 : f 23 = .slice (some ⟨b, o, none⟩) m cap := hF 23 (by kernel_rfl)
                have e24 : f 24 = .int .i64 k := hF 24 (by kernel_rfl)
                clear hF
                refine wpOp_if rfl rfl (yielded_of (v := f 19) rfl rfl rfl e19) ?_
                try dsimp only
                go_simp
                refine (HU2.out y hwy).mono ?_
                rintro e y1 ⟨v', rfl, hv', hb1⟩
                dsimp only
                refine K_eq (hK v' y1 hv' (hG.trans (hb1.mono hG.size)) hb1) ?_
                simp [upd, e19, e23, e24]
              | 26, _ =>
                have e19 : f 19 = .bool false := hF 19 (by kernel_rfl)
                have n22 : InAt y (f 22) LU := hF 22 (by kernel_rfl)
                have N22 := Lib.hid n22
                clear n22
                have n25 : InAt y (f 25) LU := hF 25 (by kernel_rfl)
                have N25 := Lib.hid n25
                clear n25
                clear hF
                refine wpOp_if rfl rfl (yielded_of (v := f 19) rfl rfl rfl e19) ?_
                try dsimp only
                go_simp
                refine (ints_at_any N22.out N25.out).mono ?_
                rintro e y1 ⟨rfl, hb1⟩
                dsimp only
                refine K_eq (hK (.bool true) y1 rfl (hG.trans (hb1.mono hG.size)) hb1) ?_
                simp [upd, e19]
              | 27, _ =>
                have e19 : f 19 = .bool false := hF 19 (by kernel_rfl)
                have e26 : f 26 = .bool true := hF 26 (by kernel_rfl)
                clear hF
                refine wpOp_if rfl rfl (yielded_of (v := f 19) rfl rfl rfl e19) ?_
                try dsimp only
                go_simp
                refine K_eq (hK (.bool false) y rfl hG (Below.refl _ _)) ?_
                simp [upd, e19, e26]
              | 28, _ =>
                have e19 : f 19 = .bool false := hF 19 (by kernel_rfl)
                have e27 : f 27 = .bool false := hF 27 (by kernel_rfl)
                clear hF
                refine wpOp_one rfl rfl ?_
                try dsimp only
                go_simp
                refine K_eq (hK (.bool false) y rfl hG (Below.refl _ _)) ?_
                simp [upd, e19, e27]
              | 29, _ =>
                have e28 : f 28 = .bool false := hF 28 (by kernel_rfl)
                clear hF
                refine wpOp_one rfl rfl ?_
                try dsimp only
                go_simp
                refine K_eq (hK (.bool false) y rfl hG (Below.refl _ _)) ?_
                simp [upd, e28]
              | 30, _ =>
                have e29 : f 29 = .bool false := hF 29 (by kernel_rfl)
                clear hF
                refine wpOp_if rfl rfl (yielded_of (v := f 29) rfl rfl rfl e29) ?_
                try dsimp only
                go_simp
                refine K_eq (hK (.pointer (some ⟨d, 0, none⟩)) y rfl hG (Below.refl _ _)) ?_
                simp [upd, e29]
              | 31, _ =>
                have e29 : f 29 = .bool false := hF 29 (by kernel_rfl)
                clear hF
                refine wpOp_if rfl rfl (yielded_of (v := f 29) rfl rfl rfl e29) ?_
                try dsimp only
                go_simp
                refine K_eq (hK (.int .i64 k) y rfl hG (Below.refl _ _)) ?_
                simp [upd, e29]
              | 32, _ =>
                have e29 : f 29 = .bool false := hF 29 (by kernel_rfl)
                have e30 : f 30 = .pointer (some ⟨d, 0, none⟩) := hF 30 (by kernel_rfl)
                have e31 : f 31 = .int .i64 k := hF 31 (by kernel_rfl)
                clear hF
                refine wpOp_if rfl rfl (yielded_of (v := f 29) rfl rfl rfl e29) ?_
                try dsimp only
                go_simp
                refine (HE1.out y hwy).mono ?_
                rintro e y1 ⟨rfl, hw⟩
                rw [hw]
                dsimp only
                refine K_eq (hK (.int .i64 en) y rfl hG (Below.refl _ _)) ?_
                simp [upd, e29, e30, e31]
              | 33, _ =>
                have e29 : f 29 = .bool false := hF 29 (by kernel_rfl)
                clear hF
                refine wpOp_if rfl rfl (yielded_of (v := f 29) rfl rfl rfl e29) ?_
                try dsimp only
                go_simp
                refine K_eq (hK (.slice (some ⟨b, o, none⟩) m cap) y rfl hG (Below.refl _ _)) ?_
                simp [upd, e29]
              | 34, _ =>
                have e29 : f 29 = .bool false := hF 29 (by kernel_rfl)
                clear hF
                refine wpOp_if rfl rfl (yielded_of (v := f 29) rfl rfl rfl e29) ?_
                try dsimp only
                go_simp
                refine K_eq (hK (.int .i64 k) y rfl hG (Below.refl _ _)) ?_
                simp [upd, e29]
              | 35, _ =>
                have e29 : f 29 = .bool false := hF 29 (by kernel_rfl)
                have e33 : f 33 = .slice (some ⟨b, o, none⟩) m cap := hF 33 (by kernel_rfl)
                have e34 : f 34 = .int .i64 k := hF 34 (by kernel_rfl)
                clear hF
                refine wpOp_if rfl rfl (yielded_of (v := f 29) rfl rfl rfl e29) ?_
                try dsimp only
                go_simp
                refine (HE2.out y hwy).mono ?_
                rintro e y1 ⟨rfl, hw⟩
                rw [hw]
                dsimp only
                refine K_eq (hK (.int .i64 en) y rfl hG (Below.refl _ _)) ?_
                simp [upd, e29, e33, e34]
              | 36, _ =>
                have e29 : f 29 = .bool false := hF 29 (by kernel_rfl)
                have e32 : f 32 = .int .i64 en := hF 32 (by kernel_rfl)
                have e35 : f 35 = .int .i64 en := hF 35 (by kernel_rfl)
                clear hF
                refine wpOp_if rfl rfl (yielded_of (v := f 29) rfl rfl rfl e29) ?_
                try dsimp only
                go_simp
                refine K_eq (hK (.bool false) y rfl hG (Below.refl _ _)) ?_
                simp [upd, e29, e32, e35]
              | n + 37, hi => exact absurd hi (by omega)
            case last =>
              intro f y hG hF K hK
              have e29 : f 29 = .bool false := hF 29 (by omega)
              have e36 : f 36 = .bool false := hF 36 (by omega)
              clear hF
              refine wpOp_one rfl rfl ?_
              try dsimp only
              go_simp
              refine hK _ _ ?_
              go_wp2_with fail
              go_meet
              exact ⟨rfl, hbr.trans (hG.mono hbr.size)⟩
          case rest =>
            obtain ⟨rfl, hbc⟩ := hcut
            clear hq
            go_wp2
            go_roundw
            case rel => exact ⟨k + 1, HNL.out, by go_num, hbc⟩
            case measure => simp [intOf]; omega
        · have hkz : ¬ (k : Int) < (m : Int) := by omega
          have hb2r : Below w2.heap.size w2 wr := hb25.trans (hbr.mono hb25.size)
          have hbwr := hbw.trans (hb2r.mono hbw.size)
          by_cases hz0 : z ≥ 0
          · by_cases hzm : z < (m : Int)
            · go_wp2
              go_ret
              exact ⟨rfl, hbwr⟩
            · have hzmd := decide_eq_false hzm
              have HH : Hid (∀ w', Below w2.heap.size w2 w' → Calls Tryd.prog 36 #[.pointer (some ⟨d, 0, none⟩), .int .i64 z] w' fun e w'' => e = .returned (.bool false) ∧ w'' = w') := fun w' hb => by
                have h := has_doc z w' (HD.out w' hb) (by have := HL.out; omega) HS.out
                rw [HM.out, decide_eq_false (by omega)] at h
                exact h
              have HN := Lib.hid (fun w' (hb : Below w2.heap.size w2 w') => node_none_from (.pointer (some ⟨d, 0, none⟩)) z w' (fun w'' hb' => HH.out w'' (hb.trans (hb'.mono hb.size))))
              have HE := Lib.hid (fun w' (hb : Below w2.heap.size w2 w') => end_none (.pointer (some ⟨d, 0, none⟩)) z w' (HH.out w' hb))
              have HK := Lib.hid (fun w' (hb : Below w2.heap.size w2 w') => kids_none (.pointer (some ⟨d, 0, none⟩)) z w' (HH.out w' hb))
              have HU := Lib.hid (fun w' (hb : Below w2.heap.size w2 w') => up_none (.pointer (some ⟨d, 0, none⟩)) z w' (HH.out w' hb))
              have HOZ := Lib.hid (fun w => one_zero w)
              unfold zeroN at HN HOZ
              clear HH
              go_wp2_with fail
              refine (HN.out wr hb2r).mono ?_
              rintro e w6 ⟨rfl, hb6⟩
              have hb26 := hb2r.trans (hb6.mono hb2r.size)
              go_wp2_with fail
              refine (HOZ.out w6).mono ?_
              rintro e w7 ⟨rfl, hb7⟩
              have hb27 := hb26.trans (hb7.mono hb26.size)
              clear hb26 hb6 hb7
              go_wp2_with fail
              refine (HK.out w7 hb27).mono ?_
              rintro e w8 ⟨rfl, hw⟩
              rw [hw]
              clear hw
              go_wp2_with fail
              refine (HU.out w7 hb27).mono ?_
              rintro e w8 ⟨rfl, hw⟩
              rw [hw]
              clear hw
              go_wp2_with fail
              refine (HE.out w7 hb27).mono ?_
              rintro e w8 ⟨rfl, hw⟩
              rw [hw]
              clear hw
              go_wp2
              go_ret
              exact ⟨rfl, hbw.trans (hb27.mono hbw.size)⟩
          · have hz0d := decide_eq_false hz0
            have HH : Hid (∀ w', Below w2.heap.size w2 w' → Calls Tryd.prog 36 #[.pointer (some ⟨d, 0, none⟩), .int .i64 z] w' fun e w'' => e = .returned (.bool false) ∧ w'' = w') := fun w' hb => by
              have h := has_doc z w' (HD.out w' hb) (by have := HL.out; omega) HS.out
              rw [decide_eq_false (by omega)] at h
              exact h
            have HN := Lib.hid (fun w' (hb : Below w2.heap.size w2 w') => node_none_from (.pointer (some ⟨d, 0, none⟩)) z w' (fun w'' hb' => HH.out w'' (hb.trans (hb'.mono hb.size))))
            have HE := Lib.hid (fun w' (hb : Below w2.heap.size w2 w') => end_none (.pointer (some ⟨d, 0, none⟩)) z w' (HH.out w' hb))
            have HK := Lib.hid (fun w' (hb : Below w2.heap.size w2 w') => kids_none (.pointer (some ⟨d, 0, none⟩)) z w' (HH.out w' hb))
            have HU := Lib.hid (fun w' (hb : Below w2.heap.size w2 w') => up_none (.pointer (some ⟨d, 0, none⟩)) z w' (HH.out w' hb))
            have HOZ := Lib.hid (fun w => one_zero w)
            unfold zeroN at HN HOZ
            clear HH
            go_wp2_with fail
            refine (HN.out wr hb2r).mono ?_
            rintro e w6 ⟨rfl, hb6⟩
            have hb26 := hb2r.trans (hb6.mono hb2r.size)
            go_wp2_with fail
            refine (HOZ.out w6).mono ?_
            rintro e w7 ⟨rfl, hb7⟩
            have hb27 := hb26.trans (hb7.mono hb26.size)
            clear hb26 hb6 hb7
            go_wp2_with fail
            refine (HK.out w7 hb27).mono ?_
            rintro e w8 ⟨rfl, hw⟩
            rw [hw]
            clear hw
            go_wp2_with fail
            refine (HU.out w7 hb27).mono ?_
            rintro e w8 ⟨rfl, hw⟩
            rw [hw]
            clear hw
            go_wp2_with fail
            refine (HE.out w7 hb27).mono ?_
            rintro e w8 ⟨rfl, hw⟩
            rw [hw]
            clear hw
            go_wp2
            go_ret
            exact ⟨rfl, hbw.trans (hb27.mono hbw.size)⟩
end Go.Proofs.YtchnmkagemmjoaaDoor
