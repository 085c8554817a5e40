/-
  (*Doc).Nodes and Node of a document: copies in new memory. Conditions: the document lies as it is; there are not too many nodes, the texts are not too long.
-/
import Derived.Test.YtalcmhngebobnaaDoorREndP
namespace Go.Proofs.YtalcmhngebobnaaDoor
open Go.RowKit
set_option linter.unusedVariables false
set_option maxRecDepth 100000
theorem NsOwn.form {w : World} {B : Nat} {v : Value} {l : List Nd} (h : NsOwn w B v l) : ∃ A c, v = .slice A l.length c := by
  rcases h with ⟨rfl, rfl⟩ | ⟨g, cur, rfl, _⟩
  · exact ⟨_, _, rfl⟩
  · exact ⟨_, _, rfl⟩
set_option maxHeartbeats 4000000 in
theorem nodes_doc {B d : Nat} {l : List Nd} (w : World) (h : DocAt w B d l) (hn : l.length ≤ 100000) (hs : ∀ x ∈ l, Sm x) : Calls Tryd.prog 9 #[.pointer (some ⟨d, 0, none⟩)] w fun e w' => ∃ v', e = .returned v' ∧ NsOwn w' w.heap.size v' l ∧ Below w.heap.size w w' := by
  obtain ⟨v, hc, hv, _⟩ := h.list hn hs
  have HL := Lib.hid (list_doc d v w hc)
  have HC := Lib.hid (ncopies_any l v w hv (by omega) hs)
  obtain ⟨A, cap, rfl, _, _⟩ := hv.slice
  clear hc hv h
  go_enter Tryd.func9, Tryd.ntmps9
  go_wp2_with fail
  refine HL.out.mono ?_
  rintro e w1 ⟨rfl, hw⟩
  rw [hw]
  clear hw
  go_wp2_with fail
  refine HC.out.mono ?_
  rintro e w2 ⟨v', rfl, ho, hb⟩
  have HO := Lib.hid ho
  obtain ⟨A', c', rfl⟩ := ho.form
  clear ho
  go_wp2
  go_ret
  exact ⟨_, rfl, HO.out, hb⟩
/-- The eight cells of a block, set one behind the other. -/
theorem eight_zero {w2 : World} {b : Nat} {cs : Array Value} {t : TypeId} {fz : Nat × Nat} (v0 v1 v2 v3 v4 v5 v6 v7 : Value) (h : w2.heap[b]? = some (.cells cs t fz)) (h8 : cs.size = 8) :
    ∃ W8, W8 = ((((((((w2.setCell ⟨b, 0, none⟩ v0).setCell ⟨b, 1, none⟩ v1).setCell ⟨b, 2, none⟩ v2).setCell ⟨b, 3, none⟩ v3).setCell ⟨b, 4, none⟩ v4).setCell ⟨b, 5, none⟩ v5).setCell ⟨b, 6, none⟩ v6).setCell ⟨b, 7, none⟩ v7) ∧ (∀ g, g ≠ b → W8.heap[g]? = w2.heap[g]?) ∧ (∀ (B : Nat) (a : World), Below B a w2 → B ≤ b → Below B a W8) ∧ W8.cell? ⟨b, 0, none⟩ = some v0 ∧ W8.cell? ⟨b, 1, none⟩ = some v1 ∧ W8.cell? ⟨b, 2, none⟩ = some v2 ∧ W8.cell? ⟨b, 3, none⟩ = some v3 ∧ W8.cell? ⟨b, 4, none⟩ = some v4 ∧ W8.cell? ⟨b, 5, none⟩ = some v5 ∧ W8.cell? ⟨b, 6, none⟩ = some v6 ∧ W8.cell? ⟨b, 7, none⟩ = some v7 := by
  have hb : (((((((((w2.setCell ⟨b, 0, none⟩ v0).setCell ⟨b, 1, none⟩ v1).setCell ⟨b, 2, none⟩ v2).setCell ⟨b, 3, none⟩ v3).setCell ⟨b, 4, none⟩ v4).setCell ⟨b, 5, none⟩ v5).setCell ⟨b, 6, none⟩ v6).setCell ⟨b, 7, none⟩ v7)).heap[b]? = some (.cells ((((((((cs.setIfInBounds 0 v0).setIfInBounds 1 v1).setIfInBounds 2 v2).setIfInBounds 3 v3).setIfInBounds 4 v4).setIfInBounds 5 v5).setIfInBounds 6 v6).setIfInBounds 7 v7) t fz) := (block_set (block_set (block_set (block_set (block_set (block_set (block_set (block_set h))))))))
  refine ⟨_, rfl, fun g hg => ((Below.heap_setCell _ _ _ _ hg).trans ((Below.heap_setCell _ _ _ _ hg).trans ((Below.heap_setCell _ _ _ _ hg).trans ((Below.heap_setCell _ _ _ _ hg).trans ((Below.heap_setCell _ _ _ _ hg).trans ((Below.heap_setCell _ _ _ _ hg).trans ((Below.heap_setCell _ _ _ _ hg).trans ((Below.heap_setCell _ _ _ _ hg).trans rfl)))))))), fun B a hB hle => ((((((((hB.setCell (p := ⟨b, 0, none⟩) hle v0).setCell (p := ⟨b, 1, none⟩) hle v1).setCell (p := ⟨b, 2, none⟩) hle v2).setCell (p := ⟨b, 3, none⟩) hle v3).setCell (p := ⟨b, 4, none⟩) hle v4).setCell (p := ⟨b, 5, none⟩) hle v5).setCell (p := ⟨b, 6, none⟩) hle v6).setCell (p := ⟨b, 7, none⟩) hle v7), ?_⟩
  have hc := fun j => cell_of_row _ b j _ _ _ hb
  refine ⟨?_, ?_, ?_, ?_, ?_, ?_, ?_, ?_⟩ <;> rw [hc] <;> simp [h8]
set_option maxHeartbeats 8000000 in
theorem node_doc {B d : Nat} {l : List Nd} (n : Nat) (w : World) (h : DocAt w B d l) (hn : l.length ≤ 100000) (hs : ∀ x ∈ l, Sm x) (hnl : n < l.length) : Calls Tryd.prog 7 #[.pointer (some ⟨d, 0, none⟩), .int .i64 (n : Int)] w fun e w' => ∃ vd va, e = .returned (.agg #[.int .i64 l[n].k, .int .i64 l[n].n, .string l[n].p, .string l[n].l, .string l[n].u, .string l[n].t, vd, va]) ∧ OwnDs w' w.heap.size vd l[n].ds ∧ OwnAs w' w.heap.size va l[n].ats ∧ Below w.heap.size w w' := by
  have HH : Hid (∀ w', Below w.heap.size w w' → Calls Tryd.prog 17 #[.pointer (some ⟨d, 0, none⟩), .int .i64 (n : Int)] w' fun e w'' => e = .returned (.bool true) ∧ w'' = w') := fun w' hb => by
    have := has_doc (n : Int) w' (h.later hb) hn hs
    rw [decide_eq_true (by omega)] at this
    exact this
  obtain ⟨v, hc, hv, hd⟩ := h.list hn hs
  obtain ⟨b, o, cap, rfl, hc1, hc2, hbB, hnd⟩ := hv.open (by intro h; rw [h] at hnl; simp at hnl)
  obtain ⟨vd, va, d0, d1, d2, d3, d4, d5, d6, d7, hds, has⟩ := (hnd n hnl).cells
  have HX : Hid (NdV w w.heap.size (.agg #[.int .i64 l[n].k, .int .i64 l[n].n, .string l[n].p, .string l[n].l, .string l[n].u, .string l[n].t, vd, va]) l[n]) := ⟨vd, va, rfl, hds, has⟩
  obtain ⟨A1, c1, rfl, _⟩ := hds
  obtain ⟨A2, c2, rfl, _⟩ := has
  have hsx := hs _ (List.getElem_mem hnl)
  have HCP : Hid (∀ w', Below w.heap.size w w' → Calls Tryd.prog 16 #[.agg #[.int .i64 l[n].k, .int .i64 l[n].n, .string l[n].p, .string l[n].l, .string l[n].u, .string l[n].t, .slice A1 l[n].ds.length c1, .slice A2 l[n].ats.length c2]] w' fun e w'' => ∃ vd va, e = .returned (.agg #[.int .i64 l[n].k, .int .i64 l[n].n, .string l[n].p, .string l[n].l, .string l[n].u, .string l[n].t, vd, va]) ∧ OwnDs w'' w'.heap.size vd l[n].ds ∧ OwnAs w'' w'.heap.size va l[n].ats ∧ Below w'.heap.size w' w'') := fun w' hb' =>
    nodeCopy_any l[n] _ hsx w' (HX.out.later hb')
  obtain ⟨m, hmE⟩ : ∃ m, l.length = m := ⟨_, rfl⟩
  rw [hmE] at hn hc1 hnl hc
  generalize l[n] = x at *
  clear hnd hv h hmE
  go_enter Tryd.func7, Tryd.ntmps7
  go_wp2_with fail
  refine (HH.out _ (by first | exact Below.refl _ _ | exact (Below.refl _ _).alloc (Nat.le_refl _) _)).mono ?_
  rintro e w1 ⟨rfl, hw⟩
  rw [hw]
  clear hw
  go_wp2_with fail
  refine (HCP.out _ (by first | exact Below.refl _ _ | exact (Below.refl _ _).alloc (Nat.le_refl _) _)).mono ?_
  rintro e w2 ⟨vd', va', rfl, ho1, ho2, hb1⟩
  obtain ⟨A3, c3, rfl⟩ := OwnSl.form ho1
  obtain ⟨A4, c4, rfl⟩ := OwnSl.form ho2
  have HO1 : Hid (OwnDs w2 w.heap.size (.slice A3 x.ds.length c3) x.ds) := OwnSl.mono ho1 (by simp)
  have HO2 : Hid (OwnAs w2 w.heap.size (.slice A4 x.ats.length c4) x.ats) := OwnSl.mono ho2 (by simp)
  have hbw := below_box hb1
  have hcur : w2.heap[w.heap.size]? = some (.cells #[.int .i64 0, .int .i64 0, .string ⟨#[]⟩, .string ⟨#[]⟩, .string ⟨#[]⟩, .string ⟨#[]⟩, .slice none 0 0, .slice none 0 0] 28 (0, 0)) := (hb1.block _ (by simp)).trans (heap_alloc_last w _)
  have hfz : ∀ j, w2.frozen? ⟨w.heap.size, j, none⟩ = false := fun j => by unfold World.frozen?; rw [hcur]; simp
  have g0 : w2.cell? ⟨w.heap.size, 0, none⟩ = some (.int .i64 0) := by rw [cell_of_row w2 w.heap.size _ _ _ _ hcur]; rfl
  have g1 : w2.cell? ⟨w.heap.size, 1, none⟩ = some (.int .i64 0) := by rw [cell_of_row w2 w.heap.size _ _ _ _ hcur]; rfl
  have g2 : w2.cell? ⟨w.heap.size, 2, none⟩ = some (.string ⟨#[]⟩) := by rw [cell_of_row w2 w.heap.size _ _ _ _ hcur]; rfl
  have g3 : w2.cell? ⟨w.heap.size, 3, none⟩ = some (.string ⟨#[]⟩) := by rw [cell_of_row w2 w.heap.size _ _ _ _ hcur]; rfl
  have g4 : w2.cell? ⟨w.heap.size, 4, none⟩ = some (.string ⟨#[]⟩) := by rw [cell_of_row w2 w.heap.size _ _ _ _ hcur]; rfl
  have g5 : w2.cell? ⟨w.heap.size, 5, none⟩ = some (.string ⟨#[]⟩) := by rw [cell_of_row w2 w.heap.size _ _ _ _ hcur]; rfl
  have g6 : w2.cell? ⟨w.heap.size, 6, none⟩ = some (.slice none 0 0) := by rw [cell_of_row w2 w.heap.size _ _ _ _ hcur]; rfl
  have g7 : w2.cell? ⟨w.heap.size, 7, none⟩ = some (.slice none 0 0) := by rw [cell_of_row w2 w.heap.size _ _ _ _ hcur]; rfl
  obtain ⟨W8, hW8, hoth, hbel, q0, q1, q2, q3, q4, q5, q6, q7⟩ := eight_zero (.int .i64 x.k) (.int .i64 x.n) (.string x.p) (.string x.l) (.string x.u) (.string x.t) (.slice A3 x.ds.length c3) (.slice A4 x.ats.length c4) hcur rfl
  have HO8 : Hid (OwnDs W8 w.heap.size (.slice A3 x.ds.length c3) x.ds) := OwnSl.aside HO1.out hcur (by decide) hoth
  have HA8 : Hid (OwnAs W8 w.heap.size (.slice A4 x.ats.length c4) x.ats) := OwnSl.aside HO2.out hcur (by decide) hoth
  have HB8 : Hid (Below w.heap.size w W8) := hbel _ _ hbw (Nat.le_refl _)
  have HW8 := Lib.hid hW8
  clear ho1 ho2 hcur hbw hb1 hW8 hoth hbel
  go_wp2
  rw [← HW8.out]
  refine bodyPost_ret (v := .agg #[.int .i64 x.k, .int .i64 x.n, .string x.p, .string x.l, .string x.u, .string x.t, .slice A3 x.ds.length c3, .slice A4 x.ats.length c4]) (by simp [results, Tryd.results7, go_sem, q0, q1, q2, q3, q4, q5, q6, q7]) rfl ⟨_, _, rfl, HO8.out, HA8.out, HB8.out⟩
end Go.Proofs.YtalcmhngebobnaaDoor
