/-
  doc.nodeCopy: a copy of a node, in new memory. Conditions: the node lies as it is; the texts are not too long, the lists neither.
-/
import Derived.Test.YtalcmhngebobnaaDoorDCopies
import Derived.Test.YtalcmhngebobnaaDoorDElem
namespace Go.Proofs.YtalcmhngebobnaaDoor
open Go.RowKit
set_option linter.unusedVariables false
set_option maxRecDepth 100000
def OwnDs (w : World) (B : Nat) (v : Value) (ds : List Dc) : Prop := OwnSl w B 37 v ds.length (ds.flatMap dcC)
def OwnAs (w : World) (B : Nat) (v : Value) (ats : List At) : Prop := OwnSl w B 35 v ats.length (ats.flatMap atC)
theorem OwnSl.form {w : World} {B e n : Nat} {v : Value} {cs : List Value} (h : OwnSl w B e v n cs) : ∃ A c, v = .slice A n c := by
  rcases h with ⟨rfl, rfl⟩ | ⟨g, rfl, _⟩
  · exact ⟨_, _, rfl⟩
  · exact ⟨_, _, rfl⟩
theorem OwnSl.aside {w w' : World} {B e n r e' : Nat} {v : Value} {cs : List Value} {z : Array Value} (h : OwnSl w B e v n cs) (hr : w.heap[r]? = some (.cells z e' (0, 0))) (he : e ≠ e') (hoth : ∀ g, g ≠ r → w'.heap[g]? = w.heap[g]?) : OwnSl w' B e v n cs := by
  rcases h with h | ⟨g, h1, h2, h3⟩
  · exact .inl h
  · refine .inr ⟨g, h1, h2, (hoth g (fun e1 => ?_)).trans h3⟩
    rw [e1, hr] at h3
    simp at h3
    exact he h3.2.symm
/-- What each operation yields. -/
def ncF (q B : Nat) (x : Nd) (A1 A2 : Option Addr) (c1 c2 : Nat) : Nat → Value → World → Prop
  | 0, v, _ => v = .pointer (some ⟨q, 0, none⟩)
  | 1, v, _ => v = .int .i64 x.k
  | 2, v, _ => v = .pointer (some ⟨q, 1, none⟩)
  | 3, v, _ => v = .int .i64 x.n
  | 4, v, _ => v = .pointer (some ⟨q, 2, none⟩)
  | 5, v, _ => v = .string x.p
  | 6, v, _ => v = .string x.p
  | 7, v, _ => v = .pointer (some ⟨q, 3, none⟩)
  | 8, v, _ => v = .string x.l
  | 9, v, _ => v = .string x.l
  | 10, v, _ => v = .pointer (some ⟨q, 4, none⟩)
  | 11, v, _ => v = .string x.u
  | 12, v, _ => v = .string x.u
  | 13, v, _ => v = .pointer (some ⟨q, 5, none⟩)
  | 14, v, _ => v = .string x.t
  | 15, v, _ => v = .string x.t
  | 16, v, _ => v = .pointer (some ⟨q, 6, none⟩)
  | 17, v, _ => v = .slice A1 x.ds.length c1
  | 18, v, w => OwnDs w B v x.ds
  | 19, v, _ => v = .pointer (some ⟨q, 7, none⟩)
  | 20, v, _ => v = .slice A2 x.ats.length c2
  | 21, v, w => OwnAs w B v x.ats
  | 22, v, w => ∃ vd va, v = .agg #[.int .i64 x.k, .int .i64 x.n, .string x.p, .string x.l, .string x.u, .string x.t, vd, va] ∧ OwnDs w B vd x.ds ∧ OwnAs w B va x.ats
  | _, _, _ => True
theorem ncF_mono {q B : Nat} {x : Nd} {A1 A2 : Option Addr} {c1 c2 : Nat} (j : Nat) (v : Value) (w w' : World) (h : ncF q B x A1 A2 c1 c2 j v w) (hb : Below w.heap.size w w') : ncF q B x A1 A2 c1 c2 j v w' := by
  match j, h with
  | 0, h => exact h
  | 1, h => exact h
  | 2, h => exact h
  | 3, h => exact h
  | 4, h => exact h
  | 5, h => exact h
  | 6, h => exact h
  | 7, h => exact h
  | 8, h => exact h
  | 9, h => exact h
  | 10, h => exact h
  | 11, h => exact h
  | 12, h => exact h
  | 13, h => exact h
  | 14, h => exact h
  | 15, h => exact h
  | 16, h => exact h
  | 17, h => exact h
  | 18, h => exact OwnSl.later h hb
  | 19, h => exact h
  | 20, h => exact h
  | 21, h => exact OwnSl.later h hb
  | 22, h =>
    obtain ⟨vd, va, e, h1, h2⟩ := h
    exact ⟨vd, va, e, OwnSl.later h1 hb, OwnSl.later h2 hb⟩
  | _ + 23, _ => exact trivial
set_option maxHeartbeats 16000000 in
theorem nodeCopy_any (x : Nd) (v : Value) (hs : Sm x) (w : World) (hv : NdV w w.heap.size v x) : Calls Tryd.prog 16 #[v] w fun e w' => ∃ vd va, e = .returned (.agg #[.int .i64 x.k, .int .i64 x.n, .string x.p, .string x.l, .string x.u, .string x.t, vd, va]) ∧ OwnDs w' w.heap.size vd x.ds ∧ OwnAs w' w.heap.size va x.ats ∧ Below w.heap.size w w' := by
  obtain ⟨vd, va, rfl, hd, ha⟩ := hv
  have HD : Hid (DsAt w w.heap.size vd x.ds) := hd
  have HA : Hid (AsAt w w.heap.size va x.ats) := ha
  obtain ⟨A1, c1, rfl, hl1, hm1, _⟩ := hd
  obtain ⟨A2, c2, rfl, hl2, hm2, _⟩ := ha
  have HS := Lib.hid hs
  have HDC : Hid (∀ w', Below w.heap.size w w' → Calls Tryd.prog 25 #[.slice A1 x.ds.length c1, .func (.func 26) #[] #[]] w' fun e w'' => ∃ v', e = .returned v' ∧ OwnSl w'' w'.heap.size 37 v' x.ds.length (x.ds.flatMap dcC) ∧ Below w'.heap.size w' w'') := fun w' hb => dcopies_any x.ds _ w' (SlAt.later HD.out hb) hs.nd hs.ds
  have HAC : Hid (∀ w', Below w.heap.size w w' → Calls Tryd.prog 27 #[.slice A2 x.ats.length c2, .func (.func 28) #[] #[]] w' fun e w'' => ∃ v', e = .returned v' ∧ OwnSl w'' w'.heap.size 35 v' x.ats.length (x.ats.flatMap atC) ∧ Below w'.heap.size w' w'') := fun w' hb => acopies_any x.ats _ w' (SlAt.later HA.out hb) hs.na hs.ats
  have H2 := Lib.hid (fun w' => clone_any x.p hs.p w')
  have H3 := Lib.hid (fun w' => clone_any x.l hs.l w')
  have H4 := Lib.hid (fun w' => clone_any x.u hs.u w')
  have H5 := Lib.hid (fun w' => clone_any x.t hs.t w')
  clear hs
  go_enter Tryd.func16, Tryd.ntmps16
  go_wp2_with fail
  obtain ⟨W0, hW0⟩ : ∃ W0, (w.alloc (Obj.cells #[.int .i64 x.k, .int .i64 x.n, .string x.p, .string x.l, .string x.u, .string x.t, .slice A1 x.ds.length c1, .slice A2 x.ats.length c2] 28)).alloc (Obj.cells #[.int .i64 0, .int .i64 0, .string ⟨#[]⟩, .string ⟨#[]⟩, .string ⟨#[]⟩, .string ⟨#[]⟩, .slice none 0 0, .slice none 0 0] 28) = W0 := ⟨_, rfl⟩
  have hWb : Below w.heap.size w W0 := by rw [← hW0]; exact ((Below.refl _ _).alloc (Nat.le_refl _) _).alloc (by simp) _
  have hq : ∀ j v, (#[Value.int .i64 x.k, Value.int .i64 x.n, Value.string x.p, Value.string x.l, Value.string x.u, Value.string x.t, Value.slice A1 x.ds.length c1, Value.slice A2 x.ats.length c2] : Array Value)[j]? = some v → W0.cell? ⟨w.heap.size, j, none⟩ = some v := fun j v hv => by
    rw [← hW0]
    exact boxed (((Below.refl _ _).alloc (Nat.le_refl _) _)) hv
  have hr : W0.heap[w.heap.size + 1]? = some (.cells #[.int .i64 0, .int .i64 0, .string ⟨#[]⟩, .string ⟨#[]⟩, .string ⟨#[]⟩, .string ⟨#[]⟩, .slice none 0 0, .slice none 0 0] 28) := by
    rw [← hW0]
    have := heap_alloc_last (w.alloc (Obj.cells #[.int .i64 x.k, .int .i64 x.n, .string x.p, .string x.l, .string x.u, .string x.t, .slice A1 x.ds.length c1, .slice A2 x.ats.length c2] 28)) (Obj.cells #[.int .i64 0, .int .i64 0, .string ⟨#[]⟩, .string ⟨#[]⟩, .string ⟨#[]⟩, .string ⟨#[]⟩, .slice none 0 0, .slice none 0 0] 28)
    simpa using this
  have hql : w.heap.size < W0.heap.size := by rw [← hW0]; simp; omega
  have hrl : w.heap.size + 1 < W0.heap.size := by rw [← hW0]; simp
  have hwr : w.heap.size ≤ w.heap.size + 1 := by omega
  rw [hW0]
  clear hW0
  generalize w.heap.size + 1 = r at *
  obtain ⟨q, hqE⟩ : ∃ q, w.heap.size = q := ⟨_, rfl⟩
  have HQE := Lib.hid hqE
  rw [hqE] at hWb hq hql hwr HDC HAC ⊢
  clear hqE
  go_cut [] (fun wx => ∃ vd va, wx.heap[r]? = some (.cells #[.int .i64 x.k, .int .i64 x.n, .string x.p, .string x.l, .string x.u, .string x.t, vd, va] 28) ∧ OwnDs wx q vd x.ds ∧ OwnAs wx q va x.ats ∧ Below q w wx)
  case first =>
    refine region_facts (n := 23) (by kernel_rfl) rfl (by kernel_rfl) (by kernel_rfl) (fun f => { tmps := #[.agg #[.int .i64 x.k, .int .i64 x.n, .string x.p, .string x.l, .string x.u, .string x.t, .slice A1 x.ds.length c1, .slice A2 x.ats.length c2], .pointer (some ⟨q, 0, none⟩), .pointer (some ⟨r, 0, none⟩), f 0, f 1, f 2, f 3, f 4, f 5, f 6, f 7, f 8, f 9, f 10, f 11, f 12, f 13, f 14, f 15, f 16, f 17, f 18, f 19, f 20, f 21, f 22], defers := [] }) (ncF q q x A1 A2 c1 c2) (Below W0.heap.size W0) (fun _ => undef) W0 ncF_mono (Below.refl _ _).drew ?step ?last
    case step =>
      intro i hi f y hG hF K hK
      have hc : ∀ j v, W0.cell? ⟨q, j, none⟩ = some v → y.cell? ⟨q, j, none⟩ = some v := fun j v h => (hG.cell (p := ⟨q, j, none⟩) hql).trans h
      have hwy : Below q w y := hWb.trans (hG.mono (Nat.le_of_lt hql))
      match i, hi with
      | 0, _ =>
        clear hF
        refine wpOp_one rfl rfl ?_
        try dsimp only
        go_simp
        exact hK (.pointer (some ⟨q, 0, none⟩)) y rfl hG (Below.refl _ _)
      | 1, _ =>
        have e0 : f 0 = .pointer (some ⟨q, 0, none⟩) := hF 0 (by kernel_rfl)
        have c0 := hc 0 _ (hq 0 _ rfl)
        clear hF
        refine wpOp_one rfl rfl ?_
        try dsimp only
        go_simp
        refine K_eq (hK (.int .i64 x.k) y rfl hG (Below.refl _ _)) ?_
        simp [upd, e0]
      | 2, _ =>
        clear hF
        refine wpOp_one rfl rfl ?_
        try dsimp only
        go_simp
        exact hK (.pointer (some ⟨q, 1, none⟩)) y rfl hG (Below.refl _ _)
      | 3, _ =>
        have e0 : f 2 = .pointer (some ⟨q, 1, none⟩) := hF 2 (by kernel_rfl)
        have c0 := hc 1 _ (hq 1 _ rfl)
        clear hF
        refine wpOp_one rfl rfl ?_
        try dsimp only
        go_simp
        refine K_eq (hK (.int .i64 x.n) y rfl hG (Below.refl _ _)) ?_
        simp [upd, e0]
      | 4, _ =>
        clear hF
        refine wpOp_one rfl rfl ?_
        try dsimp only
        go_simp
        exact hK (.pointer (some ⟨q, 2, none⟩)) y rfl hG (Below.refl _ _)
      | 5, _ =>
        have e0 : f 4 = .pointer (some ⟨q, 2, none⟩) := hF 4 (by kernel_rfl)
        have c0 := hc 2 _ (hq 2 _ rfl)
        clear hF
        refine wpOp_one rfl rfl ?_
        try dsimp only
        go_simp
        refine K_eq (hK (.string x.p) y rfl hG (Below.refl _ _)) ?_
        simp [upd, e0]
      | 6, _ =>
        have e0 : f 5 = .string x.p := hF 5 (by kernel_rfl)
        clear hF
        refine wpOp_one rfl rfl ?_
        try dsimp only
        go_simp
        refine (H2.out y).mono ?_
        rintro e y1 ⟨rfl, hb1⟩
        dsimp only
        refine K_eq (hK (.string x.p) y1 rfl (hG.trans (hb1.mono hG.size)) hb1) ?_
        simp [upd, e0]
      | 7, _ =>
        clear hF
        refine wpOp_one rfl rfl ?_
        try dsimp only
        go_simp
        exact hK (.pointer (some ⟨q, 3, none⟩)) y rfl hG (Below.refl _ _)
      | 8, _ =>
        have e0 : f 7 = .pointer (some ⟨q, 3, none⟩) := hF 7 (by kernel_rfl)
        have c0 := hc 3 _ (hq 3 _ rfl)
        clear hF
        refine wpOp_one rfl rfl ?_
        try dsimp only
        go_simp
        refine K_eq (hK (.string x.l) y rfl hG (Below.refl _ _)) ?_
        simp [upd, e0]
      | 9, _ =>
        have e0 : f 8 = .string x.l := hF 8 (by kernel_rfl)
        clear hF
        refine wpOp_one rfl rfl ?_
        try dsimp only
        go_simp
        refine (H3.out y).mono ?_
        rintro e y1 ⟨rfl, hb1⟩
        dsimp only
        refine K_eq (hK (.string x.l) y1 rfl (hG.trans (hb1.mono hG.size)) hb1) ?_
        simp [upd, e0]
      | 10, _ =>
        clear hF
        refine wpOp_one rfl rfl ?_
        try dsimp only
        go_simp
        exact hK (.pointer (some ⟨q, 4, none⟩)) y rfl hG (Below.refl _ _)
      | 11, _ =>
        have e0 : f 10 = .pointer (some ⟨q, 4, none⟩) := hF 10 (by kernel_rfl)
        have c0 := hc 4 _ (hq 4 _ rfl)
        clear hF
        refine wpOp_one rfl rfl ?_
        try dsimp only
        go_simp
        refine K_eq (hK (.string x.u) y rfl hG (Below.refl _ _)) ?_
        simp [upd, e0]
      | 12, _ =>
        have e0 : f 11 = .string x.u := hF 11 (by kernel_rfl)
        clear hF
        refine wpOp_one rfl rfl ?_
        try dsimp only
        go_simp
        refine (H4.out y).mono ?_
        rintro e y1 ⟨rfl, hb1⟩
        dsimp only
        refine K_eq (hK (.string x.u) y1 rfl (hG.trans (hb1.mono hG.size)) hb1) ?_
        simp [upd, e0]
      | 13, _ =>
        clear hF
        refine wpOp_one rfl rfl ?_
        try dsimp only
        go_simp
        exact hK (.pointer (some ⟨q, 5, none⟩)) y rfl hG (Below.refl _ _)
      | 14, _ =>
        have e0 : f 13 = .pointer (some ⟨q, 5, none⟩) := hF 13 (by kernel_rfl)
        have c0 := hc 5 _ (hq 5 _ rfl)
        clear hF
        refine wpOp_one rfl rfl ?_
        try dsimp only
        go_simp
        refine K_eq (hK (.string x.t) y rfl hG (Below.refl _ _)) ?_
        simp [upd, e0]
      | 15, _ =>
        have e0 : f 14 = .string x.t := hF 14 (by kernel_rfl)
        clear hF
        refine wpOp_one rfl rfl ?_
        try dsimp only
        go_simp
        refine (H5.out y).mono ?_
        rintro e y1 ⟨rfl, hb1⟩
        dsimp only
        refine K_eq (hK (.string x.t) y1 rfl (hG.trans (hb1.mono hG.size)) hb1) ?_
        simp [upd, e0]
      | 16, _ =>
        clear hF
        refine wpOp_one rfl rfl ?_
        try dsimp only
        go_simp
        exact hK (.pointer (some ⟨q, 6, none⟩)) y rfl hG (Below.refl _ _)
      | 17, _ =>
        have e0 : f 16 = .pointer (some ⟨q, 6, none⟩) := hF 16 (by kernel_rfl)
        have c0 := hc 6 _ (hq 6 _ rfl)
        clear hF
        refine wpOp_one rfl rfl ?_
        try dsimp only
        go_simp
        refine K_eq (hK (.slice A1 x.ds.length c1) y rfl hG (Below.refl _ _)) ?_
        simp [upd, e0]
      | 18, _ =>
        have e0 : f 17 = .slice A1 x.ds.length c1 := hF 17 (by kernel_rfl)
        clear hF
        refine wpOp_one rfl rfl ?_
        try dsimp only
        go_simp
        refine (HDC.out y hwy).mono ?_
        rintro e y1 ⟨v', rfl, ho, hb1⟩
        dsimp only
        refine K_eq (hK v' y1 (OwnSl.mono ho (Nat.le_trans (Nat.le_of_lt hql) hG.size)) (hG.trans (hb1.mono hG.size)) hb1) ?_
        simp [upd, e0]
      | 19, _ =>
        clear hF
        refine wpOp_one rfl rfl ?_
        try dsimp only
        go_simp
        exact hK (.pointer (some ⟨q, 7, none⟩)) y rfl hG (Below.refl _ _)
      | 20, _ =>
        have e0 : f 19 = .pointer (some ⟨q, 7, none⟩) := hF 19 (by kernel_rfl)
        have c0 := hc 7 _ (hq 7 _ rfl)
        clear hF
        refine wpOp_one rfl rfl ?_
        try dsimp only
        go_simp
        refine K_eq (hK (.slice A2 x.ats.length c2) y rfl hG (Below.refl _ _)) ?_
        simp [upd, e0]
      | 21, _ =>
        have e0 : f 20 = .slice A2 x.ats.length c2 := hF 20 (by kernel_rfl)
        clear hF
        refine wpOp_one rfl rfl ?_
        try dsimp only
        go_simp
        refine (HAC.out y hwy).mono ?_
        rintro e y1 ⟨v', rfl, ho, hb1⟩
        dsimp only
        refine K_eq (hK v' y1 (OwnSl.mono ho (Nat.le_trans (Nat.le_of_lt hql) hG.size)) (hG.trans (hb1.mono hG.size)) hb1) ?_
        simp [upd, e0]
      | 22, _ =>
        have e0 : f 1 = .int .i64 x.k := hF 1 (by kernel_rfl)
        have e1 : f 3 = .int .i64 x.n := hF 3 (by kernel_rfl)
        have e2 : f 6 = .string x.p := hF 6 (by kernel_rfl)
        have e3 : f 9 = .string x.l := hF 9 (by kernel_rfl)
        have e4 : f 12 = .string x.u := hF 12 (by kernel_rfl)
        have e5 : f 15 = .string x.t := hF 15 (by kernel_rfl)
        have o6 : OwnDs y q (f 18) x.ds := hF 18 (by kernel_rfl)
        have o7 : OwnAs y q (f 21) x.ats := hF 21 (by kernel_rfl)
        obtain ⟨A3, c3, e6⟩ := OwnSl.form o6
        obtain ⟨A4, c4, e7⟩ := OwnSl.form o7
        rw [e6] at o6
        rw [e7] at o7
        have O6 := Lib.hid o6
        have O7 := Lib.hid o7
        clear hF o6 o7
        refine wpOp_one rfl rfl ?_
        try dsimp only
        go_simp
        refine K_eq (hK (.agg #[.int .i64 x.k, .int .i64 x.n, .string x.p, .string x.l, .string x.u, .string x.t, .slice A3 x.ds.length c3, .slice A4 x.ats.length c4]) y ⟨_, _, rfl, O6.out, O7.out⟩ hG (Below.refl _ _)) ?_
        simp [upd, e0, e1, e2, e3, e4, e5, e6, e7]
      | n + 23, hi => exact absurd hi (by omega)
    case last =>
      intro f y hG hF K hK
      obtain ⟨vd', va', e0, ho1, ho2⟩ := hF 22 (by omega)
      obtain ⟨A3, c3, rfl⟩ := OwnSl.form ho1
      obtain ⟨A4, c4, rfl⟩ := OwnSl.form ho2
      have hry : y.heap[r]? = some (.cells #[.int .i64 0, .int .i64 0, .string ⟨#[]⟩, .string ⟨#[]⟩, .string ⟨#[]⟩, .string ⟨#[]⟩, .slice none 0 0, .slice none 0 0] 28) := (hG.block r hrl).trans hr
      have hrc : ∀ j v, (#[Value.int .i64 0, Value.int .i64 0, Value.string ⟨#[]⟩, Value.string ⟨#[]⟩, Value.string ⟨#[]⟩, Value.string ⟨#[]⟩, Value.slice none 0 0, Value.slice none 0 0] : Array Value)[j]? = some v → y.cell? ⟨r, j, none⟩ = some v := fun j v hv => by rw [cell_of_row y r j _ _ _ hry]; exact hv
      have g0 := hrc 0 _ rfl
      have g1 := hrc 1 _ rfl
      have g2 := hrc 2 _ rfl
      have g3 := hrc 3 _ rfl
      have g4 := hrc 4 _ rfl
      have g5 := hrc 5 _ rfl
      have g6 := hrc 6 _ rfl
      have g7 := hrc 7 _ rfl
      have hfz : ∀ j, y.frozen? ⟨r, j, none⟩ = false := fun j => by unfold World.frozen?; rw [hry]; simp
      have HRY := Lib.hid hry
      have HO1 := Lib.hid ho1
      have HO2 := Lib.hid ho2
      refine wpOp_one rfl rfl ?_
      try dsimp only
      clear hrc hF hry ho1 ho2
      go_simp
      refine hK _ _ ?_
      go_wp2_with fail
      go_meet
      have hoth : ∀ g, g ≠ r → (((((((((y.setCell ⟨r, 0, none⟩ (.int .i64 x.k)).setCell ⟨r, 1, none⟩ (.int .i64 x.n)).setCell ⟨r, 2, none⟩ (.string x.p)).setCell ⟨r, 3, none⟩ (.string x.l)).setCell ⟨r, 4, none⟩ (.string x.u)).setCell ⟨r, 5, none⟩ (.string x.t)).setCell ⟨r, 6, none⟩ (.slice A3 x.ds.length c3)).setCell ⟨r, 7, none⟩ (.slice A4 x.ats.length c4))).heap[g]? = y.heap[g]? := fun g hg => (Below.heap_setCell _ _ _ _ hg).trans ((Below.heap_setCell _ _ _ _ hg).trans ((Below.heap_setCell _ _ _ _ hg).trans ((Below.heap_setCell _ _ _ _ hg).trans ((Below.heap_setCell _ _ _ _ hg).trans ((Below.heap_setCell _ _ _ _ hg).trans ((Below.heap_setCell _ _ _ _ hg).trans (Below.heap_setCell _ _ _ _ hg)))))))
      refine ⟨.slice A3 x.ds.length c3, .slice A4 x.ats.length c4, block_set (block_set (block_set (block_set (block_set (block_set (block_set (block_set (HRY.out)))))))), OwnSl.aside HO1.out HRY.out (by decide) hoth, OwnSl.aside HO2.out HRY.out (by decide) hoth, (((((((((hWb.trans (hG.mono (Nat.le_of_lt hql))).setCell (p := ⟨r, 0, none⟩) hwr _).setCell (p := ⟨r, 1, none⟩) hwr _).setCell (p := ⟨r, 2, none⟩) hwr _).setCell (p := ⟨r, 3, none⟩) hwr _).setCell (p := ⟨r, 4, none⟩) hwr _).setCell (p := ⟨r, 5, none⟩) hwr _).setCell (p := ⟨r, 6, none⟩) hwr _).setCell (p := ⟨r, 7, none⟩) hwr _)⟩
  case rest =>
    obtain ⟨vd', va', hx, ho1, ho2, hb⟩ := hcut
    have g0 : wc.cell? ⟨r, 0, none⟩ = some (.int .i64 x.k) := by rw [cell_of_row wc r 0 _ _ _ hx]; rfl
    have g1 : wc.cell? ⟨r, 1, none⟩ = some (.int .i64 x.n) := by rw [cell_of_row wc r 1 _ _ _ hx]; rfl
    have g2 : wc.cell? ⟨r, 2, none⟩ = some (.string x.p) := by rw [cell_of_row wc r 2 _ _ _ hx]; rfl
    have g3 : wc.cell? ⟨r, 3, none⟩ = some (.string x.l) := by rw [cell_of_row wc r 3 _ _ _ hx]; rfl
    have g4 : wc.cell? ⟨r, 4, none⟩ = some (.string x.u) := by rw [cell_of_row wc r 4 _ _ _ hx]; rfl
    have g5 : wc.cell? ⟨r, 5, none⟩ = some (.string x.t) := by rw [cell_of_row wc r 5 _ _ _ hx]; rfl
    have g6 : wc.cell? ⟨r, 6, none⟩ = some vd' := by rw [cell_of_row wc r 6 _ _ _ hx]; rfl
    have g7 : wc.cell? ⟨r, 7, none⟩ = some va' := by rw [cell_of_row wc r 7 _ _ _ hx]; rfl
    have HO1 := Lib.hid ho1
    have HO2 := Lib.hid ho2
    clear ho1 ho2
    go_wp2
    refine bodyPost_ret (v := .agg #[.int .i64 x.k, .int .i64 x.n, .string x.p, .string x.l, .string x.u, .string x.t, vd', va']) (by simp [results, Tryd.results16, go_sem, g0, g1, g2, g3, g4, g5, g6, g7]) rfl ⟨_, _, rfl, by rw [HQE.out]; exact HO1.out, by rw [HQE.out]; exact HO2.out, by rw [HQE.out]; exact hb⟩
end Go.Proofs.YtalcmhngebobnaaDoor
