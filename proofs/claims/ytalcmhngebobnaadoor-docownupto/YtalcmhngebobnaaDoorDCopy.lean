/-
  doc.declCopy and doc.attrCopy: copies of declarations and attributes. Conditions: the texts are not too long.
-/
import Derived.Test.YtalcmhngebobnaaDoorDOrders
import Derived.Test.YtalcmhngebobnaaDoorDForm
import Derived.Deep.DeepCutAuto
import Derived.Deep.LoopGhost
namespace Go.Proofs.YtalcmhngebobnaaDoor
open Go.RowKit
set_option linter.unusedVariables false
set_option maxRecDepth 100000
theorem block_set {w : World} {b j : Nat} {cs : Array Value} {t : TypeId} {fz : Nat × Nat} {v : Value} (h : w.heap[b]? = some (.cells cs t fz)) : (w.setCell ⟨b, j, none⟩ v).heap[b]? = some (.cells (cs.setIfInBounds j v) t fz) := by
  simp only [World.setCell, Array.getElem?_modify, if_true, h, Option.map_some]
  rfl
theorem K_eq {K : Act → World → Prop} {a b : Act} {w : World} (h : K a w) (e : a = b) : K b w := e ▸ h
def declCopy_anyF (q : Nat) (P : ByteArray) (U : ByteArray) : Nat → Value
  | 0 => .pointer (some ⟨q, 0, none⟩)
  | 1 => .string P
  | 2 => .string P
  | 3 => .pointer (some ⟨q, 1, none⟩)
  | 4 => .string U
  | 5 => .string U
  | 6 => .agg #[.string P, .string U]
  | _ => undef
set_option maxHeartbeats 8000000 in
theorem declCopy_any (P : ByteArray) (U : ByteArray) (hP : P.size ≤ 2000000) (hU : U.size ≤ 2000000) (w : World) : Calls Tryd.prog 26 #[.agg #[.string P, .string U]] w fun e w' => e = .returned (.agg #[.string P, .string U]) ∧ Below w.heap.size w w' := by
  have HP := Lib.hid (fun w' => clone_any P hP w')
  have HU := Lib.hid (fun w' => clone_any U hU w')
  go_enter Tryd.func26, Tryd.ntmps26
  go_wp2_with fail
  obtain ⟨W0, hW0⟩ : ∃ W0, (w.alloc (Obj.cells #[.string P, .string U] 37)).alloc (Obj.cells #[.string ⟨#[]⟩, .string ⟨#[]⟩] 37) = W0 := ⟨_, rfl⟩
  have hWb : Below w.heap.size w W0 := by rw [← hW0]; exact ((Below.refl _ _).alloc (Nat.le_refl _) _).alloc (by simp) _
  have hq : ∀ j v, (#[Value.string P, Value.string U] : Array Value)[j]? = some v → W0.cell? ⟨w.heap.size, j, none⟩ = some v := fun j v hv => by
    rw [← hW0]
    exact boxed (((Below.refl _ _).alloc (Nat.le_refl _) _)) hv
  have hr : W0.heap[w.heap.size + 1]? = some (.cells #[.string ⟨#[]⟩, .string ⟨#[]⟩] 37) := by
    rw [← hW0]
    have := heap_alloc_last (w.alloc (Obj.cells #[.string P, .string U] 37)) (Obj.cells #[.string ⟨#[]⟩, .string ⟨#[]⟩] 37)
    simpa using this
  have hql : w.heap.size < W0.heap.size := by rw [← hW0]; simp; omega
  have hrl : w.heap.size + 1 < W0.heap.size := by rw [← hW0]; simp
  have hwr : w.heap.size ≤ w.heap.size + 1 := by omega
  rw [hW0]
  clear hW0
  generalize w.heap.size + 1 = r at *
  obtain ⟨q, hqE⟩ : ∃ q, w.heap.size = q := ⟨_, rfl⟩
  have HQE := Lib.hid hqE
  rw [hqE] at hWb hq hql hwr ⊢
  clear hqE
  go_cut [] (fun wx => wx.heap[r]? = some (.cells #[.string P, .string U] 37) ∧ Below q w wx)
  case first =>
    refine region_facts (n := 7) (by kernel_rfl) rfl (by kernel_rfl) (by kernel_rfl) (fun f => { tmps := #[.agg #[.string P, .string U], .pointer (some ⟨q, 0, none⟩), .pointer (some ⟨r, 0, none⟩), f 0, f 1, f 2, f 3, f 4, f 5, f 6], defers := [] }) (fun i v _ => v = declCopy_anyF q P U i) (Below W0.heap.size W0) (fun _ => undef) W0 (fun _ _ _ _ h _ => h) (Below.refl _ _).drew ?step ?last
    case step =>
      intro i hi f x hG hF K hK
      have hc : ∀ j v, W0.cell? ⟨q, j, none⟩ = some v → x.cell? ⟨q, j, none⟩ = some v := fun j v h => (hG.cell (p := ⟨q, j, none⟩) hql).trans h
      match i, hi with
      | 0, _ =>
        refine wpOp_one rfl rfl ?_
        try dsimp only
        go_simp
        exact hK (.pointer (some ⟨q, 0, none⟩)) x rfl hG (Below.refl _ _)
      | 1, _ =>
        have e0 : f 0 = .pointer (some ⟨q, 0, none⟩) := hF 0 (by kernel_rfl)
        have c0 := hc 0 _ (hq 0 _ rfl)
        refine wpOp_one rfl rfl ?_
        try dsimp only
        go_simp
        refine K_eq (hK (.string P) x rfl hG (Below.refl _ _)) ?_
        simp [upd, e0]
      | 2, _ =>
        have e0 : f 1 = .string P := hF 1 (by kernel_rfl)
        refine wpOp_one rfl rfl ?_
        try dsimp only
        go_simp
        refine (HP.out x).mono ?_
        rintro e x1 ⟨rfl, hb1⟩
        try dsimp only
        refine K_eq (hK (.string P) x1 rfl (hG.trans (hb1.mono hG.size)) hb1) ?_
        simp [upd, e0]
      | 3, _ =>
        refine wpOp_one rfl rfl ?_
        try dsimp only
        go_simp
        exact hK (.pointer (some ⟨q, 1, none⟩)) x rfl hG (Below.refl _ _)
      | 4, _ =>
        have e0 : f 3 = .pointer (some ⟨q, 1, none⟩) := hF 3 (by kernel_rfl)
        have c0 := hc 1 _ (hq 1 _ rfl)
        refine wpOp_one rfl rfl ?_
        try dsimp only
        go_simp
        refine K_eq (hK (.string U) x rfl hG (Below.refl _ _)) ?_
        simp [upd, e0]
      | 5, _ =>
        have e0 : f 4 = .string U := hF 4 (by kernel_rfl)
        refine wpOp_one rfl rfl ?_
        try dsimp only
        go_simp
        refine (HU.out x).mono ?_
        rintro e x1 ⟨rfl, hb1⟩
        try dsimp only
        refine K_eq (hK (.string U) x1 rfl (hG.trans (hb1.mono hG.size)) hb1) ?_
        simp [upd, e0]
      | 6, _ =>
        have e0 : f 2 = .string P := hF 2 (by kernel_rfl)
        have e1 : f 5 = .string U := hF 5 (by kernel_rfl)
        refine wpOp_one rfl rfl ?_
        try dsimp only
        go_simp
        refine K_eq (hK (.agg #[.string P, .string U]) x rfl hG (Below.refl _ _)) ?_
        simp [upd, e0, e1]
    case last =>
      intro f x hG hF K hK
      have e0 : f 6 = .agg #[.string P, .string U] := hF 6 (by omega)
      have hrx : x.heap[r]? = some (.cells #[.string ⟨#[]⟩, .string ⟨#[]⟩] 37) := (hG.block r hrl).trans hr
      have hrc : ∀ j v, (#[Value.string ⟨#[]⟩, Value.string ⟨#[]⟩] : Array Value)[j]? = some v → x.cell? ⟨r, j, none⟩ = some v := fun j v hv => by rw [cell_of_row x r j _ _ _ hrx]; exact hv
      have g0 := hrc 0 _ rfl
      have g1 := hrc 1 _ rfl
      have hfz : ∀ j, x.frozen? ⟨r, j, none⟩ = false := fun j => by unfold World.frozen?; rw [hrx]; simp
      refine wpOp_one rfl rfl ?_
      try dsimp only
      clear hrc hF
      go_simp
      refine hK _ _ ?_
      go_wp2_with fail
      go_meet
      exact ⟨block_set (block_set (hrx)), (((hWb.trans (hG.mono (Nat.le_of_lt hql))).setCell (p := ⟨r, 0, none⟩) hwr _).setCell (p := ⟨r, 1, none⟩) hwr _)⟩
  case rest =>
    obtain ⟨hx, hb⟩ := hcut
    have g0 : wc.cell? ⟨r, 0, none⟩ = some (.string P) := by rw [cell_of_row wc r 0 _ _ _ hx]; rfl
    have g1 : wc.cell? ⟨r, 1, none⟩ = some (.string U) := by rw [cell_of_row wc r 1 _ _ _ hx]; rfl
    go_wp2
    refine bodyPost_ret (v := .agg #[.string P, .string U]) (by simp [results, Tryd.results26, go_sem, g0, g1]) rfl ⟨rfl, by rw [HQE.out]; exact hb⟩
def attrCopy_anyF (q : Nat) (P : ByteArray) (L : ByteArray) (U : ByteArray) (V : ByteArray) : Nat → Value
  | 0 => .pointer (some ⟨q, 0, none⟩)
  | 1 => .string P
  | 2 => .string P
  | 3 => .pointer (some ⟨q, 1, none⟩)
  | 4 => .string L
  | 5 => .string L
  | 6 => .pointer (some ⟨q, 2, none⟩)
  | 7 => .string U
  | 8 => .string U
  | 9 => .pointer (some ⟨q, 3, none⟩)
  | 10 => .string V
  | 11 => .string V
  | 12 => .agg #[.string P, .string L, .string U, .string V]
  | _ => undef
set_option maxHeartbeats 8000000 in
theorem attrCopy_any (P : ByteArray) (L : ByteArray) (U : ByteArray) (V : ByteArray) (hP : P.size ≤ 2000000) (hL : L.size ≤ 2000000) (hU : U.size ≤ 2000000) (hV : V.size ≤ 2000000) (w : World) : Calls Tryd.prog 28 #[.agg #[.string P, .string L, .string U, .string V]] w fun e w' => e = .returned (.agg #[.string P, .string L, .string U, .string V]) ∧ Below w.heap.size w w' := by
  have HP := Lib.hid (fun w' => clone_any P hP w')
  have HL := Lib.hid (fun w' => clone_any L hL w')
  have HU := Lib.hid (fun w' => clone_any U hU w')
  have HV := Lib.hid (fun w' => clone_any V hV w')
  go_enter Tryd.func28, Tryd.ntmps28
  go_wp2_with fail
  obtain ⟨W0, hW0⟩ : ∃ W0, (w.alloc (Obj.cells #[.string P, .string L, .string U, .string V] 35)).alloc (Obj.cells #[.string ⟨#[]⟩, .string ⟨#[]⟩, .string ⟨#[]⟩, .string ⟨#[]⟩] 35) = W0 := ⟨_, rfl⟩
  have hWb : Below w.heap.size w W0 := by rw [← hW0]; exact ((Below.refl _ _).alloc (Nat.le_refl _) _).alloc (by simp) _
  have hq : ∀ j v, (#[Value.string P, Value.string L, Value.string U, Value.string V] : Array Value)[j]? = some v → W0.cell? ⟨w.heap.size, j, none⟩ = some v := fun j v hv => by
    rw [← hW0]
    exact boxed (((Below.refl _ _).alloc (Nat.le_refl _) _)) hv
  have hr : W0.heap[w.heap.size + 1]? = some (.cells #[.string ⟨#[]⟩, .string ⟨#[]⟩, .string ⟨#[]⟩, .string ⟨#[]⟩] 35) := by
    rw [← hW0]
    have := heap_alloc_last (w.alloc (Obj.cells #[.string P, .string L, .string U, .string V] 35)) (Obj.cells #[.string ⟨#[]⟩, .string ⟨#[]⟩, .string ⟨#[]⟩, .string ⟨#[]⟩] 35)
    simpa using this
  have hql : w.heap.size < W0.heap.size := by rw [← hW0]; simp; omega
  have hrl : w.heap.size + 1 < W0.heap.size := by rw [← hW0]; simp
  have hwr : w.heap.size ≤ w.heap.size + 1 := by omega
  rw [hW0]
  clear hW0
  generalize w.heap.size + 1 = r at *
  obtain ⟨q, hqE⟩ : ∃ q, w.heap.size = q := ⟨_, rfl⟩
  have HQE := Lib.hid hqE
  rw [hqE] at hWb hq hql hwr ⊢
  clear hqE
  go_cut [] (fun wx => wx.heap[r]? = some (.cells #[.string P, .string L, .string U, .string V] 35) ∧ Below q w wx)
  case first =>
    refine region_facts (n := 13) (by kernel_rfl) rfl (by kernel_rfl) (by kernel_rfl) (fun f => { tmps := #[.agg #[.string P, .string L, .string U, .string V], .pointer (some ⟨q, 0, none⟩), .pointer (some ⟨r, 0, none⟩), f 0, f 1, f 2, f 3, f 4, f 5, f 6, f 7, f 8, f 9, f 10, f 11, f 12], defers := [] }) (fun i v _ => v = attrCopy_anyF q P L U V i) (Below W0.heap.size W0) (fun _ => undef) W0 (fun _ _ _ _ h _ => h) (Below.refl _ _).drew ?step ?last
    case step =>
      intro i hi f x hG hF K hK
      have hc : ∀ j v, W0.cell? ⟨q, j, none⟩ = some v → x.cell? ⟨q, j, none⟩ = some v := fun j v h => (hG.cell (p := ⟨q, j, none⟩) hql).trans h
      match i, hi with
      | 0, _ =>
        refine wpOp_one rfl rfl ?_
        try dsimp only
        go_simp
        exact hK (.pointer (some ⟨q, 0, none⟩)) x rfl hG (Below.refl _ _)
      | 1, _ =>
        have e0 : f 0 = .pointer (some ⟨q, 0, none⟩) := hF 0 (by kernel_rfl)
        have c0 := hc 0 _ (hq 0 _ rfl)
        refine wpOp_one rfl rfl ?_
        try dsimp only
        go_simp
        refine K_eq (hK (.string P) x rfl hG (Below.refl _ _)) ?_
        simp [upd, e0]
      | 2, _ =>
        have e0 : f 1 = .string P := hF 1 (by kernel_rfl)
        refine wpOp_one rfl rfl ?_
        try dsimp only
        go_simp
        refine (HP.out x).mono ?_
        rintro e x1 ⟨rfl, hb1⟩
        try dsimp only
        refine K_eq (hK (.string P) x1 rfl (hG.trans (hb1.mono hG.size)) hb1) ?_
        simp [upd, e0]
      | 3, _ =>
        refine wpOp_one rfl rfl ?_
        try dsimp only
        go_simp
        exact hK (.pointer (some ⟨q, 1, none⟩)) x rfl hG (Below.refl _ _)
      | 4, _ =>
        have e0 : f 3 = .pointer (some ⟨q, 1, none⟩) := hF 3 (by kernel_rfl)
        have c0 := hc 1 _ (hq 1 _ rfl)
        refine wpOp_one rfl rfl ?_
        try dsimp only
        go_simp
        refine K_eq (hK (.string L) x rfl hG (Below.refl _ _)) ?_
        simp [upd, e0]
      | 5, _ =>
        have e0 : f 4 = .string L := hF 4 (by kernel_rfl)
        refine wpOp_one rfl rfl ?_
        try dsimp only
        go_simp
        refine (HL.out x).mono ?_
        rintro e x1 ⟨rfl, hb1⟩
        try dsimp only
        refine K_eq (hK (.string L) x1 rfl (hG.trans (hb1.mono hG.size)) hb1) ?_
        simp [upd, e0]
      | 6, _ =>
        refine wpOp_one rfl rfl ?_
        try dsimp only
        go_simp
        exact hK (.pointer (some ⟨q, 2, none⟩)) x rfl hG (Below.refl _ _)
      | 7, _ =>
        have e0 : f 6 = .pointer (some ⟨q, 2, none⟩) := hF 6 (by kernel_rfl)
        have c0 := hc 2 _ (hq 2 _ rfl)
        refine wpOp_one rfl rfl ?_
        try dsimp only
        go_simp
        refine K_eq (hK (.string U) x rfl hG (Below.refl _ _)) ?_
        simp [upd, e0]
      | 8, _ =>
        have e0 : f 7 = .string U := hF 7 (by kernel_rfl)
        refine wpOp_one rfl rfl ?_
        try dsimp only
        go_simp
        refine (HU.out x).mono ?_
        rintro e x1 ⟨rfl, hb1⟩
        try dsimp only
        refine K_eq (hK (.string U) x1 rfl (hG.trans (hb1.mono hG.size)) hb1) ?_
        simp [upd, e0]
      | 9, _ =>
        refine wpOp_one rfl rfl ?_
        try dsimp only
        go_simp
        exact hK (.pointer (some ⟨q, 3, none⟩)) x rfl hG (Below.refl _ _)
      | 10, _ =>
        have e0 : f 9 = .pointer (some ⟨q, 3, none⟩) := hF 9 (by kernel_rfl)
        have c0 := hc 3 _ (hq 3 _ rfl)
        refine wpOp_one rfl rfl ?_
        try dsimp only
        go_simp
        refine K_eq (hK (.string V) x rfl hG (Below.refl _ _)) ?_
        simp [upd, e0]
      | 11, _ =>
        have e0 : f 10 = .string V := hF 10 (by kernel_rfl)
        refine wpOp_one rfl rfl ?_
        try dsimp only
        go_simp
        refine (HV.out x).mono ?_
        rintro e x1 ⟨rfl, hb1⟩
        try dsimp only
        refine K_eq (hK (.string V) x1 rfl (hG.trans (hb1.mono hG.size)) hb1) ?_
        simp [upd, e0]
      | 12, _ =>
        have e0 : f 2 = .string P := hF 2 (by kernel_rfl)
        have e1 : f 5 = .string L := hF 5 (by kernel_rfl)
        have e2 : f 8 = .string U := hF 8 (by kernel_rfl)
        have e3 : f 11 = .string V := hF 11 (by kernel_rfl)
        refine wpOp_one rfl rfl ?_
        try dsimp only
        go_simp
        refine K_eq (hK (.agg #[.string P, .string L, .string U, .string V]) x rfl hG (Below.refl _ _)) ?_
        simp [upd, e0, e1, e2, e3]
    case last =>
      intro f x hG hF K hK
      have e0 : f 12 = .agg #[.string P, .string L, .string U, .string V] := hF 12 (by omega)
      have hrx : x.heap[r]? = some (.cells #[.string ⟨#[]⟩, .string ⟨#[]⟩, .string ⟨#[]⟩, .string ⟨#[]⟩] 35) := (hG.block r hrl).trans hr
      have hrc : ∀ j v, (#[Value.string ⟨#[]⟩, Value.string ⟨#[]⟩, Value.string ⟨#[]⟩, Value.string ⟨#[]⟩] : Array Value)[j]? = some v → x.cell? ⟨r, j, none⟩ = some v := fun j v hv => by rw [cell_of_row x r j _ _ _ hrx]; exact hv
      have g0 := hrc 0 _ rfl
      have g1 := hrc 1 _ rfl
      have g2 := hrc 2 _ rfl
      have g3 := hrc 3 _ rfl
      have hfz : ∀ j, x.frozen? ⟨r, j, none⟩ = false := fun j => by unfold World.frozen?; rw [hrx]; simp
      refine wpOp_one rfl rfl ?_
      try dsimp only
      clear hrc hF
      go_simp
      refine hK _ _ ?_
      go_wp2_with fail
      go_meet
      exact ⟨block_set (block_set (block_set (block_set (hrx)))), (((((hWb.trans (hG.mono (Nat.le_of_lt hql))).setCell (p := ⟨r, 0, none⟩) hwr _).setCell (p := ⟨r, 1, none⟩) hwr _).setCell (p := ⟨r, 2, none⟩) hwr _).setCell (p := ⟨r, 3, none⟩) hwr _)⟩
  case rest =>
    obtain ⟨hx, hb⟩ := hcut
    have g0 : wc.cell? ⟨r, 0, none⟩ = some (.string P) := by rw [cell_of_row wc r 0 _ _ _ hx]; rfl
    have g1 : wc.cell? ⟨r, 1, none⟩ = some (.string L) := by rw [cell_of_row wc r 1 _ _ _ hx]; rfl
    have g2 : wc.cell? ⟨r, 2, none⟩ = some (.string U) := by rw [cell_of_row wc r 2 _ _ _ hx]; rfl
    have g3 : wc.cell? ⟨r, 3, none⟩ = some (.string V) := by rw [cell_of_row wc r 3 _ _ _ hx]; rfl
    go_wp2
    refine bodyPost_ret (v := .agg #[.string P, .string L, .string U, .string V]) (by simp [results, Tryd.results28, go_sem, g0, g1, g2, g3]) rfl ⟨rfl, by rw [HQE.out]; exact hb⟩
end Go.Proofs.YtalcmhngebobnaaDoor
