/-
  (*scope).end: what begin laid is taken back. Conditions: the scope lies as it is, the list too; there are not too many, the texts are not too long.
-/
import Derived.Test.YtalcmhngebobnaaDoorDScope
import Derived.StillTailTactics
import Derived.Deep.LoopGhost
namespace Go.Proofs.YtalcmhngebobnaaDoor
open Go.RowKit Go.Maps Go.WideMaps
set_option linter.unusedVariables false
set_option maxRecDepth 100000
/-- What holds at each round's head. -/
def EnRel (w : World) (B sb mb N n x : Nat) (O : Obj) (S ds : List Dc) (g : Nat) (i : Value) (wr : World) : Prop :=
  g ≤ n ∧ i = .int .i64 ((g : Int) - 1) ∧ Sc wr B sb mb (N + (n - g)) x O ((ds.take g).reverse ++ S) ∧ Below B w wr
theorem own_cell {w : World} {B e k n g cap : Nat} {xs : List Value} (h : w.ownsRow B e k (.slice (some ⟨g, 0, none⟩) n cap) n xs) {j : Nat} {u : Value} (hj : xs[j]? = some u) : w.cell? ⟨g, j, none⟩ = some u := by
  obtain ⟨hl, h | ⟨g', cap', cur, e, hb, hh, hn, hc, hs, ht⟩⟩ := h
  · simp at h
  · simp only [Value.slice.injEq, Option.some.injEq, Addr.mk.injEq] at e
    obtain ⟨⟨rfl, _⟩, _, rfl⟩ := e
    rw [cell_of_row w g j cur _ (0, 0) hh, ← Array.getElem?_toList]
    have hjl := (List.getElem?_eq_some_iff.1 hj).1
    rw [← ht] at hj hjl
    rw [List.length_take] at hjl
    rw [List.getElem?_take_of_lt (by omega)] at hj
    exact hj
theorem own_less {w : World} {B e g cap n : Nat} {xs ys : List Value} (h : w.ownsRow B e 2 (.slice (some ⟨g, 0, none⟩) (n + 1) cap) (n + 1) (xs ++ ys)) (hx : xs.length = n * 2) : w.ownsRow B e 2 (.slice (some ⟨g, 0, none⟩) n cap) n xs := by
  obtain ⟨hl, h | ⟨g', cap', cur, e, hb, hh, hn, hc, hs, ht⟩⟩ := h
  · simp at h
  · simp only [Value.slice.injEq, Option.some.injEq, Addr.mk.injEq] at e
    obtain ⟨⟨rfl, _⟩, _, rfl⟩ := e
    refine ⟨hx, .inr ⟨g, cap, cur, rfl, hb, hh, by omega, hc, hs, ?_⟩⟩
    have := congrArg (List.take (n * 2)) ht
    rw [List.take_take, Nat.min_eq_left (by omega), List.take_left' hx] at this
    exact this
theorem far_setE {w : World} {b1 o1 b2 o2 : Nat} {v : Value} (h : b1 ≠ b2 ∨ o1 ≠ o2) : (w.setCell ⟨b1, o1, none⟩ v).cell? ⟨b2, o2, none⟩ = w.cell? ⟨b2, o2, none⟩ := by
  refine World.cell?_setCell_other _ _ _ _ ?_
  intro e
  simp at e
  omega
set_option maxHeartbeats 16000000 in
theorem end_any (B sb mb N x : Nat) (O : Obj) (S ds : List Dc) (vd : Value) (w : World) (hsc : Sc w B sb mb N x O (ds.reverse ++ S)) (hB : B ≤ w.heap.size) (hd : DsAt w B vd ds) (hN : N ≤ 1000000000000) (hS : S.length ≤ 1000000000000) (hn : ds.length ≤ 2000000) (hs : ∀ d ∈ ds, d.p.size ≤ 2000000) :
    Calls Tryd.prog 37 #[.pointer (some ⟨sb, 0, none⟩), vd] w fun e w' => e = .returned (.tuple #[]) ∧ Sc w' B sb mb (N + ds.length) x O S ∧ Below B w w' := by
  have HD : Hid (DsAt w B vd ds) := hd
  have HSC := Lib.hid hsc
  obtain ⟨A, cap, rfl, hc1, hc2, _⟩ := hd
  obtain ⟨n, hnE⟩ : ∃ n, ds.length = n := ⟨_, rfl⟩
  have HN := Lib.hid hnE
  rw [hnE] at hn hc1 ⊢
  clear hnE hsc
  go_enter Tryd.func37, Tryd.ntmps37
  go_wp2
  go_loopg [4] n (EnRel w B sb mb N n x O S ds)
  case atStart => exact ⟨Nat.le_refl _, by first | rfl | go_num, by rw [List.take_of_length_le (by rw [HN.out]; exact Nat.le_refl _), Nat.sub_self]; exact HSC.out, Below.refl _ _⟩
  case round =>
    obtain ⟨hg, rfl, ⟨v, D, hA⟩, hb⟩ := hrel
    cases gk with
    | succ g =>
      have hkl : g < ds.length := by rw [HN.out]; omega
      obtain ⟨b, o, cap', e, _, _, hbB, hcell⟩ := DsAt.open (SlAt.below HD.out hb) (by omega)
      simp only [Value.slice.injEq] at e
      obtain ⟨rfl, _, rfl⟩ := e
      obtain ⟨d0, d1⟩ := hcell g hkl
      have hsd := hs _ (List.getElem_mem hkl)
      have hgz : (g : Int) < (n : Int) := by omega
      obtain ⟨d, hdE⟩ : ∃ d, ds[g] = d := ⟨_, rfl⟩
      rw [hdE] at d0 d1 hsd
      have hRV : (ds.take (g + 1)).reverse ++ S = d :: ((ds.take g).reverse ++ S) := by
        rw [List.take_succ_eq_append_getElem hkl, hdE]; simp
      rw [hRV] at hA
      obtain ⟨Sk, hSk⟩ : ∃ Sk, (ds.take g).reverse ++ S = Sk := ⟨_, rfl⟩
      rw [hSk] at hA
      have hSkl : Sk.length ≤ 1000002000000 := by rw [← hSk]; simp; omega
      have HSK := Lib.hid hSk
      obtain ⟨gb, capg, rfl, hgb1, hgb2⟩ := hA.own.form (by simp)
      obtain ⟨nr, hnr⟩ : ∃ nr, nrS Sk d.p.data.toList = nr := ⟨_, rfl⟩
      obtain ⟨sl, hsl⟩ : ∃ sl, Sk.length = sl := ⟨_, rfl⟩
      have ho1 : wr.cell? ⟨gb, sl * 2 + 1, none⟩ = some (.int .i64 (nr : Nat)) := own_cell hA.own (by
        rw [cellsS, List.getElem?_append_right (by rw [cellsS_length, hsl]; omega), cellsS_length, hsl, hnr, show sl * 2 + 1 - sl * 2 = 1 by omega]; rfl)
      have c0 := hA.c0
      have c1 := hA.c1
      have hmap := hA.map
      have hkey := keyS d.p hsd
      have hlen1 : (d :: Sk).length = sl + 1 := by rw [List.length_cons, hsl]
      rw [hlen1] at c0
      rw [hsl] at hSkl
      have HNR := Lib.hid hnr
      have HSLE := Lib.hid hsl
      have HA := Lib.hid hA
      have HB := Lib.hid hb
      have hnrl : nr ≤ sl := by rw [← hnr, ← hsl]; exact nrS_le _ _
      have hslz : (sl : Int) < (sl : Int) + 1 := by omega
      have hgi : ((g + 1 : Nat) : Int) - 1 = (g : Int) := by omega
      rw [hgi]
      clear hcell hdE hSk hA hb hnr hsl hlen1 hRV hgi
      go_wp2
      go_still_tail 17, (by kernel_rfl)
      change wpList _ _ _ _ _ wr.drew
      go_wp2_with (at_mapUpdate; refine wpList_mapUpdate_own _ rfl _ _ _ 57 rfl 9 3 lawS Tryd.underlying57 _ mb _ D rfl hmap.drew (by unfold maxLen; omega) _ _ _ rfl rfl hkey _ [] (plainElem_int Tryd.underlying3 (WalkArith.wf_i64 (by omega))) ?_)
      intro w1 hown1 hgrow1
      have hA := HA.out
      have hfar : ∀ y, y < wr.heap.size → y ≠ mb → w1.heap[y]? = wr.heap[y]? := fun y h1 h2 => hgrow1.block y h1 (fun e => h2 (by simpa using e))
      have k0 : w1.cell? ⟨sb, 0, none⟩ = some (.slice (some ⟨gb, 0, none⟩) (sl + 1) capg) := (World.cell?_of_block (w := wr) (hfar sb hA.lt hA.ne)).trans c0
      have k1 : w1.frozen? ⟨sb, 0, none⟩ = false := (World.frozen?_of_block (w := wr) (hfar sb hA.lt hA.ne)).trans hA.f0
      have HK0 : Hid (w1.cell? ⟨sb, 1, none⟩ = some (.map (some mb))) := (World.cell?_of_block (w := wr) (hfar sb hA.lt hA.ne)).trans c1
      have HOW : Hid (w1.ownsRow B 72 2 (.slice (some ⟨gb, 0, none⟩) sl capg) sl (cellsS Sk)) := by
        have h := ownsRow_same hA.own (fun x hx => hfar x (own_lt hA.own hx).2 (fun e => hA.n2 (by rw [hx, e])))
        rw [List.length_cons, HSLE.out] at h
        exact own_less h (by rw [cellsS_length, HSLE.out])
      have HXK : Hid (w1.heap[x]? = some O) := (hfar x (block_lt hA.xk) hA.xm).trans hA.xk
      have hng : gb ≠ sb := fun e => hA.n1 (by rw [e]; rfl)
      have hngm : gb ≠ mb := fun e => hA.n2 (by rw [e]; rfl)
      have HMP := Lib.hid hown1
      have HBX : Hid (Below B w w1) := HB.out.drew.grown hgrow1 (Nat.le_trans hB HB.out.size) (fun j hj => by cases hj; exact hA.b2)
      have hcap : (sl : Int) ≤ (capg : Int) := by
        obtain ⟨_, h | ⟨g', cap', cur, e, _, _, hn', _⟩⟩ := HOW.out
        · simp at h
        · simp only [Value.slice.injEq] at e; omega
      clear hown1 hgrow1 hfar hA c0 c1 hmap hkey d0 d1 ho1
      go_wp2
      go_roundg g
      case measure => omega
      case rel =>
        have hA := HA.out
        refine ⟨by omega, by first | rfl | go_num, ?_, HBX.out.setCell (p := ⟨sb, 0, none⟩) hA.b1 _⟩
        rw [HSK.out]
        refine ⟨_, D.put (.string d.p.data.toList) (.lit (.int .i64 (nr : Nat))), World.cell?_setCell_same _ _ _ k0, (far_setE (.inr (by omega))).trans HK0.out, (World.frozen?_setCell _ _ _ _).trans k1, ?_, ?_, ?_, hA.ne, by simp [Value.ownBlock]; exact hng, by simp [Value.ownBlock]; exact hngm, hA.b1, hA.b2, hA.xs, hA.xm, hA.xv, (Below.heap_setCell _ _ _ _ hA.xs).trans HXK.out⟩
        · rw [HSLE.out]
          exact ownsRow_same HOW.out (fun x hx => by
            simp [Value.ownBlock] at hx
            subst hx
            exact Below.heap_setCell _ _ _ _ hng)
        · have h := ownsMap_same HMP.out (Below.heap_setCell w1 ⟨sb, 0, none⟩ (.slice (some ⟨gb, 0, none⟩) sl capg) mb (Ne.symm hA.ne))
          have e : N + (n - (g + 1)) + 1 = N + (n - g) := by omega
          rw [e] at h
          exact h
        · have h := look_pop hA.map.isMap hA.look
          rw [HNR.out] at h
          exact h
    | zero =>
      have HA := Lib.hid hA
      clear hA
      go_wp2
      go_end0
      exact ⟨rfl, ⟨v, D, HA.out⟩, hb⟩
end Go.Proofs.YtalcmhngebobnaaDoor
