/-
  What the document's own block makes of what was summed. Conditions: the block has 64 bytes.
-/
import Derived.Test.YtlndjmpopoihnaaDoorRWords
import Derived.Test.YtlndjmpopoihnaaDoorRTabs
import Derived.Deep.Cut
namespace Go.Proofs.YtlndjmpopoihnaaDoor
open Go.RowKit
attribute [local go_sem] u_or u_xor u_and u_add u_nots
/-- Eight words, those behind place j moved on by one. -/
def partS (z : S8) (j : Nat) : List Value := u32c ((lst z).take (j + 1) ++ ((lst z).drop j).take (7 - j))
theorem partS_at (z : S8) {j : Nat} (h0 : 1 ≤ j) (h : j ≤ 7) : (partS z j)[j - 1]? = some (.int .u32 (u ((lst z).getD (j - 1) 0))) := by
  have hj : j = 1 ∨ j = 2 ∨ j = 3 ∨ j = 4 ∨ j = 5 ∨ j = 6 ∨ j = 7 := by omega
  rcases hj with rfl | rfl | rfl | rfl | rfl | rfl | rfl <;> rfl
theorem partS_set (z : S8) {j : Nat} (h0 : 1 ≤ j) (h : j ≤ 7) : (partS z j).set j (.int .u32 (u ((lst z).getD (j - 1) 0))) = partS z (j - 1) := by
  have hj : j = 1 ∨ j = 2 ∨ j = 3 ∨ j = 4 ∨ j = 5 ∨ j = 6 ∨ j = 7 := by omega
  rcases hj with rfl | rfl | rfl | rfl | rfl | rfl | rfl <;> rfl
theorem partS_length (z : S8) {j : Nat} (h : j ≤ 7) : (partS z j).length = 8 := by
  have hj : j = 0 ∨ j = 1 ∨ j = 2 ∨ j = 3 ∨ j = 4 ∨ j = 5 ∨ j = 6 ∨ j = 7 := by omega
  rcases hj with rfl | rfl | rfl | rfl | rfl | rfl | rfl | rfl <;> rfl
/-- The first so many words have been added. -/
def partT (s z : S8) (j : Nat) : List Value := u32c ((lst (add8 s z)).take j ++ (lst s).drop j)
theorem partT_at (s z : S8) {j : Nat} (h : j < 8) : (partT s z j)[j]? = some (.int .u32 (u ((lst s).getD j 0))) := by
  have hj : j = 0 ∨ j = 1 ∨ j = 2 ∨ j = 3 ∨ j = 4 ∨ j = 5 ∨ j = 6 ∨ j = 7 := by omega
  rcases hj with rfl | rfl | rfl | rfl | rfl | rfl | rfl | rfl <;> rfl
theorem partT_set (s z : S8) {j : Nat} (h : j < 8) : (partT s z j).set j (.int .u32 (u ((lst s).getD j 0 + (lst z).getD j 0))) = partT s z (j + 1) := by
  have hj : j = 0 ∨ j = 1 ∨ j = 2 ∨ j = 3 ∨ j = 4 ∨ j = 5 ∨ j = 6 ∨ j = 7 := by omega
  rcases hj with rfl | rfl | rfl | rfl | rfl | rfl | rfl | rfl <;> rfl
/-- What lies there all the while: the word table, the document's table, the words so far, the words at first, room for the answer. -/
structure RB (N G : Nat) (q : List UInt8) (s : S8) (x h : List Value) (w wr : World) : Prop where
  wt : Holds wr G 50 (u32c (wl q 64))
  kt : Holds wr (G + 1) 50 (u32c kl)
  xs : Holds wr (G + 2) 42 x
  hs : Holds wr N 42 h
  rs : ∃ z, Holds wr (N + 1) 42 z ∧ z.length = 8
  bl : Below N w wr
  gn : N + 2 ≤ G
theorem RB.drewN {N G : Nat} {q : List UInt8} {s : S8} {x h : List Value} {w wr : World} (r : RB N G q s x h w wr) (n : Nat) : RB N G q s x h w (wr.drewN n) := ⟨r.wt, r.kt, r.xs, r.hs, r.rs, below_drewN r.bl n, r.gn⟩
theorem RB.putX {N G : Nat} {q : List UInt8} {s : S8} {x h : List Value} {w wr : World} (r : RB N G q s x h w wr) (j : Nat) (v : Value) : RB N G q s (x.set j v) h w (wr.setCell ⟨G + 2, j, none⟩ v) :=
  ⟨r.wt.far (by simp) _, r.kt.far (by simp) _, r.xs.put j v, r.hs.far (by have := r.gn; simp; omega) _, by obtain ⟨z, hz, hl⟩ := r.rs; exact ⟨z, hz.far (by have := r.gn; simp; omega) _, hl⟩, r.bl.setCell (by have := r.gn; simp; omega) _, r.gn⟩
theorem RB.putH {N G : Nat} {q : List UInt8} {s : S8} {x h : List Value} {w wr : World} (r : RB N G q s x h w wr) (j : Nat) (v : Value) : RB N G q s x (h.set j v) w (wr.setCell ⟨N, j, none⟩ v) :=
  ⟨r.wt.far (by have := r.gn; simp; omega) _, r.kt.far (by have := r.gn; simp; omega) _, r.xs.far (by have := r.gn; simp; omega) _, r.hs.put j v, by obtain ⟨z, hz, hl⟩ := r.rs; exact ⟨z, hz.far (by simp) _, hl⟩, r.bl.setCell (by simp) _, r.gn⟩
/-- The same, ahead of the words so far. -/
structure R0 (N G : Nat) (q : List UInt8) (s : S8) (w wr : World) : Prop where
  wt : Holds wr G 50 (u32c (wl q 64))
  kt : Holds wr (G + 1) 50 (u32c kl)
  sz : wr.heap.size = G + 2
  hs : Holds wr N 42 (u32c (lst s))
  rs : ∃ z, Holds wr (N + 1) 42 z ∧ z.length = 8
  bl : Below N w wr
  gn : N + 2 ≤ G
theorem store_row_as {P : Program} {ops : Array Oper} {rest : List Oper} {o : Oper} {a : Act} {w : World} {Q : Exit → Act → World → Prop} (hgd : o.guard = none) (ty : TypeId) (x y : Operand) (ho : o.op = .store ty x y)
    (g : Nat) (cells : Array Value) (hx : a.eval x = .pointer (some ⟨g, 0, none⟩)) (hy : a.eval y = .agg cells)
    (t : TypeId) (old : Array Value) (hg : w.heap[g]? = some (.cells old t (0, 0))) (hi : (P.info? ty).map (·.size) = some cells.size)
    (hold : old.size = cells.size) (h1 : cells.all (·.oneCell') = true) (S : World → Prop) (hS : S (w.setRow g cells))
    (h : ∀ w', S w' → wpList P ops Q rest (a.put o.dst undef) w') : wpList P ops Q (o :: rest) a w :=
  wpList_store_row hgd ty x y ho g cells hx hy t old hg hi hold h1 (h _ hS)
def B1 (N G : Nat) (q : List UInt8) (s : S8) (w : World) (i : Value) (wr : World) : Prop := ∃ k : Nat, k ≤ 64 ∧ i = .int .i64 k ∧ RB N G q s (u32c (lst (rnds K (W q) s k))) (u32c (lst s)) w wr
def B2 (N G : Nat) (q : List UInt8) (s z : S8) (w : World) (i : Value) (wr : World) : Prop := ∃ j : Nat, j ≤ 7 ∧ i = .int .i64 j ∧ RB N G q s (partS z j) (u32c (lst s)) w wr
def B3 (N G : Nat) (q : List UInt8) (s z : S8) (w : World) (i : Value) (wr : World) : Prop := ∃ j : Nat, j ≤ 8 ∧ i = .int .i64 j ∧ RB N G q s (u32c (lst z)) (partT s z j) w wr
set_option maxHeartbeats 1000000 in
set_option maxRecDepth 100000 in
theorem rblock_any (s : S8) (q : List UInt8) (hq : q.length = 64) (b o c : Nat) (w : World) (hb : b < w.heap.size) (hr : w.rangeAt b o (u8c q)) :
    Calls Tryd.prog 18 #[.agg (u32c (lst s)).toArray, .slice (some ⟨b, o, none⟩) 64 c] w fun e w' => e = .returned (.agg (u32c (lst (blk s q))).toArray) ∧ Below w.heap.size w w' := by
  have HZ : Hid (∀ A : Array Value, A.size = 64 → A.size = (u32c (wl q 64)).toArray.size) := fun A h => by rw [h, List.size_toArray, u32c_length, wl_length]
  have HZK : Hid (∀ A : Array Value, A.size = 64 → A.size = (u32c kl).toArray.size) := fun A h => by rw [h]; rfl
  have HZ8 : Hid (∀ A : Array Value, A.size = 8 → A.size = (u32c (lst s)).toArray.size) := fun A h => by rw [h]; rfl
  have HI7 : Hid ((Tryd.prog.info? 50).map (·.size) = some (u32c (wl q 64)).toArray.size) := by unfold Hid; rw [List.size_toArray, u32c_length, wl_length]; kernel_rfl
  have HIK : Hid ((Tryd.prog.info? 50).map (·.size) = some (u32c kl).toArray.size) := by unfold Hid; kernel_rfl
  have HI8 : Hid (∀ t : S8, (Tryd.prog.info? 42).map (·.size) = some (u32c (lst t)).toArray.size) := fun t => by kernel_rfl
  obtain ⟨O, hO⟩ : ∃ O : Array Value, (Array.replicate 8 (Value.int .u32 0)) = O := ⟨_, rfl⟩
  have hb1 : Below w.heap.size w ((w.alloc (.cells (u32c (lst s)).toArray 42)).alloc (.cells O 42)) := ((Below.refl _ _).alloc (Nat.le_refl _) _).alloc (by simp) _
  have HW := Lib.hid (rwords_any q hq b o c ((w.alloc (.cells (u32c (lst s)).toArray 42)).alloc (.cells O 42)) (Nat.lt_of_lt_of_le hb hb1.size) (range_keep hr (hb1.block b hb)))
  have hz37 : ∀ w, (zeroValue 42).run Tryd.prog w = .ok (.agg O) w := fun w => by rw [← hO]; kernel_rfl
  have HO := Lib.hid hO
  clear hO hq hr
  go_enter Tryd.func18, Tryd.ntmps18
  go_wp2_with fail
  refine HW.out.mono ?_
  rintro e w1 ⟨rfl, hw1⟩
  have h1 := Holds.fresh w 42 (u32c (lst s))
  have h2 := h1.alloc (.cells O 42)
  have h3 := h2.below hw1 h2.lt
  have hO2 : Holds ((w.alloc (.cells (u32c (lst s)).toArray 42)).alloc (.cells O 42)) (w.heap.size + 1) 42 (List.replicate 8 (.int .u32 0)) := by
    rw [← HO.out]; exact heap_alloc2_new _ _ _
  have h4 := hO2.below hw1 hO2.lt
  have hb2 := hb1.trans (hw1.mono hb1.size)
  have HN1 := Lib.hid h3
  have HO1 := Lib.hid h4
  clear h1 h2 h3 h4 hO2 hw1 HW HO hb1 hz37
  go_wp2_with fail
  refine (added_any w1).mono ?_
  rintro e w2 ⟨rfl, hw2⟩
  have hN2 := HN1.out.below hw2 HN1.out.lt
  have hO2 := HO1.out.below hw2 HO1.out.lt
  have hb3 := hb2.trans (hw2.mono hb2.size)
  have hgn : w.heap.size + 2 ≤ w2.heap.size := by have := HO1.out.lt; have := hw2.size; omega
  clear hw2 HN1 HO1 hb2
  have HK2 : Hid (∀ A B C, (((w2.alloc A).alloc (.cells B 50)).setRow w2.heap.size C).heap[w2.heap.size + 1]? = some (.cells B 50 (0, 0))) := fun A B C => (setRow_other _ _ _ _ (by omega)).trans (heap_alloc2_new _ _ _)
  have HR : Hid (∀ A B, R0 w.heap.size w2.heap.size q s w ((((w2.alloc (.cells A 50)).alloc (.cells B 50)).setRow w2.heap.size (u32c (wl q 64)).toArray).setRow (w2.heap.size + 1) (u32c kl).toArray)) := by
    intro A B
    refine ⟨?_, ?_, ?_, ?_, ?_, ?_, hgn⟩
    · refine Holds.rowFar (Holds.row (l := A.toList) ?_ _) (by omega) _
      have := (Holds.fresh w2 50 A.toList).alloc (.cells B 50)
      simpa using this
    · refine Holds.row (l := B.toList) (Holds.rowFar ?_ (by omega) _) _
      have := heap_alloc2_new w2 (.cells A 50) (.cells B 50)
      unfold Holds; simpa using this
    · simp
    · exact Holds.rowFar (Holds.rowFar ((hN2.alloc _).alloc _) (by omega) _) (by omega) _
    · exact ⟨_, Holds.rowFar (Holds.rowFar ((hO2.alloc _).alloc _) (by omega) _) (by omega) _, rfl⟩
    · exact below_row (below_row ((hb3.alloc (by omega) _).alloc (by simp; omega) _) (by omega) _) (by omega) _
  clear hN2 hO2 hb3
  go_upto_region 2 with (refine wpList_store_row rfl 50 (.tmp 5) (.tmp 16) rfl w2.heap.size _ rfl rfl 50 _ (heap_alloc2_old _ _ _) HI7.out (HZ.out _ rfl) (u32c_one _) ?_; refine store_row_as rfl 50 (.tmp 6) (.tmp 17) rfl (w2.heap.size + 1) _ rfl rfl 50 _ (HK2.out _ _ _) HIK.out (HZK.out _ rfl) (u32c_one _) (R0 w.heap.size w2.heap.size q s w) (HR.out _ _) ?_; intro w3 hR3)
  clear HR HK2 HI7 HIK HZ HZK hgn
  generalize w2.heap.size = G at *
  have hG2 := hR3.sz
  have HB1 : Hid (∀ E, B1 w.heap.size G q s w (.int .i64 0) ((w3.alloc (.cells E 42)).setRow w3.heap.size (u32c (lst s)).toArray)) := by
    intro E
    have hgn := hR3.gn
    rw [hG2]
    refine ⟨0, by omega, rfl, ⟨(hR3.wt.alloc _).rowFar (by omega) _, (hR3.kt.alloc _).rowFar (by omega) _, ?_, (hR3.hs.alloc _).rowFar (by omega) _, ?_, below_row (hR3.bl.alloc (by omega) _) (by omega) _, hgn⟩⟩
    · refine Holds.row (l := E.toList) ?_ _
      have := Holds.fresh w3 42 E.toList
      rw [hG2] at this
      simpa using this
    · obtain ⟨z, hz, hzl⟩ := hR3.rs
      exact ⟨z, (hz.alloc _).rowFar (by omega) _, hzl⟩
  have HHS := Lib.hid hR3.hs
  have HG2 := Lib.hid hG2
  clear hG2 hR3
  go_upto_region 3 with (first | (refine wpList_load_row rfl 42 (.tmp 2) rfl w.heap.size rfl 42 _ (0, 0) _ HHS.out Tryd.underlying42 rfl (HI8.out s) ?_) | (refine store_row_as rfl 42 (.tmp 7) (.tmp 18) rfl w3.heap.size _ rfl rfl 42 _ (heap_alloc_last _ _) (HI8.out s) (HZ8.out _ rfl) (u32c_one _) (B1 w.heap.size G q s w (.int .i64 0)) (HB1.out _) ?_; intro w4 hB4))
  rw [HG2.out]
  have HB4 := Lib.hid hB4
  clear HB1 HHS HG2 hB4
  clear w3
  go_wp2
  go_loopw [19] (B1 w.heap.size G q s w) (fun i _ => 64 - (intOf i).toNat)
  case atStart => exact HB4.out
  case round =>
    clear HB4
    obtain ⟨k, hk, rfl, hR⟩ := hrel
    by_cases hlt : k < 64
    · have ck : wr.cell? ⟨G + 1, k, none⟩ = some (.int .u32 (u (K k))) := by rw [hR.kt.cell, u32c_at (by rw [kl_length]; exact hlt)]; rfl
      have cw : wr.cell? ⟨G, k, none⟩ = some (.int .u32 (u (W q k))) := by rw [hR.wt.cell, u32c_at (by rw [wl_length]; exact hlt), wl_at q hlt]
      have hz : (rnds K (W q) s (k + 1)) = step (rnds K (W q) s k) (K k) (W q k) := rfl
      generalize rnds K (W q) s k = z at *
      have x0 : wr.cell? ⟨G + 2, 0, none⟩ = some (.int .u32 (u z.a)) := hR.xs.cell 0
      have x1 : wr.cell? ⟨G + 2, 1, none⟩ = some (.int .u32 (u z.b)) := hR.xs.cell 1
      have x2 : wr.cell? ⟨G + 2, 2, none⟩ = some (.int .u32 (u z.c)) := hR.xs.cell 2
      have x4 : wr.cell? ⟨G + 2, 4, none⟩ = some (.int .u32 (u z.e)) := hR.xs.cell 4
      have x5 : wr.cell? ⟨G + 2, 5, none⟩ = some (.int .u32 (u z.f)) := hR.xs.cell 5
      have x6 : wr.cell? ⟨G + 2, 6, none⟩ = some (.int .u32 (u z.g)) := hR.xs.cell 6
      have x7 : wr.cell? ⟨G + 2, 7, none⟩ = some (.int .u32 (u z.h)) := hR.xs.cell 7
      have HZ := Lib.hid hz
      have HR := Lib.hid hR
      clear hz hR
      have gk : (k : Int) < 64 := by omega
      go_wp2
      go_quiet (with_reducible exact quiet_same (rturn_of _ _ (by decide) _))
      have y0 : (wr.drewN nq).cell? ⟨G + 2, 0, none⟩ = some (.int .u32 (u z.a)) := x0
      have HR' := Lib.hid (HR.out.drewN nq)
      clear x0 x1 x2 x4 x5 x6 x7 HR ck cw
      go_wp2
      generalize wr.drewN nq = wq at *
      go_quiet (with_reducible exact quiet_same (rturn_of _ _ (by decide) _))
      have HR2 := Lib.hid (HR'.out.drewN nq)
      clear y0 HR'
      go_wp2
      generalize wq.drewN nq = wp at *
      go_loopw [13] (B2 w.heap.size G q s z w) (fun i _ => (intOf i).toNat)
      case atStart => exact ⟨7, by omega, rfl, HR2.out⟩
      case round =>
        clear HR2
        obtain ⟨j, hj, rfl, hR⟩ := hrel
        by_cases hj0 : 1 ≤ j
        · have cj : wr.cell? ⟨G + 2, j - 1, none⟩ = some (.int .u32 (u ((lst z).getD (j - 1) 0))) := by rw [hR.xs.cell]; exact partS_at z hj0 hj
          obtain ⟨v, hv⟩ : ∃ v, wr.cell? ⟨G + 2, j, none⟩ = some v := ⟨(partS z j)[j]'(by rw [partS_length z hj]; omega), by rw [hR.xs.cell, List.getElem?_eq_getElem]⟩
          have hf : wr.frozen? ⟨G + 2, j, none⟩ = false := hR.xs.soft j
          have hset := partS_set z hj0 hj
          generalize (lst z).getD (j - 1) 0 = x at *
          have HR := Lib.hid hR
          have HSET := Lib.hid hset
          clear hR hset
          have t1 : (0 : Int) < (j : Int) := by omega
          have t2 : (j : Int) < 8 := by omega
          have t3 : (j : Int) - 1 < 8 := by omega
          have t4 : (1 : Int) ≤ (j : Int) := by omega
          go_wp2
          go_roundw
          case rel => exact ⟨j - 1, by omega, by go_num, by have := HR.out.putX j (.int .u32 (u x)); rw [HSET.out] at this; exact this⟩
          case measure => simp [intOf]; omega
        · have hj00 : j = 0 := by omega
          have hd : decide ((0 : Int) < (j : Int)) = false := by simp; omega
          have hR0 : RB w.heap.size G q s (partS z 0) (u32c (lst s)) w wr := by rw [hj00] at hR; exact hR
          have y4 : wr.cell? ⟨G + 2, 4, none⟩ = some (.int .u32 (u z.d)) := hR0.xs.cell 4
          have y0 : wr.cell? ⟨G + 2, 0, none⟩ = some (.int .u32 (u z.a)) := hR0.xs.cell 0
          have f : ∀ i, wr.frozen? ⟨G + 2, i, none⟩ = false := hR0.xs.soft
          have HR := Lib.hid hR0
          clear hR hR0 hj00
          go_wp2
          go_roundw
          case rel =>
            refine ⟨k + 1, by omega, by go_num, ?_⟩
            rw [ch_or, maj_or]
            have := (HR.out.putX 4 (.int .u32 (u (z.d + (z.h + (rotz z.e 6 ^^^ rotz z.e 11 ^^^ rotz z.e 25) + ch z.e z.f z.g + K k + W q k))))).putX 0 (.int .u32 (u (z.h + (rotz z.e 6 ^^^ rotz z.e 11 ^^^ rotz z.e 25) + ch z.e z.f z.g + K k + W q k + ((rotz z.a 2 ^^^ rotz z.a 13 ^^^ rotz z.a 22) + maj z.a z.b z.c))))
            rw [HZ.out]
            exact this
          case measure => simp [intOf]; omega
    · have hk64 : k = 64 := by omega
      have hd : decide ((k : Int) < 64) = false := by simp; omega
      have hbz : blk s q = add8 s (rnds K (W q) s k) := by rw [hk64]; rfl
      generalize rnds K (W q) s k = z at *
      have HBZ := Lib.hid hbz
      have HB3 : Hid (B3 w.heap.size G q s z w (.int .i64 0) wr) := ⟨0, by omega, rfl, hR⟩
      clear hbz hk64 hR
      go_wp2
      go_loopw [108] (B3 w.heap.size G q s z w) (fun i _ => 8 - (intOf i).toNat)
      case atStart => exact HB3.out
      case round =>
        clear HB3
        obtain ⟨j, hj, rfl, hR⟩ := hrel
        by_cases hj8 : j < 8
        · have cj : wr.cell? ⟨w.heap.size, j, none⟩ = some (.int .u32 (u ((lst s).getD j 0))) := by rw [hR.hs.cell]; exact partT_at s z hj8
          have xj : wr.cell? ⟨G + 2, j, none⟩ = some (.int .u32 (u ((lst z).getD j 0))) := by rw [hR.xs.cell]; exact u32c_at hj8
          have hf : wr.frozen? ⟨w.heap.size, j, none⟩ = false := hR.hs.soft j
          have hset := partT_set s z hj8
          generalize (lst s).getD j 0 = x at *
          generalize (lst z).getD j 0 = y at *
          have HR := Lib.hid hR
          have HSET := Lib.hid hset
          clear hR hset
          have gj : (j : Int) < 8 := by omega
          go_wp2
          go_still_tail 9, (by kernel_rfl)
          change wpList _ _ _ _ _ wr.drew
          go_wp2
          go_roundw
          case rel => exact ⟨j + 1, by omega, by go_num, by have := (HR.out.putH j (.int .u32 (u (x + y)))).drewN 1; rw [HSET.out] at this; exact this⟩
          case measure => simp [intOf]; omega
        · have hj88 : j = 8 := by omega
          have hd8 : decide ((j : Int) < 8) = false := by simp; omega
          have hH : Holds wr w.heap.size 42 (u32c (lst (blk s q))) := by rw [HBZ.out]; rw [hj88] at hR; exact hR.hs
          obtain ⟨v, hv, hvl⟩ := hR.rs
          have hbl := hR.bl
          have HH := Lib.hid hH
          have HV := Lib.hid hv
          have HVL : Hid (v.toArray.size = (u32c (lst (blk s q))).toArray.size) := by unfold Hid; rw [List.size_toArray, List.size_toArray, hvl]; rfl
          clear hH hv hvl hR hj88
          go_wp2_with (first | (refine wpList_load_row rfl 42 _ rfl w.heap.size rfl 42 _ (0, 0) _ HH.out Tryd.underlying42 rfl (HI8.out _) ?_) | (refine wpList_store_row rfl 42 _ _ rfl (w.heap.size + 1) _ rfl rfl 42 _ HV.out (HI8.out _) HVL.out (u32c_one _) ?_))
          exact bodyPost_ret (results_cell_row rfl _ _ (w.heap.size + 1) 42 _ (0, 0) _ rfl (HV.out.row _) Tryd.underlying42 rfl (HI8.out _)) rfl ⟨rfl, below_row hbl (by omega) _⟩
end Go.Proofs.YtlndjmpopoihnaaDoor
