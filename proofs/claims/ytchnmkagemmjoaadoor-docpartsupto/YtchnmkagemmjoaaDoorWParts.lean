/-
  (*Doc).Nodes and Node of a document: copies in new memory. Conditions: the document lies as it is; there are not too many nodes, the texts are not too long.
  DocParts walked. Conditions: the list lies as it is, its texts are not too long; the tables lie as they are laid, internal/bytealg.MaxLen holds some number.
-/
import Derived.Test.YtchnmkagemmjoaaDoorREndP
import Derived.Test.YtchnmkagemmjoaaDoorWForms
namespace Go.Proofs.YtchnmkagemmjoaaDoor
open Go.RowKit
set_option linter.unusedVariables false
set_option maxRecDepth 100000
theorem NsOwn.form {w : World} {B : Nat} {v : Value} {l : List Nd} (h : NsOwn w B v l) : ∃ A c, v = .slice A l.length c := by
  rcases h with ⟨rfl, rfl⟩ | ⟨g, cur, rfl, _⟩
  · exact ⟨_, _, rfl⟩
  · exact ⟨_, _, rfl⟩
set_option maxHeartbeats 4000000 in
theorem nodes_doc {B d : Nat} {l : List Nd} (w : World) (h : DocAt w B d l) (hn : l.length ≤ 100000) (hs : ∀ x ∈ l, Sm x) : Calls Tryd.prog 14 #[.pointer (some ⟨d, 0, none⟩)] w fun e w' => ∃ v', e = .returned v' ∧ NsOwn w' w.heap.size v' l ∧ Below w.heap.size w w' := by
  obtain ⟨v, hc, hv, _⟩ := h.list hn hs
  have HL := Lib.hid (list_doc d v w hc)
  have HC := Lib.hid (ncopies_any l v w hv (by omega) hs)
  obtain ⟨A, cap, rfl, _, _⟩ := hv.slice
  clear hc hv h
  go_enter Tryd.func14, Tryd.ntmps14
  go_wp2_with fail
  refine HL.out.mono ?_
  rintro e w1 ⟨rfl, hw⟩
  rw [hw]
  clear hw
  go_wp2_with fail
  refine HC.out.mono ?_
  rintro e w2 ⟨v', rfl, ho, hb⟩
  have HO := Lib.hid ho
  obtain ⟨A', c', rfl⟩ := ho.form
  clear ho
  go_wp2
  go_ret
  exact ⟨_, rfl, HO.out, hb⟩
/-- The eight cells of a block, set one behind the other. -/
theorem eight_zero {w2 : World} {b : Nat} {cs : Array Value} {t : TypeId} {fz : Nat × Nat} (v0 v1 v2 v3 v4 v5 v6 v7 : Value) (h : w2.heap[b]? = some (.cells cs t fz)) (h8 : cs.size = 8) :
    ∃ W8, W8 = ((((((((w2.setCell ⟨b, 0, none⟩ v0).setCell ⟨b, 1, none⟩ v1).setCell ⟨b, 2, none⟩ v2).setCell ⟨b, 3, none⟩ v3).setCell ⟨b, 4, none⟩ v4).setCell ⟨b, 5, none⟩ v5).setCell ⟨b, 6, none⟩ v6).setCell ⟨b, 7, none⟩ v7) ∧ (∀ g, g ≠ b → W8.heap[g]? = w2.heap[g]?) ∧ (∀ (B : Nat) (a : World), Below B a w2 → B ≤ b → Below B a W8) ∧ W8.cell? ⟨b, 0, none⟩ = some v0 ∧ W8.cell? ⟨b, 1, none⟩ = some v1 ∧ W8.cell? ⟨b, 2, none⟩ = some v2 ∧ W8.cell? ⟨b, 3, none⟩ = some v3 ∧ W8.cell? ⟨b, 4, none⟩ = some v4 ∧ W8.cell? ⟨b, 5, none⟩ = some v5 ∧ W8.cell? ⟨b, 6, none⟩ = some v6 ∧ W8.cell? ⟨b, 7, none⟩ = some v7 := by
  have hb : (((((((((w2.setCell ⟨b, 0, none⟩ v0).setCell ⟨b, 1, none⟩ v1).setCell ⟨b, 2, none⟩ v2).setCell ⟨b, 3, none⟩ v3).setCell ⟨b, 4, none⟩ v4).setCell ⟨b, 5, none⟩ v5).setCell ⟨b, 6, none⟩ v6).setCell ⟨b, 7, none⟩ v7)).heap[b]? = some (.cells ((((((((cs.setIfInBounds 0 v0).setIfInBounds 1 v1).setIfInBounds 2 v2).setIfInBounds 3 v3).setIfInBounds 4 v4).setIfInBounds 5 v5).setIfInBounds 6 v6).setIfInBounds 7 v7) t fz) := (block_set (block_set (block_set (block_set (block_set (block_set (block_set (block_set h))))))))
  refine ⟨_, rfl, fun g hg => ((Below.heap_setCell _ _ _ _ hg).trans ((Below.heap_setCell _ _ _ _ hg).trans ((Below.heap_setCell _ _ _ _ hg).trans ((Below.heap_setCell _ _ _ _ hg).trans ((Below.heap_setCell _ _ _ _ hg).trans ((Below.heap_setCell _ _ _ _ hg).trans ((Below.heap_setCell _ _ _ _ hg).trans ((Below.heap_setCell _ _ _ _ hg).trans rfl)))))))), fun B a hB hle => ((((((((hB.setCell (p := ⟨b, 0, none⟩) hle v0).setCell (p := ⟨b, 1, none⟩) hle v1).setCell (p := ⟨b, 2, none⟩) hle v2).setCell (p := ⟨b, 3, none⟩) hle v3).setCell (p := ⟨b, 4, none⟩) hle v4).setCell (p := ⟨b, 5, none⟩) hle v5).setCell (p := ⟨b, 6, none⟩) hle v6).setCell (p := ⟨b, 7, none⟩) hle v7), ?_⟩
  have hc := fun j => cell_of_row _ b j _ _ _ hb
  refine ⟨?_, ?_, ?_, ?_, ?_, ?_, ?_, ?_⟩ <;> rw [hc] <;> simp [h8]
set_option maxHeartbeats 8000000 in
theorem node_doc {B d : Nat} {l : List Nd} (n : Nat) (w : World) (h : DocAt w B d l) (hn : l.length ≤ 100000) (hs : ∀ x ∈ l, Sm x) (hnl : n < l.length) : Calls Tryd.prog 19 #[.pointer (some ⟨d, 0, none⟩), .int .i64 (n : Int)] w fun e w' => ∃ vd va, e = .returned (.agg #[.int .i64 l[n].k, .int .i64 l[n].n, .string l[n].p, .string l[n].l, .string l[n].u, .string l[n].t, vd, va]) ∧ OwnDs w' w.heap.size vd l[n].ds ∧ OwnAs w' w.heap.size va l[n].ats ∧ Below w.heap.size w w' := by
  have HH : Hid (∀ w', Below w.heap.size w w' → Calls Tryd.prog 36 #[.pointer (some ⟨d, 0, none⟩), .int .i64 (n : Int)] w' fun e w'' => e = .returned (.bool true) ∧ w'' = w') := fun w' hb => by
    have := has_doc (n : Int) w' (h.later hb) hn hs
    rw [decide_eq_true (by omega)] at this
    exact this
  obtain ⟨v, hc, hv, hd⟩ := h.list hn hs
  obtain ⟨b, o, cap, rfl, hc1, hc2, hbB, hnd⟩ := hv.open (by intro h; rw [h] at hnl; simp at hnl)
  obtain ⟨vd, va, d0, d1, d2, d3, d4, d5, d6, d7, hds, has⟩ := (hnd n hnl).cells
  have HX : Hid (NdV w w.heap.size (.agg #[.int .i64 l[n].k, .int .i64 l[n].n, .string l[n].p, .string l[n].l, .string l[n].u, .string l[n].t, vd, va]) l[n]) := ⟨vd, va, rfl, hds, has⟩
  obtain ⟨A1, c1, rfl, _⟩ := hds
  obtain ⟨A2, c2, rfl, _⟩ := has
  have hsx := hs _ (List.getElem_mem hnl)
  have HCP : Hid (∀ w', Below w.heap.size w w' → Calls Tryd.prog 32 #[.agg #[.int .i64 l[n].k, .int .i64 l[n].n, .string l[n].p, .string l[n].l, .string l[n].u, .string l[n].t, .slice A1 l[n].ds.length c1, .slice A2 l[n].ats.length c2]] w' fun e w'' => ∃ vd va, e = .returned (.agg #[.int .i64 l[n].k, .int .i64 l[n].n, .string l[n].p, .string l[n].l, .string l[n].u, .string l[n].t, vd, va]) ∧ OwnDs w'' w'.heap.size vd l[n].ds ∧ OwnAs w'' w'.heap.size va l[n].ats ∧ Below w'.heap.size w' w'') := fun w' hb' =>
    nodeCopy_any l[n] _ hsx w' (HX.out.later hb')
  obtain ⟨m, hmE⟩ : ∃ m, l.length = m := ⟨_, rfl⟩
  rw [hmE] at hn hc1 hnl hc
  generalize l[n] = x at *
  clear hnd hv h hmE
  go_enter Tryd.func19, Tryd.ntmps19
  go_wp2_with fail
  refine (HH.out _ (by first | exact Below.refl _ _ | exact (Below.refl _ _).alloc (Nat.le_refl _) _)).mono ?_
  rintro e w1 ⟨rfl, hw⟩
  rw [hw]
  clear hw
  go_wp2_with fail
  refine (HCP.out _ (by first | exact Below.refl _ _ | exact (Below.refl _ _).alloc (Nat.le_refl _) _)).mono ?_
  rintro e w2 ⟨vd', va', rfl, ho1, ho2, hb1⟩
  obtain ⟨A3, c3, rfl⟩ := OwnSl.form ho1
  obtain ⟨A4, c4, rfl⟩ := OwnSl.form ho2
  have HO1 : Hid (OwnDs w2 w.heap.size (.slice A3 x.ds.length c3) x.ds) := OwnSl.mono ho1 (by simp)
  have HO2 : Hid (OwnAs w2 w.heap.size (.slice A4 x.ats.length c4) x.ats) := OwnSl.mono ho2 (by simp)
  have hbw := below_box hb1
  have hcur : w2.heap[w.heap.size]? = some (.cells #[.int .i64 0, .int .i64 0, .string ⟨#[]⟩, .string ⟨#[]⟩, .string ⟨#[]⟩, .string ⟨#[]⟩, .slice none 0 0, .slice none 0 0] 38 (0, 0)) := (hb1.block _ (by simp)).trans (heap_alloc_last w _)
  have hfz : ∀ j, w2.frozen? ⟨w.heap.size, j, none⟩ = false := fun j => by unfold World.frozen?; rw [hcur]; simp
  have g0 : w2.cell? ⟨w.heap.size, 0, none⟩ = some (.int .i64 0) := by rw [cell_of_row w2 w.heap.size _ _ _ _ hcur]; rfl
  have g1 : w2.cell? ⟨w.heap.size, 1, none⟩ = some (.int .i64 0) := by rw [cell_of_row w2 w.heap.size _ _ _ _ hcur]; rfl
  have g2 : w2.cell? ⟨w.heap.size, 2, none⟩ = some (.string ⟨#[]⟩) := by rw [cell_of_row w2 w.heap.size _ _ _ _ hcur]; rfl
  have g3 : w2.cell? ⟨w.heap.size, 3, none⟩ = some (.string ⟨#[]⟩) := by rw [cell_of_row w2 w.heap.size _ _ _ _ hcur]; rfl
  have g4 : w2.cell? ⟨w.heap.size, 4, none⟩ = some (.string ⟨#[]⟩) := by rw [cell_of_row w2 w.heap.size _ _ _ _ hcur]; rfl
  have g5 : w2.cell? ⟨w.heap.size, 5, none⟩ = some (.string ⟨#[]⟩) := by rw [cell_of_row w2 w.heap.size _ _ _ _ hcur]; rfl
  have g6 : w2.cell? ⟨w.heap.size, 6, none⟩ = some (.slice none 0 0) := by rw [cell_of_row w2 w.heap.size _ _ _ _ hcur]; rfl
  have g7 : w2.cell? ⟨w.heap.size, 7, none⟩ = some (.slice none 0 0) := by rw [cell_of_row w2 w.heap.size _ _ _ _ hcur]; rfl
  obtain ⟨W8, hW8, hoth, hbel, q0, q1, q2, q3, q4, q5, q6, q7⟩ := eight_zero (.int .i64 x.k) (.int .i64 x.n) (.string x.p) (.string x.l) (.string x.u) (.string x.t) (.slice A3 x.ds.length c3) (.slice A4 x.ats.length c4) hcur rfl
  have HO8 : Hid (OwnDs W8 w.heap.size (.slice A3 x.ds.length c3) x.ds) := OwnSl.aside HO1.out hcur (by decide) hoth
  have HA8 : Hid (OwnAs W8 w.heap.size (.slice A4 x.ats.length c4) x.ats) := OwnSl.aside HO2.out hcur (by decide) hoth
  have HB8 : Hid (Below w.heap.size w W8) := hbel _ _ hbw (Nat.le_refl _)
  have HW8 := Lib.hid hW8
  clear ho1 ho2 hcur hbw hb1 hW8 hoth hbel
  go_wp2
  rw [← HW8.out]
  refine bodyPost_ret (v := .agg #[.int .i64 x.k, .int .i64 x.n, .string x.p, .string x.l, .string x.u, .string x.t, .slice A3 x.ds.length c3, .slice A4 x.ats.length c4]) (by simp [results, Tryd.results19, go_sem, q0, q1, q2, q3, q4, q5, q6, q7]) rfl ⟨_, _, rfl, HO8.out, HA8.out, HB8.out⟩
end Go.Proofs.YtchnmkagemmjoaaDoor
namespace Go.Proofs.YtchnmkagemmjoaaDoor
open Go.RowKit
set_option linter.unusedVariables false
set_option maxRecDepth 100000
theorem field_parent (k n : Int) (p l u t : ByteArray) (A1 A2 : Option Addr) (n1 n2 c1 c2 : Nat) (w : World) : (Instr.field 38 (.agg #[.int .i64 k, .int .i64 n, .string p, .string l, .string u, .string t, .slice A1 n1 c1, .slice A2 n2 c2]) 1).run Tryd.prog w = .ok (.int .i64 n) w := by kernel_rfl
/-- What holds at each round's head. -/
def PtRel (w : World) (l : List Nd) (n : Nat) (a i : Value) (wr : World) : Prop :=
  ∃ k c : Nat, i = .int .i64 k ∧ a = .int .i64 c ∧ n < c ∧ c ≤ endP l n ∧ (kidsL l n c).length = k ∧ (c < endP l n → pa l c = (n : Int)) ∧ Below w.heap.size w wr
set_option maxHeartbeats 16000000 in
theorem parts_law (l : List Nd) (v : Value) (z : Int) (w : World) (hv : NsAt w w.heap.size v l) (hs : ∀ x ∈ l, Sm x) (hW : Wd w) : Calls Tryd.prog 7 #[v, .int .i64 z] w fun e w' => e = .returned (.bool true) ∧ Below w.heap.size w w' := by
  have HA : Hid (∀ w', Below w.heap.size w w' → Calls Tryd.prog 9 #[] w' fun e w'' => e = .returned (.bool true) ∧ Below w'.heap.size w' w'') := fun w' hb => awake_any w' (hW.later hb)
  have HF : Hid (∀ w', Below w.heap.size w w' → Calls Tryd.prog 10 #[v, .int .i64 30] w' fun e w'' => e = .returned (.bool (fewB l 30)) ∧ w'' = w') := fun w' hb => few_any l 30 v w' (by omega) (hv.later hb)
  have HO : Hid (l.length ≤ 30 → ∀ w', Below w.heap.size w w' → Calls Tryd.prog 11 #[v] w' fun e w'' => OfAns l w'.heap.size e w'' ∧ Below w'.heap.size w' w'') := fun h w' hb => of_any l v w' (hv.later hb) (by omega) hs (hW.later hb)
  obtain ⟨A, cap, rfl, hc1, hc2⟩ := hv.slice
  have hr0 := Below.refl w.heap.size w
  have HS := Lib.hid hs
  clear hW hv hs
  cases hf : fewB l 30 with
  | false =>
    rw [hf] at HF
    clear hf HO
    go_enter Tryd.func7, Tryd.ntmps7
    go_wp2_with fail
    refine (HA.out _ hr0).mono ?_
    rintro e w1 ⟨rfl, hb1⟩
    go_wp2_with fail
    refine (HF.out _ hb1).mono ?_
    rintro e w2 ⟨rfl, hw⟩
    rw [hw]
    clear hw
    go_wp2_with fail
    refine (HA.out _ hb1).mono ?_
    rintro e w2 ⟨rfl, hb2⟩
    go_wp2
    go_ret
    exact ⟨rfl, hb1.trans (hb2.mono hb1.size)⟩
  | true =>
    rw [hf] at HF
    have hl : l.length ≤ 30 := by
      unfold fewB at hf
      rw [Bool.and_eq_true, decide_eq_true_eq] at hf
      exact hf.1
    have HL := Lib.hid hl
    have HO' := Lib.hid (HO.out hl)
    obtain ⟨m, hmE⟩ : ∃ m, l.length = m := ⟨_, rfl⟩
    have HM := Lib.hid hmE
    rw [hmE] at HO' hl hc1 ⊢
    rw [hmE] at HF
    clear hf HO hmE
    go_enter Tryd.func7, Tryd.ntmps7
    go_wp2_with fail
    refine (HA.out _ hr0).mono ?_
    rintro e w1 ⟨rfl, hb1⟩
    go_wp2_with fail
    refine (HF.out _ hb1).mono ?_
    rintro e w2 ⟨rfl, hw⟩
    rw [hw]
    clear hw
    go_wp2_with fail
    refine (HO'.out _ hb1).mono ?_
    rintro e w2 ⟨ho, hb2⟩
    have hbw := hb1.trans (hb2.mono hb1.size)
    clear hb1 hb2 hr0
    rcases ho with ⟨_, rfl⟩ | ⟨_, _, rfl⟩ | ⟨hfo, hwi, d, rfl, hd⟩
    · go_wp2
      go_ret
      exact ⟨rfl, hbw⟩
    · go_wp2
      go_ret
      exact ⟨rfl, hbw⟩
    · by_cases hz0 : z < 0
      · go_wp2
        go_ret
        exact ⟨rfl, hbw⟩
      · have hz0d := decide_eq_false hz0
        by_cases hzm : z ≥ (m : Int)
        · go_wp2
          go_ret
          exact ⟨rfl, hbw⟩
        · have hzmd := decide_eq_false hzm
          obtain ⟨n, rfl⟩ : ∃ n : Nat, z = n := ⟨z.toNat, by omega⟩
          have hnm : n < m := by omega
          have hnl : n < l.length := by rw [HM.out]; exact hnm
          obtain ⟨_, _, hh, hg⟩ := formed_hung hfo
          have HD := Lib.hid hd
          have HN : Hid (∀ w' c (hc : c < l.length), Below w2.heap.size w2 w' → Calls Tryd.prog 19 #[.pointer (some ⟨d, 0, none⟩), .int .i64 (c : Int)] w' fun e w'' => ∃ vd va, e = .returned (.agg #[.int .i64 l[c].k, .int .i64 l[c].n, .string l[c].p, .string l[c].l, .string l[c].u, .string l[c].t, vd, va]) ∧ OwnDs w'' w'.heap.size vd l[c].ds ∧ OwnAs w'' w'.heap.size va l[c].ats ∧ Below w'.heap.size w' w'') := fun w' c hc hb => node_doc c w' (HD.out.later hb) (by have := HL.out; omega) HS.out hc
          have HE : Hid (∀ w' c, c < l.length → Below w2.heap.size w2 w' → Calls Tryd.prog 25 #[.pointer (some ⟨d, 0, none⟩), .int .i64 (c : Int)] w' fun e w'' => e = .returned (.int .i64 (endP l c : Nat)) ∧ w'' = w') := fun w' c hc hb => end_doc c w' (HD.out.later hb) (by have := HL.out; omega) HS.out hc
          have HK := Lib.hid (kids_doc n w2 hd (by have := HL.out; omega) HS.out hnl)
          obtain ⟨e1, e2, _, _⟩ := end_spec hnl
          have HST : Hid (∀ c, n < c → c < endP l n → pa l c = (n : Int) → n < endP l c ∧ endP l c ≤ endP l n ∧ (kidsL l n (endP l c)).length = (kidsL l n c).length + 1 ∧ (endP l c < endP l n → pa l (endP l c) = (n : Int))) := fun c h1 h2 h3 => kid_step hh hg hnl h1 h2 h3
          have HFK : Hid (n + 1 < endP l n → pa l (n + 1) = (n : Int)) := fun h => first_kid hh hnl h
          have HNL := Lib.hid hnl
          obtain ⟨E, hE⟩ : ∃ E, endP l n = E := ⟨_, rfl⟩
          have HEE := Lib.hid hE
          rw [hE] at e1 e2 HK HST HFK
          rw [HM.out] at e2
          clear hd hh hg hE hz0 hz0d hzm hnl hfo hwi
          go_wp2_with fail
          refine HK.out.mono ?_
          rintro e w3 ⟨v', rfl, hO, hb3⟩
          have HO3 := Lib.hid hO
          obtain ⟨A0, c0, rfl, hk1, hk2, hlies⟩ := hO.lies
          have HLI := Lib.hid hlies
          obtain ⟨q, hqE⟩ : ∃ q, (kidsL l n E).length = q := ⟨_, rfl⟩
          have HQ := Lib.hid hqE
          have hq : q ≤ E := by rw [← hqE]; exact kidsL_len l n E
          rw [hqE] at hk1 ⊢
          clear hO hlies hqE HK
          go_wp2
          go_loopw [7, 48] (PtRel w3 l n) (fun _ i _ => q - (intOf i).toNat)
          case atStart => exact ⟨0, n + 1, rfl, by go_num, by omega, by rw [HEE.out]; omega, by rw [kidsL_start l n _ (Nat.le_refl _)]; rfl, fun h => HFK.out (by rw [← HEE.out]; exact h), Below.refl _ _⟩
          case round =>
            obtain ⟨k, c, rfl, rfl, hnc, hcE, hk, hpc, hbr⟩ := hrel
            rw [HEE.out] at hcE hpc
            have HK := Lib.hid hk
            by_cases hce : c < E
            · have hp := hpc hce
              have hcm : c < m := by omega
              have hcl : c < l.length := by rw [HM.out]; exact hcm
              have hkq : k < q := by rw [← HQ.out, ← hk]; exact kid_more hnc hce hp
              have hkz : (k : Int) < (q : Int) := by omega
              have hcell : (kidsL l n E)[k]? = some (c : Int) := by rw [← hk]; exact kid_here hnc hce hp
              obtain ⟨g, o, rfl, hgB, hgc⟩ := HLI.out (by intro h; have := congrArg List.length h; rw [i64c_length, HQ.out] at this; simp at this; omega)
              have hck : wr.cell? ⟨g, o + k, none⟩ = some (.int .i64 (c : Int)) := by
                have h1 := (hbr.cell (p := ⟨g, o + k, none⟩) hgB).trans (hgc k (by rw [i64c_length, HQ.out]; exact hkq))
                rw [h1]
                have h2 : (i64c (kidsL l n E))[k]? = some (.int .i64 (c : Int)) := by unfold i64c; rw [List.getElem?_map, hcell]; rfl
                rw [List.getElem?_eq_getElem (by rw [i64c_length, HQ.out]; exact hkq)] at h2
                exact h2
              have HSC := Lib.hid (HST.out c hnc hce hp)
              have hlc : l[c].n = (n : Int) := by rw [← pa_at hcl]; exact hp
              have hcc : ((c : Int) != (c : Int)) = false := by simp
              have hnn : ((n : Int) != (n : Int)) = false := by simp
              have hb23 := hb3.trans (hbr.mono hb3.size)
              have HNC := Lib.hid (HN.out wr c hcl hb23)
              rw [hlc] at HNC
              generalize l[c] = x at *
              clear hp hpc hcell hgc hlc hk
              go_wp2_with fail
              refine HNC.out.mono ?_
              rintro e w4 ⟨vd, va, rfl, ho1, ho2, hb4⟩
              obtain ⟨A3, c3, rfl⟩ := OwnSl.form ho1
              obtain ⟨A4, c4, rfl⟩ := OwnSl.form ho2
              have hb24 := hb23.trans (hb4.mono hb23.size)
              have hb34 := hbr.trans (hb4.mono hbr.size)
              clear HNC ho1 ho2
              have hfp := fun w => field_parent x.k (n : Int) x.p x.l x.u x.t A3 A4 x.ds.length x.ats.length c3 c4 w
              go_wp2_with fail
              refine (HE.out w4 c hcl hb24).mono ?_
              rintro e w5 ⟨rfl, hw⟩
              rw [hw]
              clear hw
              go_wp2
              go_roundw
              case rel => exact ⟨k + 1, endP l c, by go_num, rfl, HSC.out.1, by rw [HEE.out]; exact HSC.out.2.1, by rw [HSC.out.2.2.1, HK.out], by rw [HEE.out]; exact HSC.out.2.2.2, hb34⟩
              case measure => simp [intOf]; omega
            · have hcE' : c = E := by omega
              have hkq : k = q := by rw [← HQ.out, ← hk, hcE']
              have hkz : ¬ (k : Int) < (q : Int) := by omega
              have hee : ((E : Int) == (E : Int)) = true := by simp
              have hb23 := hb3.trans (hbr.mono hb3.size)
              have HE' := HE.out wr n HNL.out hb23
              rw [HEE.out] at HE'
              have HEF := Lib.hid HE'
              clear HE' hk hpc
              rw [hcE']
              go_wp2_with fail
              refine HEF.out.mono ?_
              rintro e w5 ⟨rfl, hw⟩
              rw [hw]
              clear hw
              go_wp2
              go_ret
              exact ⟨rfl, hbw.trans (hb23.mono hbw.size)⟩
end Go.Proofs.YtchnmkagemmjoaaDoor
