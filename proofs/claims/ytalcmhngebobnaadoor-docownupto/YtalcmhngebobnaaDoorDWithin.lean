/-
  doc.within: whether a list is within the limits. Conditions: the list lies as it is; each node hangs on one ahead.
-/
import Derived.Test.YtalcmhngebobnaaDoorDPlaced
import Derived.Deep.OwnRows
namespace Go.Proofs.YtalcmhngebobnaaDoor
open Go.RowKit
set_option linter.unusedVariables false
set_option maxRecDepth 100000
/-- How many nodes are above one. -/
def dp (l : List Nd) (i : Nat) : Nat := (chn l i).length - 1
theorem dp_zero {l : List Nd} (h : pa l 0 = -1) : dp l 0 = 0 := by
  unfold dp
  rw [chn_stop (by rw [h]; omega)]; rfl
theorem dp_step {l : List Nd} {n : Nat} (h : 0 ≤ pa l n ∧ (pa l n).toNat < n) : dp l n = dp l (pa l n).toNat + 1 := by
  have h2 : 0 < (chn l (pa l n).toNat).length := by rw [chn]; simp
  unfold dp
  rw [chn_step h, List.length_cons]
  omega
theorem dp_le (l : List Nd) : ∀ i, dp l i ≤ i := by
  intro i
  induction i using Nat.strongRecOn with
  | ind i ih =>
    by_cases h : 0 ≤ pa l i ∧ (pa l i).toNat < i
    · rw [dp_step h]; have := ih _ h.2; omega
    · unfold dp; rw [chn_stop h]; simp
/-- How many declarations and attributes a node has. -/
def mks (l : List Nd) (i : Nat) : Nat := ((l[i]?).map (fun x => x.ds.length + x.ats.length)).getD 0
theorem mks_at {l : List Nd} {i : Nat} (h : i < l.length) : mks l i = l[i].ds.length + l[i].ats.length := by simp [mks, List.getElem?_eq_getElem h]
open Classical in
noncomputable def withinB (l : List Nd) : Bool := decide (l.length ≤ 4000 ∧ ∀ i, i < l.length → dp l i ≤ 64 ∧ mks l i ≤ 64)
def WiRel (w : World) (l : List Nd) (n : Nat) (i : Value) (wr : World) : Prop :=
  ∃ k : Nat, k ≤ n ∧ i = .int .i64 k ∧ wr.rowIs w.heap.size 3 n (fun j => if j < k then .int .i64 (dp l j : Nat) else .int .i64 0) ∧ (∀ j, j < k → dp l j ≤ 64 ∧ mks l j ≤ 64) ∧ Below w.heap.size w wr
theorem intInfo : (Tryd.prog.info? 3).map (fun i => (i.zero, i.size, i.bytes)) = some (some (.int .i64 0), 1, 8) := by kernel_rfl
theorem less_two {p : Nat → Prop} {k : Nat} (h : ∀ j, j < k → p j) (hk : p k) : ∀ j, j < k + 1 → p j := fun j hj => by
  rcases Nat.lt_or_eq_of_le (Nat.le_of_lt_succ hj) with h1 | h1
  · exact h j h1
  · rw [h1]; exact hk
set_option maxHeartbeats 8000000 in
theorem within_any (l : List Nd) (v : Value) (w : World) (hv : NsAt w w.heap.size v l) (hlen : l.length ≤ 2000000) (hm : ∀ x ∈ l, x.ds.length ≤ 2000000 ∧ x.ats.length ≤ 2000000) (hh : Hung l l.length) (h0 : pa l 0 = -1) :
    Calls Tryd.prog 14 #[v] w fun e w' => e = .returned (.bool (withinB l)) ∧ Below w.heap.size w w' := by
  have HV := Lib.hid hv
  obtain ⟨A, cap, rfl, hc1, hc2⟩ := hv.slice
  obtain ⟨R, hR⟩ : ∃ R, withinB l = R := ⟨_, rfl⟩
  rw [hR]
  have HR := Lib.hid hR
  have HH := Lib.hid hh
  have H0 := Lib.hid h0
  have HM := Lib.hid hm
  obtain ⟨n, hn⟩ : ∃ n, l.length = n := ⟨_, rfl⟩
  have HN := Lib.hid hn
  rw [hn] at hlen hc1 ⊢
  clear hh h0 hR hn hm
  by_cases hbig : 4000 < n
  · have hz : (4000 : Int) < (n : Int) := by omega
    have hF : false = R := by
      rw [← HR.out]; unfold withinB
      exact (decide_eq_false (by rw [HN.out]; omega)).symm
    subst hF
    go_enter Tryd.func14, Tryd.ntmps14
    go_wp2
    go_ret
    exact ⟨rfl, Below.refl _ _⟩
  · have hz : ¬ (4000 : Int) < (n : Int) := by omega
    have hmk := run_make_row' (P := Tryd.prog) 50 3 (.int .i64 0) 8 Tryd.underlying50 intInfo rfl .i64 .i64 n (by omega) (by omega)
    go_enter Tryd.func14, Tryd.ntmps14
    go_wp2
    go_loopw [14] (WiRel w l n) (fun i _ => n - (intOf i).toNat)
    case atStart => exact ⟨0, Nat.zero_le _, rfl, (World.rowIs_made w (.int .i64 0) n 3).congr (fun i _ => by simp), fun j hj => by omega, (Below.refl _ _).alloc (Nat.le_refl _) _⟩
    case round =>
      obtain ⟨k, hk, rfl, hrow, hok, hb⟩ := hrel
      have HOK := Lib.hid hok
      clear hok hmk
      by_cases hlt : k < n
      · have hkl : k < l.length := by rw [HN.out]; exact hlt
        obtain ⟨b, o, cap', e, _, _, hbB, hnd⟩ := (HV.out.below hb).open (by intro h; rw [h] at hkl; simp at hkl)
        simp only [Value.slice.injEq] at e
        obtain ⟨rfl, _, rfl⟩ := e
        obtain ⟨vd, va, c0, c1, c2, c3, c4, c5, c6, c7, ⟨A1, q1, rfl, _⟩, ⟨A2, q2, rfl, _⟩⟩ := (hnd k hkl).cells
        have hmm := HM.out _ (List.getElem_mem hkl)
        have HMK := Lib.hid (mks_at hkl)
        rw [← pa_at hkl] at c1
        have hkz : (k : Int) < (n : Int) := by omega
        have HNO : Hid (¬ (dp l k ≤ 64 ∧ mks l k ≤ 64) → R = false) := fun h => by
          rw [← HR.out]; unfold withinB
          exact decide_eq_false (fun h' => h (h'.2 k hkl))
        have hdl := dp_le l k
        generalize l[k].k = x0 at *
        generalize l[k].p = x2 at *
        generalize l[k].l = x3 at *
        generalize l[k].u = x4 at *
        generalize l[k].t = x5 at *
        generalize l[k].ds.length = nd at *
        generalize l[k].ats.length = na at *
        clear hnd
        rcases Nat.eq_zero_or_pos k with hk0 | hk0
        · subst hk0
          have hcg : ∀ o, (wr.alloc o).cell? ⟨w.heap.size, 0, none⟩ = some (.int .i64 0) := fun o => by
            have := (hrow.alloc o).cell (i := 0) (by omega)
            simpa using this
          have hd0 : dp l 0 = 0 := dp_zero H0.out
          have HD0 := Lib.hid hd0
          clear hd0
          simp only [Nat.zero_mul, Nat.add_zero] at c0 c1 c2 c3 c4 c5 c6 c7
          by_cases hmx : nd + na ≤ 64
          · have hmz : ¬ (64 : Int) < (nd : Int) + (na : Int) := by omega
            go_wp2
            go_roundw
            case rel => exact ⟨1, hlt, by go_num, (hrow.alloc _).congr (fun i hi => by
                by_cases h : i = 0
                · subst h; simp [HD0.out]
                · have h1 : ¬ i < 1 := by omega
                  simp [h1]), less_two (k := 0) HOK.out ⟨by rw [HD0.out]; omega, by rw [HMK.out]; omega⟩, hb.alloc hb.size _⟩
            case measure => simp [intOf]; omega
          · have hmz : (64 : Int) < (nd : Int) + (na : Int) := by omega
            obtain rfl := HNO.out (by rw [HMK.out]; omega)
            go_wp2
            go_ret
            exact ⟨rfl, hb.alloc hb.size _⟩
        · have hpk := HH.out k hk0 hkl
          have hpt := HH.out.toNat hk0 hkl
          have HDS := Lib.hid (dp_step hpt)
          obtain ⟨p, hp⟩ : ∃ p : Nat, pa l k = (p : Int) := ⟨(pa l k).toNat, by omega⟩
          rw [hp] at c1 hpk HDS
          have hpk' : p < k := by omega
          have hpz : (p : Int) < (n : Int) := by omega
          have HDS' : Hid (dp l k = dp l p + 1) := HDS.out
          have hdp := dp_le l p
          have hcg : ∀ o, (wr.alloc o).cell? ⟨w.heap.size, p, none⟩ = some (.int .i64 (dp l p : Nat)) := fun o => by
            have := (hrow.alloc o).cell (i := p) (by omega)
            simpa [hpk'] using this
          have hck : ∀ o, (wr.alloc o).cell? ⟨w.heap.size, k, none⟩ = some (.int .i64 0) := fun o => by
            have := (hrow.alloc o).cell (i := k) (by omega)
            simpa using this
          have hfk : ∀ o, (wr.alloc o).frozen? ⟨w.heap.size, k, none⟩ = false := fun o => (hrow.alloc o).frozen k
          have HNX : Hid (∀ o, dp l k ≤ 64 ∧ mks l k ≤ 64 → WiRel w l n (.int .i64 ((k + 1 : Nat) : Int)) ((wr.setCell ⟨w.heap.size, k, none⟩ (.int .i64 ((dp l p : Int) + 1))).alloc o)) := fun o hd =>
            ⟨k + 1, hlt, rfl, ((hrow.set k (.int .i64 ((dp l p : Int) + 1))).alloc o).congr (fun i hi => by
              by_cases h : i = k
              · subst h
                rw [HDS'.out]
                simp
              · by_cases h2 : i < k
                · have h3 : i < k + 1 := by omega
                  simp [h, h2, h3]
                · have h3 : ¬ i < k + 1 := by omega
                  simp [h, h2, h3]), less_two HOK.out hd, (hb.setCell (p := ⟨w.heap.size, k, none⟩) (Nat.le_refl _) _).alloc (by simpa [World.setCell] using hb.size) _⟩
          have HBO : Hid (∀ o v, Below w.heap.size w ((wr.setCell ⟨w.heap.size, k, none⟩ v).alloc o)) := fun o v => (hb.setCell (p := ⟨w.heap.size, k, none⟩) (Nat.le_refl _) v).alloc (by simpa [World.setCell] using hb.size) o
          have hkp : (0 : Int) < (k : Int) := by omega
          have hgl := hrow.lt
          have hsv : ∀ o v, ((wr.setCell ⟨w.heap.size, k, none⟩ v).alloc o).cell? ⟨w.heap.size, k, none⟩ = some v := fun o v => by
            have := ((hrow.set k v).alloc o).cell (i := k) (by omega)
            simpa using this
          clear hp HDS hrow
          generalize dp l p = dpp at *
          by_cases hdx : dpp + 1 ≤ 64
          · have hdz : ¬ (64 : Int) < (dpp : Int) + 1 := by omega
            by_cases hmx : nd + na ≤ 64
            · have hmz : ¬ (64 : Int) < (nd : Int) + (na : Int) := by omega
              go_wp2
              go_roundw
              case rel => exact (show Value.int .i64 ((k + 1 : Nat) : Int) = _ by go_num) ▸ HNX.out _ ⟨by rw [HDS'.out]; omega, by rw [HMK.out]; omega⟩
              case measure => simp [intOf]; omega
            · have hmz : (64 : Int) < (nd : Int) + (na : Int) := by omega
              obtain rfl := HNO.out (by rw [HMK.out]; omega)
              go_wp2
              go_ret
              exact ⟨rfl, HBO.out _ _⟩
          · have hdz : (64 : Int) < (dpp : Int) + 1 := by omega
            obtain rfl := HNO.out (by rw [HDS'.out]; omega)
            go_wp2
            go_ret
            exact ⟨rfl, HBO.out _ _⟩
      · have hkz : ¬ (k : Int) < (n : Int) := by omega
        have hkn : k = n := by omega
        have hT : true = R := by
          rw [← HR.out]; unfold withinB
          exact (decide_eq_true ⟨by rw [HN.out]; omega, fun i hi => HOK.out i (by rw [HN.out] at hi; omega)⟩).symm
        subst hT
        go_wp2
        go_ret
        exact ⟨rfl, hb⟩
end Go.Proofs.YtalcmhngebobnaaDoor
