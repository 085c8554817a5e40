/-
  doc.formed: whether a list is formed. Conditions: the list lies as it is, the tables too; there are not too many nodes, the texts are not too long.
-/
import Derived.Test.YtchnmkagemmjoaaDoorDNames
import Derived.Test.YtchnmkagemmjoaaDoorDNode
namespace Go.Proofs.YtchnmkagemmjoaaDoor
open Go.RowKit
set_option linter.unusedVariables false
set_option maxRecDepth 100000
/-- Is a list formed, as the program asks it? -/
noncomputable def formedP : List Nd → Bool
  | [] => false
  | x :: r => rootB x && (placedB (x :: r) && (r.all nodeB && namesB (x :: r)))
theorem rest_of {b o n cap : Nat} (hn : 1 ≤ n) (hc : n ≤ cap) : ∃ A', (∀ W, (Instr.slice 22 (.slice (some ⟨b, o, none⟩) n cap) (some (.int .i64 1)) none none).run Tryd.prog W = .ok (.slice A' (n - 1) (cap - 1)) W) ∧ (1 < n → A' = some ⟨b, o + 8, none⟩) := by
  have hs : ∀ w, (sizeOf 38).run Tryd.prog w = .ok 8 w := fun w => by kernel_rfl
  refine ⟨if cap = 1 then some ⟨b, o, none⟩ else some ⟨b, o + 8, none⟩, fun W => ?_, fun h => by rw [if_neg (by omega)]⟩
  have h1 : (1 : Int) ≤ (n : Int) := by omega
  simp [Instr.slice, run_underlying Tryd.underlying22, Instr.sliceBounds, Instr.sliceBound, asIntOf, hs, h1, Addr.add]
theorem root_pa {x : Nd} {r : List Nd} (h : rootB x = true) : pa (x :: r) 0 = -1 := by
  unfold rootB at h
  simp only [Bool.and_eq_true, beq_iff_eq] at h
  rw [pa_at (by simp)]
  exact h.2.1
theorem placed_hang {l : List Nd} (h : placedB l = true) : ∀ i, 1 ≤ i → i < l.length → hangB l i = true := fun i h1 h2 => by
  cases hh : hangB l i with
  | true => rfl
  | false =>
    have := placed_no h1 h2 (by unfold okP; rw [hh]; rfl)
    rw [h] at this
    cases this
set_option maxHeartbeats 16000000 in
theorem formed_any (l : List Nd) (v : Value) (w : World) (hv : NsAt w w.heap.size v l) (hlen : l.length ≤ 100000) (hs : ∀ x ∈ l, Sm x) (hW : Wd w) :
    Calls Tryd.prog 29 #[v] w fun e w' => e = .returned (.bool (formedP l)) ∧ Below w.heap.size w w' := by
  have HV := Lib.hid hv
  obtain ⟨A, cap, rfl, hc1, hc2⟩ := hv.slice
  match l, hs, HV, hc1, hlen with
  | [], hs, HV, hc1, hlen =>
    have hnz : ((0 : Int) == 0) = true := rfl
    rw [show ([] : List Nd).length = 0 from rfl]
    go_enter Tryd.func29, Tryd.ntmps29
    go_wp2
    go_ret
    exact ⟨rfl, Below.refl _ _⟩
  | x :: r, hs, HV, hc1, hlen =>
    obtain ⟨b, o, cap', e, _, _, hbB, hnd⟩ := HV.out.open (by simp)
    simp only [Value.slice.injEq] at e
    obtain ⟨rfl, _, rfl⟩ := e
    have HND := Lib.hid hnd
    obtain ⟨vd, va, d0, d1, d2, d3, d4, d5, d6, d7, hd, ha⟩ := (hnd 0 (by simp)).cells
    have hx0 : (x :: r)[0] = x := rfl
    rw [hx0] at d0 d1 d2 d3 d4 d5 hd ha
    rw [Nat.zero_mul, Nat.add_zero] at d0 d1 d2 d3 d4 d5 d6 d7
    have HRT : Hid (Calls Tryd.prog 39 #[.agg #[.int .i64 x.k, .int .i64 x.n, .string x.p, .string x.l, .string x.u, .string x.t, vd, va]] w fun e w' => e = .returned (.bool (rootB x)) ∧ Below w.heap.size w w') := root_any x _ w ⟨vd, va, rfl, hd, ha⟩
    obtain ⟨A1, c1, rfl, _⟩ := hd
    obtain ⟨A2, c2, rfl, _⟩ := ha
    obtain ⟨n, hn⟩ : ∃ n, (x :: r).length = n := ⟨_, rfl⟩
    have HN := Lib.hid hn
    have hn1 : 1 ≤ n := by rw [← hn]; simp
    have HPL : Hid (∀ w', Below w.heap.size w w' → Calls Tryd.prog 40 #[.slice (some ⟨b, o, none⟩) (x :: r).length cap] w' fun e w'' => e = .returned (.bool (placedB (x :: r))) ∧ Below w'.heap.size w' w'') := fun w' hb => placed_any (x :: r) _ w' (HV.out.later hb) (by simp) (by omega)
    have HNM : Hid (rootB x = true → placedB (x :: r) = true → ∀ w', Below w.heap.size w w' → Calls Tryd.prog 42 #[.slice (some ⟨b, o, none⟩) (x :: r).length cap] w' fun e w'' => e = .returned (.bool (namesB (x :: r))) ∧ Below w'.heap.size w' w'') := fun h1 h2 w' hb =>
      names_any (x :: r) _ w' (HV.out.later hb) hlen hs (by have := (hW.later hb).tabs.five; omega) (root_pa h1) (placed_hang h2)
    rw [hn] at HPL HNM hc1 hlen ⊢
    obtain ⟨A', hsl, hA'⟩ := rest_of (b := b) (o := o) hn1 hc1
    have HW := Lib.hid hW
    rw [show formedP (x :: r) = (rootB x && (placedB (x :: r) && (r.all nodeB && namesB (x :: r)))) from rfl]
    generalize rootB x = B1 at *
    generalize placedB (x :: r) = B2 at *
    generalize namesB (x :: r) = B4 at *
    obtain ⟨B3, hB3⟩ : ∃ B3, r.all nodeB = B3 := ⟨_, rfl⟩
    rw [hB3]
    have HB3 := Lib.hid hB3
    have hnz : ((n : Int) == 0) = false := by rw [beq_eq_false_iff_ne]; omega
    have hnp : (0 : Int) < (n : Int) := by omega
    have hrl : r.length = n - 1 := by rw [← hn]; simp
    have HRL := Lib.hid hrl
    have hn1z : ((n - 1 : Nat) : Int) = (n : Int) - 1 := by omega
    clear hB3 hnd hn hrl hW hx0
    go_enter Tryd.func29, Tryd.ntmps29
    go_wp2_with fail
    refine HRT.out.mono ?_
    rintro e w1 ⟨rfl, hb1⟩
    cases B1 with
    | false =>
      go_wp2
      go_ret
      exact ⟨rfl, hb1⟩
    | true =>
      go_wp2_with fail
      refine (HPL.out w1 hb1).mono ?_
      rintro e w2 ⟨rfl, hb2⟩
      have hbw := hb1.trans (hb2.mono hb1.size)
      have HBW := Lib.hid hbw
      cases B2 with
      | false =>
        go_wp2
        go_ret
        exact ⟨rfl, hbw⟩
      | true =>
        clear hb1 hb2 HRT HPL d0 d1 d2 d3 d4 d5 d6 d7
        obtain ⟨m, hm⟩ : ∃ m, n - 1 = m := ⟨_, rfl⟩
        rw [hm] at hsl HRL
        have HM := Lib.hid hm
        have hmn : m + 1 = n := by omega
        clear hm hn1z
        go_wp2
        go_loopw [23] (AllRel nodeB r w2) (fun i _ => m - (intOf i).toNat)
        case atStart => exact ⟨0, Nat.zero_le _, rfl, rfl, Below.refl _ _⟩
        case round =>
          obtain ⟨k, hk, rfl, hal, hbr⟩ := hrel
          have HAL := Lib.hid hal
          have hbwr := HBW.out.trans (hbr.mono HBW.out.size)
          rw [HRL.out] at hk
          clear hal hsl
          by_cases hlt : k < m
          · have hkr : k < r.length := by rw [HRL.out]; exact hlt
            have hkl : k + 1 < (x :: r).length := by simp; omega
            obtain rfl := hA' (by omega)
            obtain ⟨vd, va, d0, d1, d2, d3, d4, d5, d6, d7, hd, ha⟩ := ((HND.out (k + 1) hkl).below hbB hbwr).cells
            have hxe : (x :: r)[k + 1] = r[k] := rfl
            rw [hxe] at d0 d1 d2 d3 d4 d5 hd ha
            have ho : o + (k + 1) * 8 = o + 8 + k * 8 := by omega
            rw [ho] at d0 d1 d2 d3 d4 d5 d6 d7
            have hsx := hs r[k] (List.mem_cons_of_mem _ (List.getElem_mem hkr))
            have HNX : Hid (∀ w', Below wr.heap.size wr w' → Calls Tryd.prog 41 #[.agg #[.int .i64 r[k].k, .int .i64 r[k].n, .string r[k].p, .string r[k].l, .string r[k].u, .string r[k].t, vd, va]] w' fun e w'' => e = .returned (.bool (nodeB r[k])) ∧ Below w'.heap.size w' w'') := fun w' hb' =>
              node_any r[k] _ hsx w' (HW.out.later (hbwr.trans (hb'.mono hbwr.size))) ((NdV.mono ⟨vd, va, rfl, hd, ha⟩ hbwr.size).later hb')
            obtain ⟨A1, c1, rfl, _⟩ := hd
            obtain ⟨A2, c2, rfl, _⟩ := ha
            have HF : Hid (nodeB r[k] = false → B3 = false) := fun h => by rw [← HB3.out, all_not hkr h]
            have HT : Hid (nodeB r[k] = true → (r.take (k + 1)).all nodeB = true) := all_next hkr HAL.out
            have hkz : (k : Int) < (m : Int) := by omega
            generalize nodeB r[k] = BB at *
            generalize r[k] = y at *
            clear ho hxe
            go_wp2_with fail
            refine (HNX.out _ ((Below.refl _ _).alloc (Nat.le_refl _) _)).mono ?_
            rintro e w3 ⟨rfl, hb3⟩
            have hb3' := below_box hb3
            clear hb3
            cases BB with
            | false =>
              obtain rfl := HF.out rfl
              go_wp2
              go_ret
              exact ⟨rfl, hbwr.trans (hb3'.mono hbwr.size)⟩
            | true =>
              go_wp2
              go_roundw
              case rel => exact ⟨k + 1, hkr, by go_num, HT.out (by simp), hbr.trans (hb3'.mono hbr.size)⟩
              case measure => simp [intOf]; omega
          · have hkz : ¬ (k : Int) < (m : Int) := by omega
            have hT : true = B3 := by rw [← HB3.out]; exact (all_whole (by rw [HRL.out]; exact hlt) HAL.out).symm
            subst hT
            have HNN := Lib.hid (HNM.out (by simp) (by simp) wr hbwr)
            go_wp2_with fail
            refine HNN.out.mono ?_
            rintro e w3 ⟨rfl, hb3⟩
            go_wp2
            go_ret
            exact ⟨rfl, hbwr.trans (hb3.mono hbwr.size)⟩
end Go.Proofs.YtchnmkagemmjoaaDoor
