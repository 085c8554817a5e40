/-
  doc.placed: whether all nodes behind the Root stand where they may. Conditions: the list lies as it is, and is not too long.
-/
import Derived.Test.YtalcmhngebobnaaDoorDHang
import Derived.Test.YtalcmhngebobnaaDoorDBeside
namespace Go.Proofs.YtalcmhngebobnaaDoor
open Go.RowKit
set_option linter.unusedVariables false
set_option maxRecDepth 100000
/-- Stands the node i where it may? -/
def okP (l : List Nd) (i : Nat) : Bool := hangB l i && (!besideB l i && (!(pa l i == 0) || (kd l i == 1 || (kd l i == 3 || kd l i == 4))))
/-- How many elements hang on the Root, among the first ones. -/
def tops (l : List Nd) : Nat → Nat
  | 0 => 0
  | i + 1 => tops l i + (if 1 ≤ i ∧ pa l i = 0 ∧ kd l i = 1 then 1 else 0)
theorem tops_le (l : List Nd) : ∀ i, tops l i ≤ i
  | 0 => Nat.le_refl _
  | i + 1 => by rw [tops]; have := tops_le l i; split <;> omega
open Classical in
noncomputable def placedB (l : List Nd) : Bool := decide ((∀ i, 1 ≤ i → i < l.length → okP l i = true) ∧ tops l l.length = 1)
theorem hang_less {l : List Nd} {i : Nat} (h1 : 1 ≤ i) (h : hangB l i = true) : 0 ≤ pa l i ∧ pa l i < (i : Int) := by
  unfold hangB at h
  simp only [Bool.and_eq_true, decide_eq_true_eq] at h
  have := chn_le h.1.2
  omega
theorem hung_of {l : List Nd} {i : Nat} (h : ∀ j, 1 ≤ j → j < i → okP l j = true) : Hung l i := fun j h1 h2 => by
  have := h j h1 h2
  unfold okP at this
  rw [Bool.and_eq_true] at this
  exact hang_less h1 this.1
theorem placed_no {l : List Nd} {i : Nat} (h1 : 1 ≤ i) (h2 : i < l.length) (h : okP l i = false) : placedB l = false := by
  unfold placedB
  rw [decide_eq_false_iff_not]
  rintro ⟨h', _⟩
  rw [h' i h1 h2] at h
  cases h
theorem placed_end {l : List Nd} (h : ∀ j, 1 ≤ j → j < l.length → okP l j = true) : placedB l = decide (tops l l.length = 1) := by
  unfold placedB
  exact decide_eq_decide.2 ⟨fun h' => h'.2, fun h' => ⟨h, h'⟩⟩
/-- What holds at each round's head. -/
def PlRel (w : World) (l : List Nd) (t i : Value) (wr : World) : Prop :=
  ∃ k : Nat, 1 ≤ k ∧ k ≤ l.length ∧ i = .int .i64 k ∧ t = .int .i64 (tops l k : Nat) ∧ (∀ j, 1 ≤ j → j < k → okP l j = true) ∧ Below w.heap.size w wr
theorem less_one {p : Nat → Prop} {k : Nat} (h : ∀ j, 1 ≤ j → j < k → p j) (hk : p k) : ∀ j, 1 ≤ j → j < k + 1 → p j := fun j h1 hj => by
  rcases Nat.lt_or_eq_of_le (Nat.le_of_lt_succ hj) with h2 | h2
  · exact h j h1 h2
  · rw [h2]; exact hk
set_option maxHeartbeats 8000000 in
theorem placed_any (l : List Nd) (v : Value) (w : World) (hv : NsAt w w.heap.size v l) (h0 : 0 < l.length) (hlen : l.length ≤ 2000000) :
    Calls Tryd.prog 21 #[v] w fun e w' => e = .returned (.bool (placedB l)) ∧ Below w.heap.size w w' := by
  have HV := Lib.hid hv
  obtain ⟨b, o, cap, rfl, hc1, hc2, hbB, hnd⟩ := hv.open (by intro h; subst h; simp at h0)
  have HND := Lib.hid hnd
  obtain ⟨R, hR⟩ : ∃ R, placedB l = R := ⟨_, rfl⟩
  rw [hR]
  have HR := Lib.hid hR
  obtain ⟨n, hn⟩ : ∃ n, l.length = n := ⟨_, rfl⟩
  have HN := Lib.hid hn
  rw [hn] at h0 hlen hc1 ⊢
  clear hnd hR hn
  go_enter Tryd.func21, Tryd.ntmps21
  go_wp2
  go_loopw [3, 4] (PlRel w l) (fun _ i _ => n - (intOf i).toNat)
  case atStart => exact ⟨1, Nat.le_refl _, by rw [HN.out]; omega, rfl, rfl, fun j h1 h2 => by omega, Below.refl _ _⟩
  case round =>
    obtain ⟨k, hk1, hk, rfl, rfl, hok, hb⟩ := hrel
    rw [HN.out] at hk
    have HOK := Lib.hid hok
    clear hok
    by_cases hlt : k < n
    · have hkl : k < l.length := by rw [HN.out]; exact hlt
      have HH := Lib.hid (hangs_any l _ k wr (HV.out.later hb) hk1 hkl (hung_of HOK.out) (by rw [HN.out]; exact hlen))
      have HB := Lib.hid (beside_any l _ k wr (HV.out.later hb) hk1 hkl (by rw [HN.out]; exact hlen))
      rw [HN.out] at HH HB
      obtain ⟨vd, va, c0, c1, _⟩ := (HND.out k hkl).cells
      rw [← kd_at hkl] at c0
      rw [← pa_at hkl] at c1
      have hkz : (k : Int) < (n : Int) := by omega
      have htz := tops_le l k
      have HNO : Hid (okP l k = false → R = false) := fun h => by rw [← HR.out]; exact placed_no hk1 hkl h
      have HYES : Hid (okP l k = true → ∀ w', Below w.heap.size w w' → PlRel w l (.int .i64 (tops l (k + 1) : Nat)) (.int .i64 ((k + 1 : Nat) : Int)) w') := fun h w' hb' => ⟨k + 1, by omega, hkl, rfl, rfl, less_one HOK.out h, hb'⟩
      have HTP : Hid (tops l (k + 1) = tops l k + (if 1 ≤ k ∧ pa l k = 0 ∧ kd l k = 1 then 1 else 0)) := rfl
      have hKK : okP l k = (hangB l k && (!besideB l k && (!(pa l k == 0) || (kd l k == 1 || (kd l k == 3 || kd l k == 4))))) := rfl
      rw [hKK] at HNO HYES
      generalize tops l k = T at *
      generalize tops l (k + 1) = T' at *
      generalize hangB l k = B1 at *
      generalize besideB l k = B2 at *
      generalize pa l k = p at *
      generalize kd l k = q at *
      clear hKK
      cases B1 with
      | false =>
        obtain rfl := HNO.out rfl
        go_wp2_with fail
        refine HH.out.mono ?_
        rintro e w1 ⟨rfl, hw1⟩
        rw [hw1]
        go_wp2
        go_ret
        exact ⟨rfl, hb⟩
      | true =>
        go_wp2_with fail
        refine HH.out.mono ?_
        rintro e w1 ⟨rfl, hw1⟩
        rw [hw1]
        clear hw1
        go_wp2_with fail
        refine HB.out.mono ?_
        rintro e w2 ⟨rfl, hb2⟩
        have hbw := hb.trans (hb2.mono hb.size)
        replace c0 := (hbw.cell (p := ⟨b, o + k * 8, none⟩) hbB).trans c0
        replace c1 := (hbw.cell (p := ⟨b, o + k * 8 + 1, none⟩) hbB).trans c1
        cases B2 with
        | true =>
          obtain rfl := HNO.out rfl
          go_wp2
          go_ret
          exact ⟨rfl, hbw⟩
        | false =>
          by_cases hp : p = 0
          · subst hp
            by_cases hq1 : q = 1
            · subst hq1
              have hT : T' = T + 1 := by rw [HTP.out]; simp [hk1]
              rw [hT] at HYES
              go_wp2
              go_roundw
              case rel => exact (show Value.int .i64 ((k + 1 : Nat) : Int) = _ by go_num) ▸ (show Value.int .i64 ((T + 1 : Nat) : Int) = _ by go_num) ▸ HYES.out (by simp) _ hbw
              case measure => simp [intOf]; omega
            · have hT : T' = T := by rw [HTP.out]; simp [hq1]
              rw [hT] at HYES
              have t1 : (q == 1) = false := by simpa using hq1
              by_cases hq3 : q = 3
              · subst hq3
                go_wp2
                go_roundw
                case rel => exact (show Value.int .i64 ((k + 1 : Nat) : Int) = _ by go_num) ▸ HYES.out (by simp) _ hbw
                case measure => simp [intOf]; omega
              · have t3 : (q == 3) = false := by simpa using hq3
                by_cases hq4 : q = 4
                · subst hq4
                  go_wp2
                  go_roundw
                  case rel => exact (show Value.int .i64 ((k + 1 : Nat) : Int) = _ by go_num) ▸ HYES.out (by simp) _ hbw
                  case measure => simp [intOf]; omega
                · have t4 : (q == 4) = false := by simpa using hq4
                  obtain rfl := HNO.out (by simp [t1, t3, t4])
                  go_wp2
                  go_ret
                  exact ⟨rfl, hbw⟩
          · have hT : T' = T := by rw [HTP.out]; simp [hp]
            rw [hT] at HYES
            have t0 : (p == 0) = false := by simpa using hp
            have t0' : (p != 0) = true := by simpa using hp
            go_wp2
            go_roundw
            case rel => exact (show Value.int .i64 ((k + 1 : Nat) : Int) = _ by go_num) ▸ HYES.out (by simp [t0]) _ hbw
            case measure => simp [intOf]; omega
    · have hkn : k = n := by omega
      subst hkn
      have hkz : ¬ (k : Int) < (k : Int) := by omega
      have hRe : R = decide (tops l k = 1) := by rw [← HR.out, placed_end (by rw [HN.out]; exact HOK.out), HN.out]
      have HRE := Lib.hid hRe
      generalize tops l k = T at *
      clear hRe
      go_wp2
      go_ret
      refine ⟨ret_bool ?_, hb⟩
      rw [HRE.out, Bool.eq_iff_iff]
      simp
      omega
end Go.Proofs.YtalcmhngebobnaaDoor
