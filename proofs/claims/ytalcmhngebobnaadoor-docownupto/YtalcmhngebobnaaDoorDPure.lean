/-
  Who hangs on whom in a list of nodes: numbers alone. Conditions: none.
-/
import Derived.Test.YtalcmhngebobnaaDoorDMem
namespace Go.Proofs.YtalcmhngebobnaaDoor
set_option linter.unusedVariables false
/-- A node's parent, and its kind. -/
def pa (l : List Nd) (i : Nat) : Int := ((l[i]?).map (·.n)).getD (-1)
def kd (l : List Nd) (i : Nat) : Int := ((l[i]?).map (·.k)).getD (-1)
theorem pa_at {l : List Nd} {i : Nat} (h : i < l.length) : pa l i = l[i].n := by simp [pa, List.getElem?_eq_getElem h]
theorem kd_at {l : List Nd} {i : Nat} (h : i < l.length) : kd l i = l[i].k := by simp [kd, List.getElem?_eq_getElem h]
/-- A node and those above it, the nearest first. -/
def chn (l : List Nd) (n : Nat) : List Nat :=
  n :: (if h : 0 ≤ pa l n ∧ (pa l n).toNat < n then chn l (pa l n).toNat else [])
termination_by n
decreasing_by exact h.2
theorem chn_step {l : List Nd} {n : Nat} (h : 0 ≤ pa l n ∧ (pa l n).toNat < n) : chn l n = n :: chn l (pa l n).toNat := by rw [chn, dif_pos h]
theorem chn_stop {l : List Nd} {n : Nat} (h : ¬ (0 ≤ pa l n ∧ (pa l n).toNat < n)) : chn l n = [n] := by rw [chn, dif_neg h]
theorem chn_self (l : List Nd) (n : Nat) : n ∈ chn l n := by rw [chn]; exact List.mem_cons_self
theorem chn_le {l : List Nd} : ∀ {n m : Nat}, m ∈ chn l n → m ≤ n := by
  intro n
  induction n using Nat.strongRecOn with
  | ind n ih =>
    intro m h
    by_cases hp : 0 ≤ pa l n ∧ (pa l n).toNat < n
    · rw [chn_step hp, List.mem_cons] at h
      rcases h with rfl | h
      · exact Nat.le_refl _
      · have := ih _ hp.2 h; omega
    · rw [chn_stop hp, List.mem_singleton] at h
      omega
/-- Nodes up to i hang on nodes ahead. -/
def Hung (l : List Nd) (i : Nat) : Prop := ∀ j, 1 ≤ j → j < i → 0 ≤ pa l j ∧ pa l j < (j : Int)
theorem Hung.toNat {l : List Nd} {i j : Nat} (h : Hung l i) (h1 : 1 ≤ j) (h2 : j < i) : 0 ≤ pa l j ∧ (pa l j).toNat < j := by
  have := h j h1 h2; omega
theorem Hung.mono {l : List Nd} {i j : Nat} (h : Hung l i) (hj : j ≤ i) : Hung l j := fun k h1 h2 => h k h1 (by omega)
/-- Does the node i hang where it may? -/
def hangB (l : List Nd) (i : Nat) : Bool := decide (0 ≤ pa l i) && decide ((pa l i).toNat ∈ chn l (i - 1)) && (kd l (pa l i).toNat == 0 || kd l (pa l i).toNat == 1)
/-- One step up from above the parent. -/
theorem mem_step {l : List Nd} {i a p : Nat} (h : Hung l i) (ha : a < i) (hp : p < a) : p ∈ chn l a ↔ p ∈ chn l (pa l a).toNat := by
  rw [chn_step (h.toNat (by omega) ha), List.mem_cons]
  constructor
  · rintro (rfl | h)
    · omega
    · exact h
  · exact .inr
theorem mem_end {l : List Nd} {a p : Nat} (hp : a ≤ p) : p ∈ chn l a ↔ p = a := by
  constructor
  · intro h; have := chn_le h; omega
  · rintro rfl; exact chn_self l p
end Go.Proofs.YtalcmhngebobnaaDoor
