/-
  doc.besideText: whether a node and the one ahead of it are Texts side by side. Conditions: the list lies as it is.
-/
import Derived.Test.YtalcmhngebobnaaDoorDForm2
import Derived.RegionTactic
namespace Go.Proofs.YtalcmhngebobnaaDoor
open Go.RowKit
set_option linter.unusedVariables false
set_option maxRecDepth 100000
def besideB (l : List Nd) (i : Nat) : Bool := (kd l i == 2) && ((kd l (i - 1) == 2) && (pa l i == pa l (i - 1)))
set_option maxHeartbeats 8000000 in
theorem beside_any (l : List Nd) (v : Value) (i : Nat) (w : World) (hv : NsAt w w.heap.size v l) (h1 : 1 ≤ i) (hi : i < l.length) (hlen : l.length ≤ 2000000) :
    Calls Tryd.prog 31 #[v, .int .i64 (i : Int)] w fun e w' => e = .returned (.bool (besideB l i)) ∧ Below w.heap.size w w' := by
  obtain ⟨b, o, cap, rfl, hc1, hc2, hbB, hnd⟩ := hv.open (by intro h; subst h; simp at hi)
  obtain ⟨j, rfl⟩ : ∃ j, i = j + 1 := ⟨i - 1, by omega⟩
  obtain ⟨vd, va, c0, c1, c2, c3, c4, c5, c6, c7, ⟨A1, q1, rfl, _⟩, ⟨A2, q2, rfl, _⟩⟩ := (hnd (j + 1) hi).cells
  obtain ⟨vd', va', d0, d1, d2, d3, d4, d5, d6, d7, ⟨A3, q3, rfl, _⟩, ⟨A4, q4, rfl, _⟩⟩ := (hnd j (by omega)).cells
  unfold besideB
  rw [show j + 1 - 1 = j from rfl]
  rw [← kd_at hi] at c0
  rw [← pa_at hi] at c1
  rw [← kd_at (l := l) (i := j) (by omega)] at d0
  rw [← pa_at (l := l) (i := j) (by omega)] at d1
  generalize kd l (j + 1) = K at *
  generalize pa l (j + 1) = N at *
  generalize kd l j = K' at *
  generalize pa l j = N' at *
  generalize l[j + 1].ds.length = n1 at *
  generalize l[j + 1].ats.length = n2 at *
  generalize (l[j]'(by omega)).ds.length = n3 at *
  generalize (l[j]'(by omega)).ats.length = n4 at *
  generalize l[j + 1].p = p at *
  generalize l[j + 1].l = lo at *
  generalize l[j + 1].u = u at *
  generalize l[j + 1].t = t at *
  generalize (l[j]'(by omega)).p = p' at *
  generalize (l[j]'(by omega)).l = lo' at *
  generalize (l[j]'(by omega)).u = u' at *
  generalize (l[j]'(by omega)).t = t' at *
  obtain ⟨n, hn⟩ : ∃ n, l.length = n := ⟨_, rfl⟩
  rw [hn] at hi hc1 hlen ⊢
  have hiz : (j : Int) + 1 < (n : Int) := by omega
  have hjz : (j : Int) < (n : Int) := by omega
  have ho : o + (j + 1) * 8 = o + j * 8 + 8 := by omega
  rw [ho] at c0 c1 c2 c3 c4 c5 c6 c7
  have hA : ∀ (o1 : Obj) (k : Nat), (w.alloc o1).cell? ⟨b, k, none⟩ = w.cell? ⟨b, k, none⟩ := fun o1 k => ((Below.refl w.heap.size w).alloc (Nat.le_refl _) o1).cell (p := ⟨b, k, none⟩) hbB
  have hA2 : ∀ (o1 o2 : Obj) (k : Nat), ((w.alloc o1).alloc o2).cell? ⟨b, k, none⟩ = w.cell? ⟨b, k, none⟩ := fun o1 o2 k => (((Below.refl w.heap.size w).alloc (Nat.le_refl _) o1).alloc (by simp) o2).cell (p := ⟨b, k, none⟩) hbB
  clear hnd hn
  go_enter Tryd.func31, Tryd.ntmps31
  go_wp2
  go_region
  all_goals
    go_wp2
  all_goals
    go_ret
    refine ⟨ret_bool ?_, ?_⟩
    · rw [Bool.eq_iff_iff]
      simp [*]
    · exact (((Below.refl w.heap.size w).alloc (Nat.le_refl _) _).alloc (by simp) _).drew
end Go.Proofs.YtalcmhngebobnaaDoor
