/-
  doc.Of: the document of a list, or why it is none. Conditions: the list lies as it is, the tables too; there are not too many nodes, the texts are not too long.
-/
import Derived.Test.YtchnmkagemmjoaaDoorDFormed
import Derived.Test.YtchnmkagemmjoaaDoorDList
namespace Go.Proofs.YtchnmkagemmjoaaDoor
open Go.RowKit
set_option linter.unusedVariables false
set_option maxRecDepth 100000
/-- A document in memory: a block that holds a list of its own. -/
def DocAt (w : World) (B d : Nat) (l : List Nd) : Prop := ∃ v, B ≤ d ∧ w.heap[d]? = some (.cells #[v] 58 (0, 0)) ∧ NsOwn w B v l
theorem DocAt.later {w w' : World} {B d : Nat} {l : List Nd} (h : DocAt w B d l) (hb : Below w.heap.size w w') : DocAt w' B d l := by
  obtain ⟨v, h1, h2, h3⟩ := h
  exact ⟨v, h1, (hb.block d (block_lt h2)).trans h2, h3.later hb⟩
/-- What is answered. -/
def OfAns (l : List Nd) (B : Nat) (e : Ending) (w' : World) : Prop :=
  (formedP l = false ∧ e = .returned (.tuple #[.pointer none, .int .i64 2])) ∨ (formedP l = true ∧ withinB l = false ∧ e = .returned (.tuple #[.pointer none, .int .i64 3])) ∨
  (formedP l = true ∧ withinB l = true ∧ ∃ d, e = .returned (.tuple #[.pointer (some ⟨d, 0, none⟩), .int .i64 0]) ∧ DocAt w' B d l)
theorem formed_hung {l : List Nd} (h : formedP l = true) : l ≠ [] ∧ pa l 0 = -1 ∧ Hung l l.length ∧ ∀ i, 1 ≤ i → i < l.length → hangB l i = true := by
  match l, h with
  | x :: r, h =>
    rw [show formedP (x :: r) = (rootB x && (placedB (x :: r) && (r.all nodeB && namesB (x :: r)))) from rfl] at h
    simp only [Bool.and_eq_true] at h
    have hh := placed_hang h.2.1
    exact ⟨by simp, root_pa h.1, fun j h1 h2 => hang_less h1 (hh j h1 h2), hh⟩
set_option maxHeartbeats 8000000 in
theorem of_any (l : List Nd) (v : Value) (w : World) (hv : NsAt w w.heap.size v l) (hlen : l.length ≤ 100000) (hs : ∀ x ∈ l, Sm x) (hW : Wd w) :
    Calls Tryd.prog 11 #[v] w fun e w' => OfAns l w.heap.size e w' ∧ Below w.heap.size w w' := by
  have HF := Lib.hid (formed_any l v w hv hlen hs hW)
  have HWI : Hid (formedP l = true → ∀ w', Below w.heap.size w w' → Calls Tryd.prog 30 #[v] w' fun e w'' => e = .returned (.bool (withinB l)) ∧ Below w'.heap.size w' w'') := fun h w' hb =>
    within_any l v w' (hv.later hb) (by omega) (fun x hx => ⟨(hs x hx).nd, (hs x hx).na⟩) (formed_hung h).2.2.1 (formed_hung h).2.1
  have HC : Hid (∀ w', Below w.heap.size w w' → Calls Tryd.prog 31 #[v, .func (.func 32) #[] #[]] w' fun e w'' => ∃ v', e = .returned v' ∧ NsOwn w'' w'.heap.size v' l ∧ Below w'.heap.size w' w'') := fun w' hb => ncopies_any l v w' (hv.later hb) (by omega) hs
  clear hv hW
  unfold OfAns
  cases hf : formedP l with
  | false =>
    rw [hf] at HF
    clear hf
    go_enter Tryd.func11, Tryd.ntmps11
    go_wp2_with fail
    refine HF.out.mono ?_
    rintro e w1 ⟨rfl, hb1⟩
    go_wp2
    go_ret2
    exact ⟨.inl ⟨by simp, rfl⟩, hb1⟩
  | true =>
    have HWI2 := Lib.hid (HWI.out hf)
    rw [hf] at HF
    clear hf HWI
    cases hw : withinB l with
    | false =>
      rw [hw] at HWI2
      clear hw
      go_enter Tryd.func11, Tryd.ntmps11
      go_wp2_with fail
      refine HF.out.mono ?_
      rintro e w1 ⟨rfl, hb1⟩
      go_wp2_with fail
      refine (HWI2.out w1 hb1).mono ?_
      rintro e w2 ⟨rfl, hb2⟩
      go_wp2
      go_ret2
      exact ⟨.inr (.inl ⟨by simp, by simp, rfl⟩), hb1.trans (hb2.mono hb1.size)⟩
    | true =>
      rw [hw] at HWI2
      clear hw
      go_enter Tryd.func11, Tryd.ntmps11
      go_wp2_with fail
      refine HF.out.mono ?_
      rintro e w1 ⟨rfl, hb1⟩
      go_wp2_with fail
      refine (HWI2.out w1 hb1).mono ?_
      rintro e w2 ⟨rfl, hb2⟩
      have hbw := hb1.trans (hb2.mono hb1.size)
      clear hb1 hb2
      go_wp2_with fail
      refine (HC.out w2 hbw).mono ?_
      rintro e w3 ⟨v', rfl, hown, hb3⟩
      have HO := Lib.hid hown
      obtain ⟨A, n, c, rfl⟩ : ∃ A n c, v' = .slice A n c := by
        rcases hown with ⟨_, rfl⟩ | ⟨g, cur, rfl, _⟩
        · exact ⟨_, _, _, rfl⟩
        · exact ⟨_, _, _, rfl⟩
      have hbw3 := hbw.trans (hb3.mono hbw.size)
      clear hown
      go_wp2
      go_ret2
      refine ⟨.inr (.inr ⟨by simp, by simp, w3.heap.size, rfl, _, Nat.le_trans hbw.size hb3.size, heap_alloc_last w3 _, ?_⟩), hbw3.alloc hbw3.size _⟩
      exact (HO.out.mono hbw.size).later ((Below.refl _ _).alloc (Nat.le_refl _) _)
end Go.Proofs.YtchnmkagemmjoaaDoor
