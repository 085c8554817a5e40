/-
  A region whose order is drawn, of which each operation yields something of a kind that stays so: whatever the order, all is of its kind at the end. Conditions: none.
-/
import Derived.Test.YtalcmhngebobnaaDoorDMem
import Derived.RegionTactic
namespace Go.Proofs.YtalcmhngebobnaaDoor
open Go.RowKit
set_option linter.unusedVariables false
def upd (f : Nat → Value) (i : Nat) (v : Value) : Nat → Value := fun j => if j = i then v else f j
theorem upd_same (f : Nat → Value) (i : Nat) (v : Value) : upd f i v i = v := if_pos rfl
theorem upd_other {f : Nat → Value} {i j : Nat} {v : Value} (h : j ≠ i) : upd f i v j = f j := if_neg h
theorem countP_less {p q : Nat → Bool} : ∀ {l : List Nat} {i : Nat}, i ∈ l → (∀ j, q j = true → p j = true) → p i = true → q i = false → l.countP q < l.countP p
  | [], _, h, _, _, _ => by simp at h
  | x :: l, i, h, hqp, hp, hq => by
    have hle : l.countP q ≤ l.countP p := List.countP_mono_left (fun j _ h => hqp j h)
    by_cases hx : x = i
    · subst hx
      rw [List.countP_cons, List.countP_cons, hp, hq]
      simp; omega
    · have hi : i ∈ l := by
        rcases List.mem_cons.1 h with h | h
        · exact absurd h.symm hx
        · exact h
      have ih := countP_less hi hqp hp hq
      rw [List.countP_cons, List.countP_cons]
      cases hqx : q x with
      | true => rw [hqp x hqx]; simp; omega
      | false => simp; omega
section
variable {P : Program} {md : Region.Mode} {ops : Array Oper} {Q : Exit → Act → World → Prop}
theorem getD_set {listed : Array Bool} {i j : Nat} (d : Bool) (hi : i < listed.size) : (listed.setIfInBounds i true).getD j d = if j = i then true else listed.getD j d := by
  simp only [Array.getD_eq_getD_getElem?, Array.getElem?_setIfInBounds]
  by_cases h : j = i
  · subst h; simp [hi]
  · rw [if_neg (fun e => h e.symm), if_neg h]
theorem getD_same {listed : Array Bool} {j : Nat} (h : j < listed.size) : listed.getD j true = listed.getD j false := by
  simp [Array.getD_eq_getD_getElem?, Array.getElem?_eq_getElem h]
/-- What waits for what. -/
def Waits (md : Region.Mode) (ops : Array Oper) (i j : Nat) : Prop := ∃ o, ops[i]? = some o ∧ ∃ e ∈ o.after, Region.binds md e = true ∧ e.on = j
theorem wpAny_facts {n : Nat} (hn : ops.size = n + 1) (mk : (Nat → Value) → Act) (F : Nat → Value → World → Prop) (G : World → Prop)
    (mono : ∀ j v w w', F j v w → Below w.heap.size w w' → F j v w')
    (clos : ∀ L : Nat → Prop, (∀ i j, L i → Waits md ops i j → L j) → (∀ j, Waits md ops n j → L j) → ∀ j, j < n → L j)
    (step : ∀ i, i < n → ∀ f w, G w → (∀ j, Waits md ops i j → F j (f j) w) → ∀ K : Act → World → Prop, (∀ v w', F i v w' → G w' → Below w.heap.size w w' → K (mk (upd f i v)) w') → wpOp P ops Q i K (mk f) w)
    (last : ∀ f w, G w → (∀ j, j < n → F j (f j) w) → ∀ K : Act → World → Prop, (∀ a' w', Q .normal a' w' → K a' w') → wpOp P ops Q n K (mk f) w)
    (back : ∀ i j, Waits md ops i j → j < i) :
    ∀ (fuel : Nat) (listed : Array Bool) (f : Nat → Value) (w : World), listed.size = n + 1 → G w → (∀ j, j < n → listed.getD j false = true → F j (f j) w) → listed.getD n false = false →
      (∀ i j, listed.getD i false = true → Waits md ops i j → listed.getD j false = true) → (List.range (n + 1)).countP (fun j => !listed.getD j false) ≤ fuel → wpAny P md ops Q fuel listed (mk f) w := by
  intro fuel
  induction fuel with
  | zero =>
    intro listed f w hs hG hF hl hd hc
    exfalso
    have : 0 < (List.range (n + 1)).countP (fun j => !listed.getD j false) := List.countP_pos_iff.2 ⟨n, by simp, by simp [hl]⟩
    omega
  | succ fuel ih =>
    intro listed f w hs hG hF hl hd hc
    have hready : ∀ i, i ∈ Region.ready md ops listed → i < n + 1 ∧ listed.getD i false = false ∧ ∀ j, Waits md ops i j → listed.getD j false = true := by
      intro i hi
      obtain ⟨h1, o, ho, h2⟩ := mem_ready.1 hi
      have hlt : i < n + 1 := by
        rcases Nat.lt_or_ge i ops.size with h | h
        · omega
        · rw [Array.getElem?_eq_none h] at ho; cases ho
      refine ⟨hlt, by rw [← getD_same (by omega)]; exact h1, ?_⟩
      rintro j ⟨o', ho', e, he, hb, rfl⟩
      obtain rfl : o' = o := Option.some.inj (ho'.symm.trans ho)
      exact h2 e he hb
    have hcount : ∀ i, i < n + 1 → listed.getD i false = false → (List.range (n + 1)).countP (fun j => !(listed.setIfInBounds i true).getD j false) ≤ fuel := by
      intro i hi hli
      have := countP_less (p := fun j => !listed.getD j false) (q := fun j => !(listed.setIfInBounds i true).getD j false) (l := List.range (n + 1)) (i := i) (by simp; omega)
        (fun j hj => by
          rw [getD_set false (by omega)] at hj
          by_cases h : j = i
          · simp [h] at hj
          · simpa [h] using hj) (by simp [hli]) (by rw [getD_set false (by omega)]; simp)
      omega
    refine ⟨fun h0 => ?_, fun i hi => ?_⟩
    · exfalso
      have hall : ∀ m, m ≤ n + 1 → ∀ j, j < m → listed.getD j false = true := by
        intro m
        induction m with
        | zero => intro _ j hj; omega
        | succ m ihm =>
          intro hm j hj
          rcases Nat.lt_or_eq_of_le (Nat.le_of_lt_succ hj) with h | h
          · exact ihm (by omega) j h
          · subst h
            cases hlj : listed.getD j false with
            | true => rfl
            | false =>
              exfalso
              have hj' : j < ops.size := by omega
              have : j ∈ Region.ready md ops listed := mem_ready.2 ⟨by rw [getD_same (by omega)]; exact hlj, ops[j], Array.getElem?_eq_getElem hj', fun e he hb => ihm (by omega) _ (back j e.on ⟨ops[j], Array.getElem?_eq_getElem hj', e, he, hb, rfl⟩)⟩
              rw [h0] at this
              cases this
      have := hall (n + 1) (Nat.le_refl _) n (by omega)
      rw [hl] at this
      cases this
    · obtain ⟨h1, h2, h3⟩ := hready i hi
      by_cases hin : i = n
      · subst hin
        have hall : ∀ j, j < i → listed.getD j false = true := clos (fun j => listed.getD j false = true) hd h3
        refine last f w hG (fun j hj => hF j hj (hall j hj)) _ (fun a' w' hq => wpAny_done ?_ hq _)
        rw [List.eq_nil_iff_forall_not_mem]
        intro j hj
        obtain ⟨h1', o, ho, _⟩ := mem_ready.1 hj
        have hlt : j < i + 1 := by
          rcases Nat.lt_or_ge j ops.size with h | h
          · omega
          · rw [Array.getElem?_eq_none h] at ho; cases ho
        rw [getD_set true (by omega)] at h1'
        by_cases hji : j = i
        · rw [if_pos hji] at h1'; cases h1'
        · rw [if_neg hji, getD_same (by omega), hall j (by omega)] at h1'; cases h1'
      · have hi' : i < n := by omega
        refine step i hi' f w hG (fun j hj => hF j (Nat.lt_trans (back i j hj) hi') (h3 j hj)) _ (fun v w' hv hG' hb => ?_)
        refine ih _ (upd f i v) w' (by simpa using hs) hG' (fun j hj hlj => ?_) ?_ ?_ (hcount i h1 h2)
        · rw [getD_set false (by omega)] at hlj
          by_cases hji : j = i
          · subst hji; rw [upd_same]; exact hv
          · rw [if_neg hji] at hlj
            rw [upd_other hji]
            exact mono _ _ _ _ (hF j hj hlj) hb
        · rw [getD_set false (by omega), if_neg (fun e => hin e.symm)]; exact hl
        · intro x y hx hw
          rw [getD_set false (by omega)] at hx ⊢
          by_cases hy : y = i
          · rw [if_pos hy]
          · rw [if_neg hy]
            by_cases hxi : x = i
            · subst hxi; exact h3 y hw
            · rw [if_neg hxi] at hx; exact hd x y hx hw
/-- The same, asked of the kernel. -/
def waitsB (md : Region.Mode) (ops : Array Oper) (i j : Nat) : Bool := match ops[i]? with | some o => o.after.any fun e => Region.binds md e && (e.on == j) | none => false
def backB (md : Region.Mode) (ops : Array Oper) : Bool := (List.range ops.size).all fun i => match ops[i]? with | some o => o.after.all fun e => !Region.binds md e || decide (e.on < i) | none => true
def succB (md : Region.Mode) (ops : Array Oper) (n : Nat) : Bool := (List.range n).all fun j => (List.range (n + 1)).any fun i => decide (j < i) && waitsB md ops i j
theorem waits_of {i j : Nat} (h : waitsB md ops i j = true) : Waits md ops i j := by
  unfold waitsB at h
  split at h
  · next o ho =>
    obtain ⟨e, he, hb⟩ := Array.any_eq_true'.1 h
    simp only [Bool.and_eq_true, beq_iff_eq] at hb
    exact ⟨o, ho, e, he, hb.1, hb.2⟩
  · cases h
theorem back_of (h : backB md ops = true) (i j : Nat) (hw : Waits md ops i j) : j < i := by
  obtain ⟨o, ho, e, he, hb, rfl⟩ := hw
  unfold backB at h
  rw [List.all_eq_true] at h
  have hi : i < ops.size := by
    rcases Nat.lt_or_ge i ops.size with h | h
    · exact h
    · rw [Array.getElem?_eq_none h] at ho; cases ho
  have := h i (by simpa using hi)
  rw [ho] at this
  have := Array.all_eq_true_iff_forall_mem.1 this e he
  simpa [hb] using this
theorem clos_of {n : Nat} (h : succB md ops n = true) (L : Nat → Prop) (h1 : ∀ i j, L i → Waits md ops i j → L j) (h2 : ∀ j, Waits md ops n j → L j) : ∀ j, j < n → L j := by
  unfold succB at h
  rw [List.all_eq_true] at h
  have key : ∀ d j, j < n → n - j = d → L j := by
    intro d
    induction d using Nat.strongRecOn with
    | ind d ih =>
      intro j hj hd
      have := h j (by simpa using hj)
      obtain ⟨i, hi, hb⟩ := List.any_eq_true.1 this
      simp only [Bool.and_eq_true, decide_eq_true_eq] at hb
      have hin : i < n + 1 := by simpa using hi
      by_cases he : i = n
      · subst he; exact h2 j (waits_of hb.2)
      · exact h1 i j (ih (n - i) (by omega) i (by omega) rfl) (waits_of hb.2)
  exact fun j hj => key _ j hj rfl
theorem wpOp_one {i : Nat} {o : Oper} {a : Act} {w : World} {K : Act → World → Prop} (ho : ops[i]? = some o) (hg : o.guard = none) (h : o.wp P a w K Q) : wpOp P ops Q i K a w := by
  unfold wpOp
  rw [ho]
  simp only [Region.wanted, hg, if_true]
  exact .inl h
/-- A drawn region of such operations, the last of which awaits all. -/
theorem region_facts {id n : Nat} (hm : P.follows .mixedOrders = true) (hn : ops.size = n + 1) (hback : backB .any ops = true) (hsucc : succB .any ops n = true) (mk : (Nat → Value) → Act) (F : Nat → Value → World → Prop) (G : World → Prop) (f0 : Nat → Value) (w : World)
    (mono : ∀ j v w w', F j v w → Below w.heap.size w w' → F j v w') (hG : G w.drew)
    (step : ∀ i, i < n → ∀ f w, G w → (∀ j, waitsB .any ops i j = true → F j (f j) w) → ∀ K : Act → World → Prop, (∀ v w', F i v w' → G w' → Below w.heap.size w w' → K (mk (upd f i v)) w') → wpOp P ops Q i K (mk f) w)
    (last : ∀ f w, G w → (∀ j, j < n → F j (f j) w) → ∀ K : Act → World → Prop, (∀ a' w', Q .normal a' w' → K a' w') → wpOp P ops Q n K (mk f) w) :
    (Code.region id ops true).wp P Q (mk f0) w := by
  refine wp_region_any hm (wpAny_facts hn mk F G mono (clos_of hsucc) (fun i hi f w hG h => step i hi f w hG (fun j hj => h j (waits_of hj))) last (back_of hback) _ _ f0 w.drew ?_ hG ?_ ?_ ?_ ?_)
  · simp [hn]
  · intro j hj hl
    rw [hn] at hl
    simp [Array.getD_eq_getD_getElem?, show j < n + 1 by omega] at hl
  · rw [hn]
    simp [Array.getD_eq_getD_getElem?]
  · intro i j hl
    rw [hn] at hl
    simp [Array.getD_eq_getD_getElem?, Array.getElem?_replicate] at hl
    split at hl <;> simp at hl
  · rw [hn]
    exact Nat.le_trans List.countP_le_length (by simp)
end
end Go.Proofs.YtalcmhngebobnaaDoor
