/-
  A list with one more element in its element, behind all else: numbers alone. Conditions: the list is formed and within the limits.
  Up to a place two lists that have the same nodes there say the same; a list with one more element in its element, behind all else, is formed just if its name is one: numbers alone. Conditions: the list is formed.
  A document with one more element in its element, behind all else, is formed just if its name is one, and within the limits: numbers alone. Conditions: the texts are not too long, there are few nodes.
  Nodes with their lists' values: how a list of nodes lies as one row of cells, opened and shut. Conditions: none.
  DocMore walked. Conditions: the list lies as it is, its texts are not too long; the tables lie as they are laid, internal/bytealg.MaxLen holds some number.
-/
import Derived.Test.YtchnmkagemmjoaaDoorWForms
import Derived.Test.YtchnmkagemmjoaaDoorDOf
import Derived.Deep.Slices
import Derived.Deep.AppendLies
namespace Go.Proofs.YtchnmkagemmjoaaDoor
set_option linter.unusedVariables false
/-- An element of the Root. -/
def TopN (l : List Nd) (i : Nat) : Prop := 1 ≤ i ∧ pa l i = 0 ∧ kd l i = 1
theorem tops_none {l : List Nd} : ∀ k, tops l k = 0 → ∀ j, j < k → ¬ TopN l j
  | 0, _, j, hj => by omega
  | k + 1, h, j, hj => by
    rw [tops] at h
    have h1 : tops l k = 0 := by omega
    have h2 : ¬ TopN l k := fun ht => by
      have ht' : 1 ≤ k ∧ pa l k = 0 ∧ kd l k = 1 := ht
      rw [if_pos ht'] at h; omega
    rcases Nat.lt_or_eq_of_le (Nat.le_of_lt_succ hj) with e | e
    · exact tops_none k h1 j e
    · subst e; exact h2
theorem tops_of_none {l : List Nd} : ∀ k, (∀ j, j < k → ¬ TopN l j) → tops l k = 0
  | 0, _ => rfl
  | k + 1, h => by
    have h2 : ¬ (1 ≤ k ∧ pa l k = 0 ∧ kd l k = 1) := h k (by omega)
    rw [tops, if_neg h2, tops_of_none k (fun j hj => h j (by omega))]
theorem tops_one {l : List Nd} : ∀ k, tops l k = 1 → ∃ t, t < k ∧ TopN l t ∧ ∀ j, j < k → TopN l j → j = t
  | 0, h => by rw [tops] at h; omega
  | k + 1, h => by
    rw [tops] at h
    by_cases hk : 1 ≤ k ∧ pa l k = 0 ∧ kd l k = 1
    · rw [if_pos hk] at h
      refine ⟨k, by omega, hk, fun j hj ht => ?_⟩
      rcases Nat.lt_or_eq_of_le (Nat.le_of_lt_succ hj) with e | e
      · exact absurd ht (tops_none k (by omega) j e)
      · exact e
    · rw [if_neg hk] at h
      obtain ⟨t, h1, h2, h3⟩ := tops_one k (by omega)
      refine ⟨t, by omega, h2, fun j hj ht => ?_⟩
      rcases Nat.lt_or_eq_of_le (Nat.le_of_lt_succ hj) with e | e
      · exact h3 j e ht
      · subst e; exact absurd ht hk
theorem tops_of_one {l : List Nd} {t : Nat} (ht : TopN l t) : ∀ k, t < k → (∀ j, j < k → TopN l j → j = t) → tops l k = 1
  | 0, h, _ => by omega
  | k + 1, h, hu => by
    rw [tops]
    by_cases he : t = k
    · subst he
      have ht' : 1 ≤ t ∧ pa l t = 0 ∧ kd l t = 1 := ht
      rw [if_pos ht', tops_of_none t (fun j hj hj' => by have := hu j (by omega) hj'; omega)]
    · have h2 : ¬ (1 ≤ k ∧ pa l k = 0 ∧ kd l k = 1) := fun hk => he (hu k (by omega) hk).symm
      rw [if_neg h2, tops_of_one ht k (by omega) (fun j hj hj' => hu j (by omega) hj')]
theorem rtop_good : ∀ (r : List Nd) (k : Nat), (∃ i, ∃ hi : i < r.length, 0 < k + i ∧ r[i].n = 0 ∧ r[i].k = 1) → ∃ i, ∃ hi : i < r.length, rtopFrom r k = k + i ∧ 0 < k + i ∧ r[i].n = 0 ∧ r[i].k = 1
  | [], k, ⟨i, hi, _⟩ => by simp at hi
  | x :: r, k, ⟨i, hi, h1, h2, h3⟩ => by
    rw [rtopFrom]
    by_cases hx : 0 < k ∧ x.n = 0 ∧ x.k = 1
    · rw [if_pos hx]
      exact ⟨0, by simp, by omega, by omega, hx.2.1, hx.2.2⟩
    · rw [if_neg hx]
      match i, hi, h1, h2, h3 with
      | 0, hi, h1, h2, h3 => exact absurd ⟨by omega, h2, h3⟩ hx
      | i + 1, hi, h1, h2, h3 =>
        simp only [List.getElem_cons_succ] at h2 h3
        obtain ⟨j, hj, e, g1, g2, g3⟩ := rtop_good r (k + 1) ⟨i, by simpa using hi, by omega, h2, h3⟩
        refine ⟨j + 1, by simp; omega, by omega, by omega, ?_, ?_⟩ <;> simp only [List.getElem_cons_succ] <;> assumption
/-- The Root's element. -/
theorem top_is {l : List Nd} (hs : ∀ x ∈ l, Sm x) (h : FormedOK l) : topP l < l.length ∧ TopN l (topP l) ∧ ∀ j, j < l.length → TopN l j → j = topP l := by
  have hp : formedP l = true := by rw [← forms_eq hs]; exact formedR_yes h
  obtain ⟨t, t1, t2, t3⟩ := tops_one _ h.top
  have ht : topP l < l.length ∧ TopN l (topP l) := by
    rw [← rtop_eq hp]
    obtain ⟨a1, a2, a3⟩ := t2
    rw [pa_at t1] at a2
    rw [kd_at t1] at a3
    obtain ⟨i, hi, e, g1, g2, g3⟩ := rtop_good l 0 ⟨t, t1, by omega, a2, a3⟩
    rw [e, Nat.zero_add]
    exact ⟨hi, by omega, by rw [pa_at hi]; exact g2, by rw [kd_at hi]; exact g3⟩
  exact ⟨ht.1, ht.2, fun j hj hj' => (t3 j hj hj').trans (t3 _ ht.1 ht.2).symm⟩
/-- Behind all below the Root's element its children stand, none of which is an element. -/
theorem behind_top {l : List Nd} (h : FormedOK l) {t : Nat} (ht1 : t < l.length) (ht : TopN l t) (hu : ∀ j, j < l.length → TopN l j → j = t) : ∀ j, endP l t ≤ j → j < l.length → pa l j = 0 ∧ kd l j ≠ 1 := by
  have hg : ∀ i, 1 ≤ i → i < l.length → hangB l i = true := fun i h1 h2 => (h.nodes i h1 h2).1
  have hh : Hung l l.length := hung_upto (Nat.le_refl _) h.nodes
  obtain ⟨e1, e2, e3, e4⟩ := end_spec ht1
  -- elements ahead of the top one: none
  have hlow : ∀ m, 1 ≤ m → m < t → kd l m ≠ 1 := by
    intro m
    induction m using Nat.strongRecOn with
    | ind m ih =>
      intro h1 hm hk
      have hgm := hg m h1 (by omega)
      have hhm := hh m h1 (by omega)
      unfold hangB at hgm
      simp only [Bool.and_eq_true, Bool.or_eq_true, beq_iff_eq] at hgm
      rcases Nat.eq_zero_or_pos (pa l m).toNat with hz | hz
      · have := hu m (by omega) ⟨h1, by omega, hk⟩; omega
      · rcases hgm.2 with hk0 | hk1
        · have hno := (h.nodes _ hz (by omega)).2.2 (by rw [hk0]; decide)
          rw [otN_at (by omega)] at hno
          have hkk := kd_at (l := l) (i := (pa l m).toNat) (by omega)
          rw [hk0] at hkk
          unfold otherR at hno
          rw [← hkk] at hno
          simp at hno
        · exact ih _ (by omega) hz (by omega) hk1
  intro j
  induction j using Nat.strongRecOn with
  | ind j ih =>
    intro hj1 hj2
    have hj0 : 1 ≤ j := by omega
    have hgj := hg j hj0 hj2
    have hhj := hh j hj0 hj2
    have hmem := hang_mem hgj
    unfold hangB at hgj
    simp only [Bool.and_eq_true, Bool.or_eq_true, beq_iff_eq] at hgj
    have hkz : ∀ m, 1 ≤ m → m < l.length → kd l m ≠ 0 := fun m h1 hm hk0 => by
      have hno := (h.nodes m h1 hm).2.2 (by rw [hk0]; decide)
      rw [otN_at hm] at hno
      have hkk := kd_at hm
      rw [hk0] at hkk
      unfold otherR at hno
      rw [← hkk] at hno
      simp at hno
    have hp0 : (pa l j).toNat = 0 := by
      rcases Nat.eq_zero_or_pos (pa l j).toNat with hz | hz
      · exact hz
      · exfalso
        have hk1 : kd l (pa l j).toNat = 1 := hgj.2.resolve_left (hkz _ hz (by omega))
        rcases Nat.lt_or_ge (pa l j).toNat t with hlt | hge
        · exact hlow _ hz hlt hk1
        · rcases Nat.lt_or_ge (pa l j).toNat (endP l t) with h2 | h2
          · have hin := chn_in hh ht1 _ hge h2
            have hin2 := chn_trans _ hmem hin
            by_cases hje : j = endP l t
            · have := e4 (by omega)
              rw [← hje] at this
              omega
            · exact chn_out hh hg ht1 (j - 1) (by omega) (by omega) hin2
          · exact (ih _ (by omega) h2 (by omega)).2 hk1
    refine ⟨by omega, fun hk => ?_⟩
    have := hu j hj2 ⟨hj0, by omega, hk⟩
    omega
/-- The list with one more node at a place. -/
def moreL (l : List Nd) (e : Nat) (x : Nd) : List Nd := l.take e ++ x :: l.drop e
theorem more_at {l : List Nd} {e : Nat} {x : Nd} (he : e ≤ l.length) (j : Nat) : (moreL l e x)[j]? = if j < e then l[j]? else if j = e then some x else l[j - 1]? := by
  unfold moreL
  have hl : (l.take e).length = e := by rw [List.length_take]; omega
  by_cases h1 : j < e
  · rw [if_pos h1, List.getElem?_append_left (by omega), List.getElem?_take_of_lt h1]
  · rw [if_neg h1, List.getElem?_append_right (by omega), hl]
    by_cases h2 : j = e
    · subst h2; rw [if_pos rfl, Nat.sub_self]; rfl
    · rw [if_neg h2]
      obtain ⟨k, hk⟩ : ∃ k, j - e = k + 1 := ⟨j - e - 1, by omega⟩
      rw [hk, List.getElem?_cons_succ, List.getElem?_drop]
      congr 1; omega
theorem more_length {l : List Nd} {e : Nat} {x : Nd} (he : e ≤ l.length) : (moreL l e x).length = l.length + 1 := by
  unfold moreL
  simp; omega
end Go.Proofs.YtchnmkagemmjoaaDoor
namespace Go.Proofs.YtchnmkagemmjoaaDoor
set_option linter.unusedVariables false
/-- The same nodes ahead of a place. -/
def SameTo (l m : List Nd) (e : Nat) : Prop := ∀ j, j < e → m[j]? = l[j]?
theorem SameTo.pa {l m : List Nd} {e : Nat} (h : SameTo l m e) {j : Nat} (hj : j < e) : pa m j = pa l j := by unfold Proofs.YtchnmkagemmjoaaDoor.pa; rw [h j hj]
theorem SameTo.kd {l m : List Nd} {e : Nat} (h : SameTo l m e) {j : Nat} (hj : j < e) : kd m j = kd l j := by unfold Proofs.YtchnmkagemmjoaaDoor.kd; rw [h j hj]
theorem SameTo.ds {l m : List Nd} {e : Nat} (h : SameTo l m e) {j : Nat} (hj : j < e) : dsR m j = dsR l j := by unfold dsR; rw [h j hj]
theorem SameTo.chn {l m : List Nd} {e : Nat} (h : SameTo l m e) : ∀ j, j < e → chn m j = chn l j := by
  intro j
  induction j using Nat.strongRecOn with
  | ind j ih =>
    intro hj
    by_cases hp : 0 ≤ Proofs.YtchnmkagemmjoaaDoor.pa l j ∧ (Proofs.YtchnmkagemmjoaaDoor.pa l j).toNat < j
    · rw [chn_step hp, chn_step (by rw [h.pa hj]; exact hp), h.pa hj, ih _ hp.2 (by omega)]
    · rw [chn_stop hp, chn_stop (by rw [h.pa hj]; exact hp)]
theorem SameTo.hang {l m : List Nd} {e n : Nat} (h : SameTo l m e) (h1 : 1 ≤ n) (hn : n < e) : hangB m n = hangB l n := by
  unfold hangB
  rw [h.pa hn, h.chn (n - 1) (by omega)]
  by_cases hm : (Proofs.YtchnmkagemmjoaaDoor.pa l n).toNat ∈ Proofs.YtchnmkagemmjoaaDoor.chn l (n - 1)
  · have := chn_le hm
    rw [h.kd (show (Proofs.YtchnmkagemmjoaaDoor.pa l n).toNat < e by omega)]
  · rw [decide_eq_false hm]; simp
theorem SameTo.fnd {l m : List Nd} {e : Nat} (h : SameTo l m e) (s : List UInt8) : ∀ n, n < e → fndC m n s = fndC l n s := by
  intro n
  induction n using Nat.strongRecOn with
  | ind n ih =>
    intro hn
    rw [fndC, fndC.eq_def l n s]
    by_cases h1 : 0 < n
    · rw [dif_pos h1, dif_pos h1, h.ds hn]
      congr 1
      by_cases h2 : 0 ≤ Proofs.YtchnmkagemmjoaaDoor.pa l n ∧ (Proofs.YtchnmkagemmjoaaDoor.pa l n).toNat < n
      · rw [dif_pos h2, dif_pos (by rw [h.pa hn]; exact h2), h.pa hn, ih _ h2.2 (by omega)]
      · rw [dif_neg h2, dif_neg (by rw [h.pa hn]; exact h2)]
    · rw [dif_neg h1, dif_neg h1]
theorem SameTo.means {l m : List Nd} {e n : Nat} (h : SameTo l m e) (hn : n < e) (p : ByteArray) : meansP m n p = meansP l n p := by unfold meansP; rw [h.fnd _ n hn]
theorem SameTo.elem {l m : List Nd} {e n : Nat} (h : SameTo l m e) (hn : n < e) (x : Nd) : elemR m n x = elemR l n x := by
  have hN : nameR m n x = nameR l n x := by unfold nameR; rw [h.means hn]
  have hT : ∀ a, attrR m n a = attrR l n a := fun a => by unfold attrR; rw [h.means hn]
  have : ElemOK m n x ↔ ElemOK l n x := by
    constructor
    · intro k; exact ⟨k.ds, by rw [← hN]; exact k.nm, fun i hi => by rw [← hT]; exact k.ats i hi⟩
    · intro k; exact ⟨k.ds, by rw [hN]; exact k.nm, fun i hi => by rw [hT]; exact k.ats i hi⟩
  by_cases hl : ElemOK l n x
  · rw [elemR_yes hl, elemR_yes (this.2 hl)]
  · rw [elemR_no hl, elemR_no (fun k => hl (this.1 k))]
theorem SameTo.ahead {l m : List Nd} {e n : Nat} (h : SameTo l m e) (hn : n < e) : ∀ k, k ≤ n → aheadP m n k = aheadP l n k
  | 0, _ => rfl
  | k + 1, hk => by rw [aheadP, aheadP, h.pa hn, h.pa (show k < e by omega), h.ahead hn k (by omega)]
theorem SameTo.other {l m : List Nd} {e n : Nat} (h : SameTo l m e) (hn : n < e) (x : Nd) : otherR m n x = otherR l n x := by
  unfold otherR
  rw [h.ahead hn n (Nat.le_refl _)]
  rcases ahead_cases l n n with ha | ⟨a, ha, hlt⟩
  · rw [ha]; rfl
  · rw [ha, Int.toNat_natCast, h.kd (show a < e by omega)]
theorem SameTo.node {l m : List Nd} {e n : Nat} (h : SameTo l m e) (h1 : 1 ≤ n) (hn : n < e) (hk : NodeOK l n) : NodeOK m n := by
  obtain ⟨a, b, c⟩ := hk
  refine ⟨by rw [h.hang h1 hn]; exact a, fun k => ?_, fun k => ?_⟩
  · have := b (by rw [← h.kd hn]; exact k)
    unfold elN at this ⊢
    rw [h n hn]
    cases hx : l[n]? with
    | none => rw [hx] at this; cases this
    | some x => rw [hx] at this; show elemR m n x = true; rw [h.elem hn]; exact this
  · have := c (by rw [← h.kd hn]; exact k)
    unfold otN at this ⊢
    rw [h n hn]
    cases hx : l[n]? with
    | none => rw [hx] at this; cases this
    | some x => rw [hx] at this; show otherR m n x = true; rw [h.other hn]; exact this
/-- The new element. -/
def newE (t : Nat) (u s : ByteArray) : Nd := ⟨1, t, ⟨#[]⟩, s, u, ⟨#[]⟩, [], []⟩
theorem more_same {l : List Nd} {e : Nat} {x : Nd} (he : e ≤ l.length) : SameTo l (moreL l e x) e := fun j hj => by rw [more_at he, if_pos hj]
section
variable {l : List Nd} {t : Nat} {u s : ByteArray}
/-- What holds of the longer list, whatever its new name is. -/
theorem more_facts (h : FormedOK l) (ht1 : t < l.length) (ht : TopN l t) (hu : ∀ j, j < l.length → TopN l j → j = t) :
    endP l t ≤ l.length ∧ t < endP l t ∧ 1 ≤ endP l t ∧ (∃ h0 : 0 < (moreL l (endP l t) (newE t u s)).length, rootB (moreL l (endP l t) (newE t u s))[0] = true) ∧
    (∀ n, 1 ≤ n → n < (moreL l (endP l t) (newE t u s)).length → n ≠ endP l t → NodeOK (moreL l (endP l t) (newE t u s)) n) ∧ hangB (moreL l (endP l t) (newE t u s)) (endP l t) = true ∧
    tops (moreL l (endP l t) (newE t u s)) (moreL l (endP l t) (newE t u s)).length = 1 ∧ (∀ n, endP l t < n → n < (moreL l (endP l t) (newE t u s)).length → pa (moreL l (endP l t) (newE t u s)) n = 0) ∧ pa (moreL l (endP l t) (newE t u s)) (endP l t) = (t : Int) ∧ kd (moreL l (endP l t) (newE t u s)) (endP l t) = 1 := by
  have hg : ∀ i, 1 ≤ i → i < l.length → hangB l i = true := fun i h1 h2 => (h.nodes i h1 h2).1
  have hh : Hung l l.length := hung_upto (Nat.le_refl _) h.nodes
  obtain ⟨e1, e2, e3, e4⟩ := end_spec ht1
  have hbt := behind_top h ht1 ht hu
  have hin := chn_in hh ht1
  obtain ⟨t1, t2, t3⟩ := ht
  generalize endP l t = e at *
  obtain ⟨M, hM⟩ : ∃ M, moreL l e (newE t u s) = M := ⟨_, rfl⟩
  have hS : SameTo l M e := by rw [← hM]; exact more_same e2
  have hat := fun j => more_at (x := newE t u s) e2 j
  have hlen : M.length = l.length + 1 := by rw [← hM]; exact more_length e2
  rw [hM] at hat ⊢
  have hpe : pa M e = (t : Int) := by unfold pa; rw [hat, if_neg (by omega), if_pos rfl]; rfl
  have hke : kd M e = 1 := by unfold kd; rw [hat, if_neg (by omega), if_pos rfl]; rfl
  have hpb : ∀ n, e < n → n < M.length → pa M n = 0 := fun n h1 h2 => by
    have : pa M n = pa l (n - 1) := by unfold pa; rw [hat, if_neg (by omega), if_neg (by omega)]
    rw [this]; exact (hbt (n - 1) (by omega) (by omega)).1
  have hkb : ∀ n, e < n → n < M.length → kd M n = kd l (n - 1) := fun n h1 h2 => by unfold kd; rw [hat, if_neg (by omega), if_neg (by omega)]
  have hroot : ∃ h0 : 0 < M.length, rootB M[0] = true := by
    obtain ⟨h0, h1⟩ := h.root
    refine ⟨by omega, ?_⟩
    have h2 := hS 0 (by omega)
    rw [List.getElem?_eq_getElem (by omega), List.getElem?_eq_getElem h0, Option.some.injEq] at h2
    rw [h2]; exact h1
  obtain ⟨hr0, hk0, hd0⟩ := root_zero hroot
  have hch : ∀ n, n < M.length → 0 ∈ chn M n → True := fun _ _ _ => trivial
  have hhang : hangB M e = true := by
    unfold hangB
    rw [hpe, Int.toNat_natCast, hS.chn (e - 1) (by omega), hS.kd (by omega), t3, decide_eq_true (hin (e - 1) (by omega) (by omega)), decide_eq_true (by omega)]
    rfl
  -- the first node is above each
  have hzero : ∀ n, n < M.length → 0 ∈ chn M n := by
    intro n
    induction n using Nat.strongRecOn with
    | ind n ih =>
      intro hn
      rcases Nat.eq_zero_or_pos n with rfl | h1
      · exact chn_self M 0
      · have hp : 0 ≤ pa M n ∧ (pa M n).toNat < n := by
          rcases Nat.lt_or_ge n e with h2 | h2
          · rw [hS.pa h2]; exact hh.toNat h1 (by omega)
          · rcases Nat.lt_or_eq_of_le h2 with h3 | h3
            · rw [hpb n h3 hn]; omega
            · rw [← h3, hpe]; omega
        rw [chn_step hp, List.mem_cons]
        exact .inr (ih _ hp.2 (by omega))
  have hnodes : ∀ n, 1 ≤ n → n < M.length → n ≠ e → NodeOK M n := fun n h1 h2 h3 => by
    rcases Nat.lt_or_ge n e with h4 | h4
    · exact hS.node h1 h4 (h.nodes n h1 (by omega))
    · have h5 : e < n := by omega
      have hp := hpb n h5 h2
      have hk := hkb n h5 h2
      obtain ⟨b1, b2⟩ := hbt (n - 1) (by omega) (by omega)
      have hno := (h.nodes (n - 1) (by omega) (by omega)).2.2 b2
      have hM' : M[n]? = l[n - 1]? := by rw [hat, if_neg (by omega), if_neg (by omega)]
      refine ⟨?_, fun k => absurd (hk.symm.trans k) b2, fun _ => ?_⟩
      · unfold hangB
        rw [hp, show ((0 : Int)).toNat = 0 from rfl, hk0, decide_eq_true (hzero (n - 1) (by omega))]
        rfl
      · unfold otN at hno ⊢
        rw [hM']
        cases hx : l[n - 1]? with
        | none => rw [hx] at hno; cases hno
        | some x =>
          rw [hx] at hno
          have hno' : otherR l (n - 1) x = true := hno
          show otherR M n x = true
          have hxn : x.n = 0 := by
            have : pa l (n - 1) = x.n := by unfold pa; rw [hx]; rfl
            rw [← this]; exact b1
          unfold otherR at hno' ⊢
          have hz : ((0 : Int) == 0) = true := rfl
          rw [hxn, hz] at hno' ⊢
          cases h2' : (x.k == 2) with
          | true => rw [h2'] at hno'; simp at hno'
          | false => rw [h2'] at hno'; exact hno'
  refine ⟨e2, by omega, by omega, hroot, hnodes, hhang, ?_, hpb, hpe, hke⟩
  have hTt : TopN M t := ⟨t1, by rw [hS.pa (by omega)]; exact t2, by rw [hS.kd (by omega)]; exact t3⟩
  refine tops_of_one hTt _ (by omega) (fun j hj hj' => ?_)
  obtain ⟨j1, j2, j3⟩ := hj'
  rcases Nat.lt_or_ge j e with h4 | h4
  · exact hu j (by omega) ⟨j1, by rw [← hS.pa h4]; exact j2, by rw [← hS.kd h4]; exact j3⟩
  · rcases Nat.lt_or_eq_of_le h4 with h5 | h5
    · rw [hkb j h5 hj] at j3
      exact absurd j3 (hbt (j - 1) (by omega) (by omega)).2
    · rw [← h5, hpe] at j2; omega
end
end Go.Proofs.YtchnmkagemmjoaaDoor
namespace Go.Proofs.YtchnmkagemmjoaaDoor
set_option linter.unusedVariables false
theorem fndD_sm {ds : List Dc} {s : List UInt8} {z : ByteArray} (hs : ∀ d ∈ ds, d.u.size ≤ 2000000) (h : fndD ds s = some z) : z.size ≤ 2000000 := by
  unfold fndD at h
  obtain ⟨d, h1, h2⟩ := Option.map_eq_some_iff.1 h
  rw [← h2]
  exact hs d (List.mem_of_find?_eq_some h1)
theorem fndC_sm {l : List Nd} (hs : ∀ x ∈ l, Sm x) (s : List UInt8) : ∀ n z, fndC l n s = some z → z.size ≤ 2000000 := by
  intro n
  induction n using Nat.strongRecOn with
  | ind n ih =>
    intro z h
    rw [fndC] at h
    by_cases h1 : 0 < n
    · rw [dif_pos h1] at h
      cases hd : fndD (dsR l n) s with
      | some y =>
        rw [hd] at h
        have e : y = z := by simpa using h
        subst e
        refine fndD_sm (fun d hdm => ?_) hd
        rcases Nat.lt_or_ge n l.length with h2 | h2
        · rw [dsR_at h2] at hdm
          exact ((hs _ (List.getElem_mem h2)).ds d hdm).2
        · unfold dsR at hdm
          rw [List.getElem?_eq_none h2] at hdm
          cases hdm
      | none =>
        rw [hd, Option.none_or] at h
        by_cases h2 : 0 ≤ pa l n ∧ (pa l n).toNat < n
        · rw [dif_pos h2] at h
          exact ih _ h2.2 z h
        · rw [dif_neg h2] at h; cases h
    · rw [dif_neg h1] at h; cases h
/-- What "" means at a node. -/
theorem means_none (l : List Nd) (n : Nat) : (meansP l n ⟨#[]⟩).2 = true := by
  unfold meansP
  have h1 : eqL ⟨#[]⟩ xmlP = false := by unfold eqL xmlP; rw [Lib.toList_data]; rfl
  rw [h1, cond_false]
  cases fndC l n (⟨#[]⟩ : ByteArray).data.toList with
  | some z => rfl
  | none => show eqL ⟨#[]⟩ [] = true; exact eqL_iff.2 rfl
theorem means_sm {l : List Nd} (hs : ∀ x ∈ l, Sm x) (n : Nat) : (meansP l n ⟨#[]⟩).1.size ≤ 2000000 := by
  unfold meansP
  have h1 : eqL ⟨#[]⟩ xmlP = false := by unfold eqL xmlP; rw [Lib.toList_data]; rfl
  rw [h1, cond_false]
  cases hf : fndC l n (⟨#[]⟩ : ByteArray).data.toList with
  | some z => exact fndC_sm hs _ n z hf
  | none => show (0 : Nat) ≤ 2000000; omega
theorem sm_new {t : Nat} {u s : ByteArray} (hu : u.size ≤ 2000000) (hs : s.size ≤ 2000000) : Sm (newE t u s) := by
  have h0 : ((⟨#[]⟩ : ByteArray)).size ≤ 2000000 := by show (0 : Nat) ≤ 2000000; omega
  exact ⟨h0, hs, hu, h0, by show (0 : Nat) ≤ 2000000; omega, by show (0 : Nat) ≤ 2000000; omega, fun d hd => (by cases hd), fun a ha => (by cases ha)⟩
theorem sm_more {l : List Nd} {e t : Nat} {u s : ByteArray} (hs : ∀ x ∈ l, Sm x) (h1 : u.size ≤ 2000000) (h2 : s.size ≤ 2000000) : ∀ x ∈ moreL l e (newE t u s), Sm x := fun x hx => by
  unfold moreL at hx
  rcases List.mem_append.1 hx with h | h
  · exact hs x (List.mem_of_mem_take h)
  · rcases List.mem_cons.1 h with rfl | h
    · exact sm_new h1 h2
    · exact hs x (List.mem_of_mem_drop h)
section
variable {l : List Nd} {s : ByteArray}
/-- The longer list. -/
noncomputable def moreD (l : List Nd) (s : ByteArray) : List Nd := moreL l (endP l (topP l)) (newE (topP l) (meansP l (topP l) ⟨#[]⟩).1 s)
theorem new_means (h : FormedOK l) (hs : ∀ x ∈ l, Sm x) : meansP (moreD l s) (endP l (topP l)) ⟨#[]⟩ = meansP l (topP l) ⟨#[]⟩ := by
  obtain ⟨ht1, ht, hu⟩ := top_is hs h
  obtain ⟨f1, f2, f3, f4, f5, f6, f7, f8, f9, f10⟩ := more_facts (u := (meansP l (topP l) ⟨#[]⟩).1) (s := s) h ht1 ht hu
  have hS : SameTo l (moreD l s) (endP l (topP l)) := more_same f1
  have hd : dsR (moreD l s) (endP l (topP l)) = [] := by unfold dsR moreD; rw [more_at f1, if_neg (by omega), if_pos rfl]; rfl
  have hf : fndC (moreD l s) (endP l (topP l)) (⟨#[]⟩ : ByteArray).data.toList = fndC l (topP l) (⟨#[]⟩ : ByteArray).data.toList := by
    rw [fndC_step (l := moreD l s) _ (by omega) f9 f2, hd, hS.fnd _ _ f2]; rfl
  unfold meansP
  rw [hf]
theorem more_formed (h : FormedOK l) (hs : ∀ x ∈ l, Sm x) : formedR (moreD l s) = nmS s := by
  obtain ⟨ht1, ht, hu⟩ := top_is hs h
  obtain ⟨f1, f2, f3, f4, f5, f6, f7, f8, f9, f10⟩ := more_facts (u := (meansP l (topP l) ⟨#[]⟩).1) (s := s) h ht1 ht hu
  have hM := new_means (s := s) h hs
  have hlen : (moreD l s).length = l.length + 1 := more_length f1
  have hat : (moreD l s)[endP l (topP l)]? = some (newE (topP l) (meansP l (topP l) ⟨#[]⟩).1 s) := by unfold moreD; rw [more_at f1, if_neg (by omega), if_pos rfl]
  have hel : elN (moreD l s) (endP l (topP l)) = elemR (moreD l s) (endP l (topP l)) (newE (topP l) (meansP l (topP l) ⟨#[]⟩).1 s) := by unfold elN; rw [hat]
  have hnm : nameR (moreD l s) (endP l (topP l)) (newE (topP l) (meansP l (topP l) ⟨#[]⟩).1 s) = nmS s := by
    unfold nameR
    show ((meansP (moreD l s) (endP l (topP l)) ⟨#[]⟩).2 && (((meansP (moreD l s) (endP l (topP l)) ⟨#[]⟩).1.toList == (meansP l (topP l) ⟨#[]⟩).1.toList) && (nmS s && ((eqL ⟨#[]⟩ [] || nmS ⟨#[]⟩) && (!eqL ⟨#[]⟩ xmlnsP && eqL ⟨#[]⟩ []))))) = nmS s
    have h1 : eqL ⟨#[]⟩ [] = true := eqL_iff.2 rfl
    have h2 : eqL ⟨#[]⟩ xmlnsP = false := by unfold eqL xmlnsP; rw [Lib.toList_data]; rfl
    rw [hM, means_none, h1, h2, beq_self_eq_true]
    simp
  cases hn : nmS s with
  | true =>
    refine formedR_yes ⟨f4, fun n h1 h2 => ?_, f7⟩
    by_cases he : n = endP l (topP l)
    · subst he
      refine ⟨f6, fun _ => ?_, fun hk => absurd f10 hk⟩
      show elN (moreD l s) (endP l (topP l)) = true
      rw [hel]
      exact elemR_yes ⟨fun k hk => by simp [newE] at hk, by rw [hnm]; exact hn, fun k hk => by simp [newE] at hk⟩
    · exact f5 n h1 h2 he
  | false =>
    refine formedR_no fun hh => ?_
    have h1 := (hh.nodes (endP l (topP l)) f3 (by omega)).2.1 f10
    rw [hel] at h1
    have hok : ElemOK (moreD l s) (endP l (topP l)) (newE (topP l) (meansP l (topP l) ⟨#[]⟩).1 s) := Classical.byContradiction fun hc => by rw [elemR_no hc] at h1; cases h1
    have h2 := hok.nm
    rw [hnm, hn] at h2
    cases h2
theorem more_within (h : FormedOK l) (hs : ∀ x ∈ l, Sm x) (hw : withinB l = true) (hl : l.length ≤ 30) : withinB (moreD l s) = true := by
  obtain ⟨ht1, ht, hu⟩ := top_is hs h
  obtain ⟨f1, f2, f3, f4, f5, f6, f7, f8, f9, f10⟩ := more_facts (u := (meansP l (topP l) ⟨#[]⟩).1) (s := s) h ht1 ht hu
  have hlen : (moreD l s).length = l.length + 1 := more_length f1
  have hS : SameTo l (moreD l s) (endP l (topP l)) := more_same f1
  have hwl : ∀ i, i < l.length → dp l i ≤ 64 ∧ mks l i ≤ 64 := by
    unfold withinB at hw
    rw [decide_eq_true_eq] at hw
    exact hw.2
  obtain ⟨r0, _, _⟩ := root_zero f4
  have hdt : dp (moreD l s) (topP l) ≤ 1 := by
    obtain ⟨t1, t2, t3⟩ := ht
    have hp : pa (moreD l s) (topP l) = 0 := by rw [hS.pa f2]; exact t2
    rw [dp_step (by rw [hp]; omega), hp, show ((0 : Int)).toNat = 0 from rfl]
    have : dp (moreD l s) 0 = 0 := dp_zero r0
    omega
  refine within_yes (by omega) (fun i hi => ?_)
  rcases Nat.lt_or_ge i (endP l (topP l)) with h1 | h1
  · have hd : dp (moreD l s) i = dp l i := by unfold dp; rw [hS.chn i h1]
    have hm : mks (moreD l s) i = mks l i := by unfold mks; rw [hS i h1]
    rw [hd, hm]
    exact hwl i (by omega)
  · rcases Nat.lt_or_eq_of_le h1 with h2 | h2
    · have hp : pa (moreD l s) i = 0 := f8 i h2 hi
      have hd : dp (moreD l s) i = 1 := by
        rw [dp_step (by rw [hp]; omega), hp, show ((0 : Int)).toNat = 0 from rfl]
        have : dp (moreD l s) 0 = 0 := dp_zero r0
        omega
      have hm : mks (moreD l s) i = mks l (i - 1) := by unfold mks moreD; rw [more_at f1, if_neg (by omega), if_neg (by omega)]
      rw [hd, hm]
      exact ⟨by omega, (hwl (i - 1) (by omega)).2⟩
    · subst h2
      have hp : pa (moreD l s) (endP l (topP l)) = (topP l : Int) := f9
      have hd : dp (moreD l s) (endP l (topP l)) ≤ 2 := by
        rw [dp_step (by rw [hp]; omega), hp, Int.toNat_natCast]
        omega
      have hm : mks (moreD l s) (endP l (topP l)) = 0 := by unfold mks moreD; rw [more_at f1, if_neg (by omega), if_pos rfl]; rfl
      rw [hm]
      exact ⟨by omega, by omega⟩
end
end Go.Proofs.YtchnmkagemmjoaaDoor
namespace Go.Proofs.YtchnmkagemmjoaaDoor
open Go.RowKit
set_option linter.unusedVariables false
/-- A node, and the values of its two lists. -/
structure Ny where
  x : Nd
  d : Value
  a : Value
def nyC (y : Ny) : List Value := ndC y.x y.d y.a
theorem nyC_len (y : Ny) : (nyC y).length = 8 := rfl
/-- Its lists lie as they are. -/
def NyAt (w : World) (B : Nat) (y : Ny) : Prop := DsAt w B y.d y.x.ds ∧ AsAt w B y.a y.x.ats
theorem NyAt.later {w w' : World} {y : Ny} (h : NyAt w w.heap.size y) (hb : Below w.heap.size w w') : NyAt w' w'.heap.size y := ⟨SlAt.later h.1 hb, SlAt.later h.2 hb⟩
theorem nyC_one {w : World} {B : Nat} {y : Ny} (h : NyAt w B y) : ∀ u ∈ nyC y, u.oneCell' = true := fun u hu => by
  obtain ⟨⟨A1, c1, e1, _⟩, ⟨A2, c2, e2, _⟩⟩ := h
  unfold nyC ndC at hu
  simp only [List.mem_cons, List.not_mem_nil, or_false] at hu
  rcases hu with rfl | rfl | rfl | rfl | rfl | rfl | rfl | rfl
  · rfl
  · rfl
  · rfl
  · rfl
  · rfl
  · rfl
  · rw [e1]; rfl
  · rw [e2]; rfl
theorem rows_one {w : World} {B : Nat} {ys : List Ny} (h : ∀ y ∈ ys, NyAt w B y) : ∀ u ∈ ys.flatMap nyC, u.oneCell' = true := fun u hu => by
  obtain ⟨y, hy, h1⟩ := List.mem_flatMap.1 hu
  exact nyC_one (h y hy) u h1
theorem NsAt.rows {w : World} {B : Nat} {v : Value} {l : List Nd} (h : NsAt w B v l) (hl : l ≠ []) : ∃ b o cap, ∃ ys : List Ny, v = .slice (some ⟨b, o, none⟩) l.length cap ∧ l.length ≤ cap ∧ cap ≤ 9223372036854775807 ∧ b < B ∧ ys.map (·.x) = l ∧ (∀ y ∈ ys, NyAt w B y) ∧
    ∀ j u, (ys.flatMap nyC)[j]? = some u → w.cell? ⟨b, o + j, none⟩ = some u := by
  obtain ⟨b, o, cap, e, h1, h2, h3, h4⟩ := h.open hl
  have hex : ∀ i, i < l.length → ∃ p : Value × Value, ∀ hi : i < l.length, (∀ j (hj : j < 8), w.cell? ⟨b, o + i * 8 + j, none⟩ = some ((ndC l[i] p.1 p.2)[j]'hj)) ∧ DsAt w B p.1 l[i].ds ∧ AsAt w B p.2 l[i].ats := fun i hi => by
    obtain ⟨vd, va, c, d1, d2⟩ := h4 i hi
    exact ⟨(vd, va), fun _ => ⟨c, d1, d2⟩⟩
  haveI : Inhabited (Value × Value) := ⟨(undef, undef)⟩
  obtain ⟨f, hf⟩ := Deep.choose_lt hex
  have hlen : (l.zipWith (fun x p => (⟨x, p.1, p.2⟩ : Ny)) ((List.range l.length).map f)).length = l.length := by simp
  refine ⟨b, o, cap, l.zipWith (fun x p => (⟨x, p.1, p.2⟩ : Ny)) ((List.range l.length).map f), e, h1, h2, h3, ?_, fun y hy => ?_, fun j u hu => ?_⟩
  · apply List.ext_getElem
    · simp
    · intro i h5 h6; simp
  · obtain ⟨i, hi, rfl⟩ := List.getElem_of_mem hy
    rw [hlen] at hi
    obtain ⟨_, d1, d2⟩ := hf i hi hi
    simpa [NyAt] using And.intro d1 d2
  · obtain ⟨hj, _⟩ := List.getElem?_eq_some_iff.1 hu
    rw [flat_length nyC_len, hlen] at hj
    have hi : j / 8 < l.length := by omega
    have hr : j % 8 < 8 := Nat.mod_lt _ (by omega)
    have hjj : j = j / 8 * 8 + j % 8 := by omega
    have hat := flat_at nyC_len (l.zipWith (fun x p => (⟨x, p.1, p.2⟩ : Ny)) ((List.range l.length).map f)) (j / 8) (j % 8) (by rw [hlen]; exact hi) hr
    rw [← hjj, hu] at hat
    obtain ⟨hc, _, _⟩ := hf (j / 8) hi hi
    have hcj := hc (j % 8) hr
    rw [show o + j = o + j / 8 * 8 + j % 8 by omega, hcj, hat]
    simp [nyC, ndC]
theorem NsAt.of_rows {w : World} {B g cap : Nat} {ys : List Ny} (hg : g < B) (h1 : ys.length ≤ cap) (h2 : cap ≤ 9223372036854775807) (hy : ∀ y ∈ ys, NyAt w B y) (hc : ∀ j u, (ys.flatMap nyC)[j]? = some u → w.cell? ⟨g, j, none⟩ = some u) : NsAt w B (.slice (some ⟨g, 0, none⟩) ys.length cap) (ys.map (·.x)) := by
  refine ⟨some ⟨g, 0, none⟩, cap, by simp, by simpa using h1, h2, fun _ => ⟨g, 0, rfl, hg, fun i hi => ?_⟩⟩
  have hi' : i < ys.length := by simpa using hi
  obtain ⟨d1, d2⟩ := hy _ (List.getElem_mem hi')
  refine ⟨ys[i].d, ys[i].a, fun j hj => ?_, by simpa using d1, by simpa using d2⟩
  have hat := flat_at nyC_len ys i j hi' hj
  rw [Nat.zero_add]
  refine hc (i * 8 + j) _ ?_
  rw [hat, List.getElem?_eq_getElem (by rw [nyC_len]; exact hj)]
  simp [nyC]
/-- append of nodes to a row of one's own. -/
theorem app_ny {ops : Array Oper} {rest : List Oper} {o : Oper} {a : Act} {Q : Exit → Act → World → Prop} {w : World} (hgd : o.guard = none) (s x : Operand) (ho : o.op = .call { callee := .builtin .append, args := #[s, x], argTypes := #[22, 22] })
    (B : Nat) (v : Value) (n : Nat) (xs : List Ny) (hs : a.eval s = v) (hown : w.ownsRow B 38 8 v n (xs.flatMap nyC)) (ad : Addr) (m c : Nat) (ys : List Ny) (hx : a.eval x = .slice (some ad) m c) (hl : ys.length = m)
    (hcell : ∀ j u, (ys.flatMap nyC)[j]? = some u → w.cell? (ad.add j) = some u) (h1 : ∀ u ∈ ys.flatMap nyC, u.oneCell' = true) (hnm : n + m ≤ 1000) (hB : B ≤ w.heap.size)
    (h : ∀ v' w', w'.ownsRow B 38 8 v' (n + m) ((xs ++ ys).flatMap nyC) → w.grownBy w' v.ownBlock → (v'.ownBlock = v.ownBlock ∨ v'.ownBlock = some w.heap.size) → wpList Tryd.prog ops Q rest (a.put o.dst v') w') : wpList Tryd.prog ops Q (o :: rest) a w := by
  refine wpList_plain hgd fun _ hK => ?_
  obtain ⟨i0, hi0, hz0, hz1, hz2⟩ := info_parts nodeInfo
  obtain ⟨v', w', hr, h2, h3, _, h5⟩ := run_append_own_at (P := Tryd.prog) w B 22 o.type 38 i0 _ 8 _ Tryd.underlying22 hi0 hz0 hz1 hz2 rfl (by omega) v n _ hown ad m c _ (by rw [flat_length nyC_len, hl]) hcell h1 (by unfold maxLen; omega) (by omega) hB
  unfold Oper.wp execOp
  simp only [ho, resolve, invoke, builtin, Sem.run_bind, Sem.run_pure, Result.andThen_ok, List.map_toArray, List.map_cons, List.map_nil, hs, hx, hr]
  exact hK _ _ (h v' w' (by rw [List.flatMap_append]; exact h2) h3 h5)
/-- A row of nodes of one's own, as a list of nodes. -/
theorem ns_of_own {w : World} {B n : Nat} {v : Value} {ys : List Ny} (h : w.ownsRow B 38 8 v n (ys.flatMap nyC)) (hl : ys.length = n) (hn : n ≤ 1000) (h0 : 0 < n) (hy : ∀ y ∈ ys, NyAt w w.heap.size y) : NsAt w w.heap.size v (ys.map (·.x)) := by
  obtain ⟨hlen, h | ⟨g, cap, cur, rfl, hg, hh, hnc, hcm, hsz, htk⟩⟩ := h
  · omega
  · rw [← hl]
    refine NsAt.of_rows (block_lt hh) (by omega) (by unfold maxLen at hcm; exact hcm) hy (fun j u hu => ?_)
    rw [cell_of_row w g j cur _ _ hh, ← Array.getElem?_toList]
    have hj := (List.getElem?_eq_some_iff.1 hu).1
    rw [flat_length nyC_len, hl] at hj
    rw [← htk, List.getElem?_take_of_lt hj] at hu
    exact hu
end Go.Proofs.YtchnmkagemmjoaaDoor
namespace Go.Proofs.YtchnmkagemmjoaaDoor
open Go.RowKit
set_option linter.unusedVariables false
set_option maxRecDepth 100000
theorem slice_low {b o m cap E : Nat} (he : E ≤ m) (hc : m ≤ cap) (w : World) : (Instr.slice 22 (.slice (some ⟨b, o, none⟩) m cap) none (some (.int .i64 (E : Int))) none).run Tryd.prog w = .ok (.slice (some ⟨b, o, none⟩) E cap) w := by
  have hs : ∀ w, (sizeOf 38).run Tryd.prog w = .ok 8 w := fun w => by kernel_rfl
  have h1 : (E : Int) ≤ (cap : Int) := by omega
  simp [Instr.slice, run_underlying Tryd.underlying22, Instr.sliceBounds, Instr.sliceBound, asIntOf, hs, Addr.add]
  intro h; omega
theorem slice_high {b o m cap E : Nat} (he : E ≤ m) (hc : m ≤ cap) : ∃ ad : Addr, (∀ w, (Instr.slice 22 (.slice (some ⟨b, o, none⟩) m cap) (some (.int .i64 (E : Int))) none none).run Tryd.prog w = .ok (.slice (some ad) (m - E) (cap - E)) w) ∧ (E < m → ad = ⟨b, o + E * 8, none⟩) := by
  have hs : ∀ w, (sizeOf 38).run Tryd.prog w = .ok 8 w := fun w => by kernel_rfl
  have h1 : (E : Int) ≤ (m : Int) := by omega
  refine ⟨if cap = E then ⟨b, o, none⟩ else (⟨b, o, none⟩ : Addr).add (E * 8), fun W => ?_, fun h => ?_⟩
  · simp [Instr.slice, run_underlying Tryd.underlying22, Instr.sliceBounds, Instr.sliceBound, asIntOf, hs]
    rw [if_pos he]
    by_cases hce : cap = E <;> simp [hce]
  · rw [if_neg (by omega)]
    unfold Addr.add
    by_cases h0 : E * 8 = 0
    · rw [if_pos h0, h0]; rfl
    · rw [if_neg h0]
set_option maxHeartbeats 32000000 in
theorem more_law (l : List Nd) (v : Value) (s : ByteArray) (w : World) (hv : NsAt w w.heap.size v l) (hs : ∀ x ∈ l, Sm x) (hsl : s.size ≤ 1048576) (hW : Wd w) : Calls Tryd.prog 8 #[v, .string s] w fun e w' => e = .returned (.bool true) ∧ Below w.heap.size w w' := by
  have HA : Hid (∀ w', Below w.heap.size w w' → Calls Tryd.prog 9 #[] w' fun e w'' => e = .returned (.bool true) ∧ Below w'.heap.size w' w'') := fun w' hb => awake_any w' (hW.later hb)
  have HF : Hid (∀ w', Below w.heap.size w w' → Calls Tryd.prog 10 #[v, .int .i64 30] w' fun e w'' => e = .returned (.bool (fewB l 30)) ∧ w'' = w') := fun w' hb => few_any l 30 v w' (by omega) (hv.later hb)
  have HC : Hid (l.length ≤ 30 → ∀ w', Below w.heap.size w w' → Calls Tryd.prog 12 #[v] w' fun e w'' => e = .returned (.int .i64 (checkR l)) ∧ Below w'.heap.size w' w'') := fun h w' hb => check_ref l v w' (hv.later hb) (by omega) hs
  have HV := Lib.hid hv
  have HSM := Lib.hid hs
  have HW0 := Lib.hid hW
  obtain ⟨A, cap, rfl, hc1, hc2⟩ := hv.slice
  have hr0 := Below.refl w.heap.size w
  clear hW hv hs
  cases hf : fewB l 30 with
  | false =>
    rw [hf] at HF
    clear hf HC
    go_enter Tryd.func8, Tryd.ntmps8
    go_wp2_with fail
    refine (HA.out _ hr0).mono ?_
    rintro e w1 ⟨rfl, hb1⟩
    go_wp2_with fail
    refine (HF.out _ hb1).mono ?_
    rintro e w2 ⟨rfl, hw⟩
    rw [hw]
    clear hw
    go_wp2_with fail
    refine (HA.out _ hb1).mono ?_
    rintro e w2 ⟨rfl, hb2⟩
    go_wp2
    go_ret
    exact ⟨rfl, hb1.trans (hb2.mono hb1.size)⟩
  | true =>
    rw [hf] at HF
    have hl : l.length ≤ 30 := by
      unfold fewB at hf
      rw [Bool.and_eq_true, decide_eq_true_eq] at hf
      exact hf.1
    have HL := Lib.hid hl
    have HC' := Lib.hid (HC.out hl)
    obtain ⟨m, hmE⟩ : ∃ m, l.length = m := ⟨_, rfl⟩
    have HM := Lib.hid hmE
    rw [hmE] at HC' hl hc1 HV ⊢
    rw [hmE] at HF
    obtain ⟨ck, hck⟩ : ∃ c, checkR l = c := ⟨_, rfl⟩
    rw [hck] at HC'
    have HCK := Lib.hid hck
    clear hf HC hmE hck
    by_cases hs100 : (s.size : Int) > 100
    · go_enter Tryd.func8, Tryd.ntmps8
      go_wp2_with fail
      refine (HA.out _ hr0).mono ?_
      rintro e w1 ⟨rfl, hb1⟩
      go_wp2_with fail
      refine (HF.out _ hb1).mono ?_
      rintro e w2 ⟨rfl, hw⟩
      rw [hw]
      clear hw
      go_wp2_with fail
      refine (HA.out _ hb1).mono ?_
      rintro e w2 ⟨rfl, hb2⟩
      go_wp2
      go_ret
      exact ⟨rfl, hb1.trans (hb2.mono hb1.size)⟩
    · have hs100d := decide_eq_false hs100
      by_cases hck0 : ck = 0
      · subst hck0
        have hfr : formedR l = true ∧ withinB l = true := by
          have h := HCK.out
          unfold checkR at h
          cases h1 : formedR l with
          | false => rw [h1] at h; simp at h
          | true =>
            cases h2 : withinB l with
            | false => rw [h1, h2] at h; simp at h
            | true => exact ⟨rfl, rfl⟩
        obtain ⟨hfr1, hfr2⟩ := hfr
        have hok := formed_ok.1 hfr1
        have hfp : formedP l = true := by rw [← forms_eq HSM.out]; exact hfr1
        obtain ⟨hne, h0, hh, hg⟩ := formed_hung hfp
        obtain ⟨ht1, ht, hu⟩ := top_is HSM.out hok
        obtain ⟨e1, e2, _, _⟩ := end_spec ht1
        obtain ⟨bl, o, cap', ys, ev, _, _, hbB, hys, hyl, hyc⟩ := HV.out.rows hne
        simp only [Value.slice.injEq] at ev
        obtain ⟨rfl, -, rfl⟩ := ev
        have HRT : Hid (∀ w', Below w.heap.size w w' → Calls Tryd.prog 16 #[.slice (some ⟨bl, o, none⟩) m cap] w' fun e w'' => e = .returned (.int .i64 (topP l : Nat)) ∧ w'' = w') := fun w' hb => by rw [← rtop_eq hfp]; exact rtop_any l _ w' (HV.out.later hb)
        have HRE : Hid (∀ w', Below w.heap.size w w' → Calls Tryd.prog 26 #[.slice (some ⟨bl, o, none⟩) m cap, .int .i64 (topP l : Nat)] w' fun e w'' => e = .returned (.int .i64 (endP l (topP l) : Nat)) ∧ w'' = w') := fun w' hb => by
          have h := rend_any l _ (topP l) w' (HV.out.later hb) ht1 hh h0 (by have := HL.out; omega)
          rw [rend_eq hh hg ht1] at h
          exact h
        have HRM : Hid (∀ w', Below w.heap.size w w' → Calls Tryd.prog 27 #[.slice (some ⟨bl, o, none⟩) m cap, .int .i64 (topP l : Nat), .string ⟨#[]⟩] w' fun e w'' => e = .returned (.tuple #[.string (meansP l (topP l) ⟨#[]⟩).1, .bool (meansP l (topP l) ⟨#[]⟩).2]) ∧ w'' = w') := fun w' hb => means_ref l _ (topP l) ⟨#[]⟩ w' (HV.out.later hb) ht1 (by have := HL.out; omega) (hh.mono (by omega)) h0
        have HFD : Hid (formedP (moreD l s) = nmS s) := by
          show _ = _
          rw [← forms_eq (show ∀ x ∈ moreD l s, Sm x from sm_more HSM.out (means_sm HSM.out _) (by omega))]
          exact more_formed hok HSM.out
        have HWD : Hid (withinB (moreD l s) = true) := more_within hok HSM.out hfr2 HL.out
        have HMD : Hid (moreD l s = l.take (endP l (topP l)) ++ newE (topP l) (meansP l (topP l) ⟨#[]⟩).1 s :: l.drop (endP l (topP l))) := rfl
        have HSD : Hid (∀ x ∈ moreD l s, Sm x) := sm_more HSM.out (means_sm HSM.out _) (by omega)
        obtain ⟨mu, hmu⟩ : ∃ z, (meansP l (topP l) ⟨#[]⟩).1 = z := ⟨_, rfl⟩
        have hm2 : (meansP l (topP l) ⟨#[]⟩).2 = true := means_none _ _
        rw [hmu, hm2] at HRM
        rw [hmu] at HMD
        rw [HM.out] at e2
        have HYS := Lib.hid hys
        have HYL := Lib.hid hyl
        have HYC := Lib.hid hyc
        generalize endP l (topP l) = E at *
        generalize topP l = tp at *
        have HIS : Hid (∀ w', Calls Tryd.prog 28 #[.string s] w' fun e w'' => e = .returned (.bool (nmS s)) ∧ Below w'.heap.size w' w'') := fun w' => refIs_any s (by omega) w'
        clear hfr1 hfr2 hok hfp h0 hh hg ht1 ht hu hys hyl hyc hmu hm2 hne hs100
        go_enter Tryd.func8, Tryd.ntmps8
        go_wp2_with fail
        refine (HA.out _ hr0).mono ?_
        rintro e w1 ⟨rfl, hb1⟩
        go_wp2_with fail
        refine (HF.out _ hb1).mono ?_
        rintro e w2 ⟨rfl, hw⟩
        rw [hw]
        clear hw
        go_wp2_with fail
        refine (HC'.out _ hb1).mono ?_
        rintro e w2 ⟨rfl, hb2⟩
        have hbw := hb1.trans (hb2.mono hb1.size)
        clear hb1 hb2
        go_wp2_with fail
        refine (HRT.out _ hbw).mono ?_
        rintro e w3 ⟨rfl, hw⟩
        rw [hw]
        clear hw
        go_wp2_with fail
        refine (HRE.out _ hbw).mono ?_
        rintro e w3 ⟨rfl, hw⟩
        rw [hw]
        clear hw
        go_wp2_with fail
        refine (HRM.out _ hbw).mono ?_
        rintro e w3 ⟨rfl, hw⟩
        rw [hw]
        clear hw HRT HRE HRM HC' HF HA
        have HSLA : ∀ w, (Instr.slice 22 (.slice (some ⟨bl, o, none⟩) m cap) none (some (.int .i64 (E : Int))) none).run Tryd.prog w = .ok (.slice (some ⟨bl, o, none⟩) E cap) w := fun w => slice_low e2 hc1 w
        obtain ⟨ad, HSLB, had⟩ := slice_high (b := bl) (o := o) e2 hc1
        have HAD := Lib.hid had
        have HLY : Hid (ys.length = m) := by show _ = _; rw [← HM.out, ← HYS.out, List.length_map]
        have HOWN0 : Hid ((w2.alloc (Obj.cells #[] 38)).ownsRow w2.heap.size 38 8 (.slice (some ⟨w2.heap.size, 0, none⟩) 0 0) 0 (([] : List Ny).flatMap nyC)) := ⟨rfl, .inr ⟨w2.heap.size, 0, #[], rfl, Nat.le_refl _, heap_alloc_last _ _, Nat.le_refl _, Nat.zero_le _, rfl, rfl⟩⟩
        have HC1 : Hid (∀ j u, ((ys.take E).flatMap nyC)[j]? = some u → (w2.alloc (Obj.cells #[] 38)).cell? ((⟨bl, o, none⟩ : Addr).add j) = some u) := fun j u hu => by
          rw [addr_addI]
          have hb2 : Below w.heap.size w (w2.alloc (Obj.cells #[] 38)) := hbw.alloc hbw.size _
          rw [hb2.cell (p := ⟨bl, o + j, none⟩) hbB]
          refine HYC.out j u ?_
          have hy : ys = ys.take E ++ ys.drop E := (List.take_append_drop E ys).symm
          rw [hy, List.flatMap_append, List.getElem?_append_left (List.getElem?_eq_some_iff.1 hu).1]
          exact hu
        have HO1 : Hid (∀ u ∈ (ys.take E).flatMap nyC, u.oneCell' = true) := rows_one (fun y hy => HYL.out y (List.mem_of_mem_take hy))
        have HO3 : Hid (∀ u ∈ (ys.drop E).flatMap nyC, u.oneCell' = true) := rows_one (fun y hy => HYL.out y (List.mem_of_mem_drop hy))
        have HNY : Hid (∀ w' B, NyAt w' B ⟨newE tp mu s, .slice none 0 0, .slice none 0 0⟩) := fun w' B => ⟨⟨none, 0, rfl, Nat.le_refl _, by omega, fun h => absurd rfl h⟩, ⟨none, 0, rfl, Nat.le_refl _, by omega, fun h => absurd rfl h⟩⟩
        have HO2 : Hid (∀ u ∈ [(⟨newE tp mu s, .slice none 0 0, .slice none 0 0⟩ : Ny)].flatMap nyC, u.oneCell' = true) := rows_one (w := w2) (B := 0) (fun y hy => by rw [List.mem_singleton.1 hy]; exact HNY.out w2 0)
        have HC2 : Hid (∀ wa : World, ∀ j u, ([(⟨newE tp mu s, .slice none 0 0, .slice none 0 0⟩ : Ny)].flatMap nyC)[j]? = some u → (wa.alloc (Obj.cells #[.int .i64 1, .int .i64 (tp : Int), .string ⟨#[]⟩, .string s, .string mu, .string ⟨#[]⟩, .slice none 0 0, .slice none 0 0] 38)).cell? ((⟨wa.heap.size, 0, none⟩ : Addr).add j) = some u) := fun wa => World.news_of_block (heap_alloc_last wa (Obj.cells #[.int .i64 1, .int .i64 (tp : Int), .string ⟨#[]⟩, .string s, .string mu, .string ⟨#[]⟩, .slice none 0 0, .slice none 0 0] 38))
        have HC3 : Hid (∀ wb : World, Below w.heap.size w wb → ∀ j u, ((ys.drop E).flatMap nyC)[j]? = some u → wb.cell? (ad.add j) = some u) := fun wb hb j u hu => by
          have hj := (List.getElem?_eq_some_iff.1 hu).1
          rw [flat_length nyC_len, List.length_drop, HLY.out] at hj
          rw [HAD.out (by omega), addr_addI, hb.cell (p := ⟨bl, o + E * 8 + j, none⟩) hbB, show o + E * 8 + j = o + (E * 8 + j) by omega]
          refine HYC.out _ u ?_
          have hy : ys = ys.take E ++ ys.drop E := (List.take_append_drop E ys).symm
          have hl8 : ((ys.take E).flatMap nyC).length = E * 8 := by rw [flat_length nyC_len, List.length_take, HLY.out]; omega
          rw [hy, List.flatMap_append, List.getElem?_append_right (by rw [hl8]; omega), hl8, show E * 8 + j - E * 8 = j by omega]
          exact hu
        have HL1 : Hid ((ys.take E).length = E) := by show _ = _; rw [List.length_take, HLY.out]; omega
        have HL3 : Hid ((ys.drop E).length = m - E) := by show _ = _; rw [List.length_drop, HLY.out]
        clear had
        go_wp2_with (first
          | (at_builtin; refine app_ny rfl (.tmp 41) (.tmp 44) rfl w2.heap.size _ 0 [] rfl HOWN0.out ⟨bl, o, none⟩ E cap (ys.take E) rfl HL1.out HC1.out HO1.out (by omega) (by simp) ?_; intro v1 wa hown1 hgrow1 hat1; have hbA : Below w2.heap.size w2 wa := ((Below.refl w2.heap.size w2).alloc (Nat.le_refl _) _).grown hgrow1 (by simp) (fun k hk => (own_lt HOWN0.out hk).1))
          | (at_builtin; refine app_ny rfl (.tmp 45) (.tmp 50) rfl w2.heap.size v1 (0 + E) ([] ++ ys.take E) rfl (hown1.alloc _) ⟨wa.heap.size, 0, none⟩ 1 1 [⟨newE tp mu s, .slice none 0 0, .slice none 0 0⟩] rfl rfl (HC2.out wa) HO2.out (by omega) (by have := hbA.size; simp; omega) ?_; intro v2 wb hown2 hgrow2 hat2; have hbB2 : Below w2.heap.size w2 wb := (hbA.alloc hbA.size _).grown hgrow2 (by have := hbA.size; simp; omega) (fun k hk => (own_lt hown1 hk).1))
          | (at_builtin; refine app_ny rfl (.tmp 52) (.tmp 55) rfl w2.heap.size v2 (0 + E + 1) (([] ++ ys.take E) ++ [⟨newE tp mu s, .slice none 0 0, .slice none 0 0⟩]) rfl hown2 ad (m - E) (cap - E) (ys.drop E) rfl HL3.out (HC3.out _ (hbw.trans (hbB2.mono hbw.size))) HO3.out (by omega) hbB2.size ?_; intro v3 wc hown3 hgrow3 hat3; have hbC2 : Below w2.heap.size w2 wc := hbB2.grown hgrow3 hbB2.size (fun k hk => (own_lt hown2 hk).1))
          | fail)
        have hbwc : Below w.heap.size w wc := hbw.trans (hbC2.mono hbw.size)
        have hlen : (moreD l s).length = m + 1 := by
          rw [HMD.out, List.length_append, List.length_cons, List.length_take, List.length_drop, HM.out]; omega
        have HLEN := Lib.hid hlen
        have hNs : NsAt wc wc.heap.size v3 (moreD l s) := by
          have hy3 : ∀ y ∈ ([] ++ ys.take E ++ [⟨newE tp mu s, .slice none 0 0, .slice none 0 0⟩] ++ ys.drop E : List Ny), NyAt wc wc.heap.size y := fun y hy => by
            rcases List.mem_append.1 hy with h | h
            · rcases List.mem_append.1 h with h | h
              · rw [List.nil_append] at h
                exact (HYL.out y (List.mem_of_mem_take h)).later hbwc
              · rw [List.mem_singleton.1 h]; exact HNY.out wc _
            · exact (HYL.out y (List.mem_of_mem_drop h)).later hbwc
          have h := ns_of_own hown3 (by simp only [List.length_append, List.length_nil, List.length_singleton, HL1.out, HL3.out]) (by omega) (by omega) hy3
          have e : ([] ++ ys.take E ++ [(⟨newE tp mu s, .slice none 0 0, .slice none 0 0⟩ : Ny)] ++ ys.drop E).map (fun y : Ny => y.x) = moreD l s := by
            rw [HMD.out, ← HYS.out]
            simp
          rw [e] at h
          exact h
        have HOF := Lib.hid (of_any (moreD l s) v3 wc hNs (by rw [hlen]; omega) HSD.out (HW0.out.later hbwc))
        clear hNs hlen hown1 hown2 hown3 hgrow1 hgrow2 hgrow3 hat1 hat2 hat3 HOWN0 HC1 HC2 HC3 HO1 HO2 HO3 HNY HL1 HL3 HLY HYS HYL HYC HAD HSLA HSLB hbA hbB2 hbC2
        refine HOF.out.mono ?_
        rintro e w4 ⟨ho, hb4⟩
        have hbw4 := hbwc.trans (hb4.mono hbwc.size)
        clear HOF hb4
        cases hnm : nmS s with
        | false =>
          rw [hnm] at HIS
          rcases ho with ⟨_, rfl⟩ | ⟨hfo, _⟩ | ⟨hfo, _⟩
          · clear hnm
            go_wp2_with fail
            refine (HIS.out w4).mono ?_
            rintro e w5 ⟨rfl, hb5⟩
            go_wp2
            go_ret
            exact ⟨rfl, hbw4.trans (hb5.mono hbw4.size)⟩
          · rw [HFD.out, hnm] at hfo; cases hfo
          · rw [HFD.out, hnm] at hfo; cases hfo
        | true =>
          rw [hnm] at HIS
          rcases ho with ⟨hfo, _⟩ | ⟨_, hwi, _⟩ | ⟨_, _, d, rfl, hd⟩
          · rw [HFD.out, hnm] at hfo; cases hfo
          · rw [HWD.out] at hwi; cases hwi
          · clear hnm
            have HLN : Hid (∀ w', Below w4.heap.size w4 w' → Calls Tryd.prog 13 #[.pointer (some ⟨d, 0, none⟩)] w' fun e w'' => e = .returned (.int .i64 ((m + 1 : Nat) : Int)) ∧ w'' = w') := fun w' hb => by
              rw [← HLEN.out]
              exact len_doc w' (hd.later hb) (by have := HLEN.out; omega) HSD.out
            clear hd
            go_wp2_with fail
            refine (HIS.out w4).mono ?_
            rintro e w5 ⟨rfl, hb5⟩
            go_wp2_with fail
            refine (HLN.out w5 hb5).mono ?_
            rintro e w6 ⟨rfl, hw⟩
            rw [hw]
            clear hw
            have hmm : (((m + 1 : Nat) : Int) == (m : Int) + 1) = true := by rw [beq_iff_eq]; omega
            go_wp2
            go_ret
            exact ⟨rfl, hbw4.trans (hb5.mono hbw4.size)⟩
      · have hckb : (ck != 0) = true := by simpa [bne] using hck0
        clear hck0
        go_enter Tryd.func8, Tryd.ntmps8
        go_wp2_with fail
        refine (HA.out _ hr0).mono ?_
        rintro e w1 ⟨rfl, hb1⟩
        go_wp2_with fail
        refine (HF.out _ hb1).mono ?_
        rintro e w2 ⟨rfl, hw⟩
        rw [hw]
        clear hw
        go_wp2_with fail
        refine (HC'.out _ hb1).mono ?_
        rintro e w2 ⟨rfl, hb2⟩
        have hbw := hb1.trans (hb2.mono hb1.size)
        go_wp2_with fail
        refine (HA.out _ hbw).mono ?_
        rintro e w3 ⟨rfl, hb3⟩
        go_wp2
        go_ret
        exact ⟨rfl, hbw.trans (hb3.mono hbw.size)⟩
end Go.Proofs.YtchnmkagemmjoaaDoor
