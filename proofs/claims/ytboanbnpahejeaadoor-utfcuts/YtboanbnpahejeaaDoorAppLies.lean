/-
  append of one slice of the call's own by another one, whatever that one's address. Conditions: the sum is within the reach.
-/
import Derived.Test.YtboanbnpahejeaaDoorChars
import Derived.Laws.AppendOwnNone
import Derived.OwnWalk
namespace Go.Proofs.YtboanbnpahejeaaDoor
open Go.RowKit
set_option linter.unusedVariables false
theorem wpList_append_lies {P : Program} {w : World} {ops : Array Oper} {rest : List Oper} {o : Oper} {a : Act} {Q : Exit → Act → World → Prop} (hgd : o.guard = none) (s x : Operand) (t : TypeId)
    (ho : o.op = .call { callee := .builtin .append, args := #[s, x], argTypes := #[t, t] })
    (base : Nat) (e : TypeId) (i : TypeInfo) (z : Value) (bytes : Nat) (ht : P.underlying t = some (.slice e)) (hi : P.info? e = some i) (hz : i.zero = some z)
    (hsize : i.size = 1) (hby : i.bytes = bytes) (hzs : z.cells.size = 1)
    (v : Value) (n : Nat) (xs : List Value) (hs : a.eval s = v) (hown : w.ownsRow base e 1 v n xs)
    (B : Nat) (A : Option Addr) (m c : Nat) (news : List Value) (hx : a.eval x = .slice A m c) (hlen : news.length = m) (hA : A = none → c = 0) (hl : Lies w B A news) (h1 : ∀ u ∈ news, u.oneCell' = true)
    (h63 : n + m ≤ maxLen) (hbytes : (n + m) * bytes ≤ 140737488355328) (hbase : base ≤ w.heap.size)
    (h : ∀ v' w', w'.ownsRow base e 1 v' (n + m) (xs ++ news) → w.grownBy w' v.ownBlock → wpList P ops Q rest (a.put o.dst v') w') : wpList P ops Q (o :: rest) a w := by
  cases A with
  | none =>
    have hn : news = [] := by
      rcases List.eq_nil_or_concat news with e | ⟨l, u, e⟩
      · exact e
      · obtain ⟨b, o, h, _⟩ := hl (by rw [e]; simp)
        cases h
    subst hn
    simp at hlen
    subst hlen
    rw [hA rfl] at hx
    exact wpList_append_own_none hgd s x t ho base e i 1 ht hi v n xs hs hown hx (h v w (by simpa using hown) (World.grownBy.refl w _))
  | some ad =>
    refine wpList_append_own w hgd s x t ho base e i z 1 bytes ht hi hz hsize hby hzs (by omega) v n xs hs hown ad m c news hx (by omega) ?_ h1 h63 hbytes hbase fun v' w' h2 h3 _ => h v' w' h2 h3
    intro j u hu
    have hj : j < news.length := by
      rcases Nat.lt_or_ge j news.length with hj | hj
      · exact hj
      · rw [List.getElem?_eq_none hj] at hu; cases hu
    obtain ⟨b, o, hb, _, hc⟩ := hl (by intro e; rw [e] at hj; simp at hj)
    cases hb
    rw [List.getElem?_eq_getElem hj] at hu
    have := hc j hj
    rcases Nat.eq_zero_or_pos j with e | e
    · subst e; simpa [Addr.add, hu] using this.trans hu
    · simp only [Addr.add]; rw [if_neg (by omega), this]; exact hu
/-- A new slice without elements is the call's own. -/
theorem own_empty (w : World) (e : TypeId) (B : Nat) (hB : B ≤ w.heap.size) : (w.alloc (.cells #[] e)).ownsRow B e 1 (.slice (some ⟨w.heap.size, 0, none⟩) 0 0) 0 [] :=
  ⟨rfl, .inr ⟨w.heap.size, 0, #[], rfl, hB, by show (w.heap.push _)[w.heap.size]? = _; simp, Nat.le_refl _, by simp [maxLen], rfl, rfl⟩⟩
theorem u8c_one (bs : List UInt8) : ∀ u ∈ u8c bs, u.oneCell' = true := fun u hu => by
  simp [u8c] at hu; obtain ⟨x, _, rfl⟩ := hu; rfl
/-- What utf.Chars answers, in one form. -/
theorem chars_uni (A : Option Addr) (c : Nat) (bs : List UInt8) (w : World) (hT : Tabs w) (hl : Lies w w.heap.size A (u8c bs)) (hc : bs.length ≤ c) (hcm : c ≤ 9223372036854775807) (hn : bs.length ≤ 100000) :
    Calls Tryd.prog 9 #[.slice A bs.length c] w fun e w' => (∃ A' n cap, e = .returned (.tuple #[.slice A' n cap, .bool (Lib.validD bs)]) ∧ n ≤ bs.length ∧ ∀ l : List Int, l.all chB = true → bs = encBs l → n = l.length) ∧ Below w.heap.size w w' := by
  refine (chars_any A c bs w hT hl hc hcm hn).mono fun e w' ⟨h, hb⟩ => ⟨?_, hb⟩
  rcases h with ⟨l, A', cap, hall, hbs, he, _⟩ | ⟨hv, he⟩
  · refine ⟨A', l.length, cap, by rw [he, (valid_iff bs).2 ⟨l, hall, hbs⟩], by rw [hbs]; exact encBs_long l, fun k hk e => ?_⟩
    rw [encBs_inj hk hall (e.symm.trans hbs)]
  · refine ⟨none, 0, 0, by rw [he, hv], by omega, fun k hk e => ?_⟩
    have := (valid_iff bs).2 ⟨k, hk, e⟩
    rw [hv] at this; cases this
end Go.Proofs.YtboanbnpahejeaaDoor
