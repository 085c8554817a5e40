/-
  The document's own answer for all characters of bytes. Conditions: the bytes lie where the slice says; there are not too many.
-/
import Derived.Test.YtchnmkagemmjoaaDoorFirst
import Derived.Deep.LoopGhost
namespace Go.Proofs.YtchnmkagemmjoaaDoor
open Go.RowKit
set_option linter.unusedVariables false
theorem runeInfo : (Tryd.prog.info? 21).map (fun i => (i.zero, i.size, i.bytes)) = some (some (.int .i32 0), 1, 4) := by kernel_rfl
/-- What is answered: the characters, or nothing and false. -/
def CharsAns (bs : List UInt8) (B : Nat) (e : Ending) (w' : World) : Prop :=
  (∃ l v, l.all chB = true ∧ bs = encBs l ∧ e = .returned (.tuple #[v, .bool true]) ∧ w'.ownsRow B 21 1 v l.length (i32s l)) ∨ (Lib.validD bs = false ∧ e = .returned (.tuple #[.slice none 0 0, .bool false]))
/-- What holds at each round's head. -/
def RC (w : World) (bs : List UInt8) (gk : Nat) (s0 s4 : Value) (wx : World) : Prop :=
  Below w.heap.size w wx ∧ ∃ (A : Option Addr) (cap : Nat) (ts : List UInt8) (dn : List Int), s0 = .slice A ts.length cap ∧ Lies wx w.heap.size A (u8c ts) ∧ ts.length ≤ cap ∧ cap ≤ 9223372036854775807 ∧
    dn.all chB = true ∧ bs = encBs dn ++ ts ∧ wx.ownsRow w.heap.size 21 1 s4 dn.length (i32s dn) ∧ ts.length < gk
theorem own_below {w w' : World} {B e n m : Nat} {v : Value} {xs : List Value} (h : w.ownsRow B e m v n xs) (hb : Below w.heap.size w w') : w'.ownsRow B e m v n xs := by
  obtain ⟨hl, h | ⟨g, cap, cur, rfl, hg, hh, hn, hc, hs, ht⟩⟩ := h
  · exact ⟨hl, .inl h⟩
  · refine ⟨hl, .inr ⟨g, cap, cur, rfl, hg, ?_, hn, hc, hs, ht⟩⟩
    have hlt : g < w.heap.size := by
      rcases Nat.lt_or_ge g w.heap.size with hlt | hge
      · exact hlt
      · rw [Array.getElem?_eq_none hge] at hh; cases hh
    rw [hb.block g hlt]
    exact hh
theorem encBs_long (l : List Int) : l.length ≤ (encBs l).length := by
  induction l with
  | nil => simp
  | cons r l ih =>
    have := encB_pos r
    rw [encBs_cons, List.length_append, List.length_cons]
    omega
theorem not_valid {bs ts : List UInt8} {dn : List Int} (hd : dn.all chB = true) (hb : bs = encBs dn ++ ts) (hn : ¬ Begins ts) (h0 : 0 < ts.length) : Lib.validD bs = false := by
  rw [hb, valid_encs dn hd]
  cases hv : Lib.validD ts with
  | false => rfl
  | true =>
    obtain ⟨l, hl, e⟩ := (valid_iff ts).1 hv
    match l, hl, e with
    | [], _, e => rw [e] at h0; simp [encBs] at h0
    | r :: l, hl, e =>
      rw [List.all_cons, Bool.and_eq_true] at hl
      exact absurd ⟨r, encBs l, hl.1, e⟩ hn
theorem rc_next {w wr w1 : World} {bs ts rest : List UInt8} {dn : List Int} {g cap b o n : Nat} {r : Int} {v v1 : Value} {O : Obj} {A : Option Addr} (hb : Below w.heap.size w wr) (hbB : b < w.heap.size) (hg : (wr.alloc O).grownBy w1 v.ownBlock)
    (hc : ∀ j (hj : j < ts.length), wr.cell? ⟨b, o + j, none⟩ = some (.int .u8 (ts[j].toNat : Int))) (hd : dn.all chB = true) (hbs : bs = encBs dn ++ ts) (hr : chB r = true) (hts : ts = encB r ++ rest)
    (hown : wr.ownsRow w.heap.size 21 1 v dn.length (i32s dn)) (h1 : w1.ownsRow w.heap.size 21 1 v1 (dn.length + 1) (i32s dn ++ [.int .i32 r])) (hk : (encB r).length = n) (hcap : ts.length ≤ cap) (hcm : cap ≤ 9223372036854775807)
    (hA : n < cap → A = some ⟨b, o + n, none⟩) (hgk : ts.length < g + 1) :
    RC w bs g (.slice A (ts.length - n) (cap - n)) v1 w1 := by
  have hbr : Below w.heap.size wr w1 := by
    refine ((Below.refl _ wr).alloc hb.size O).grown hg (by have := hb.size; simp; omega) ?_
    intro g' hg'
    exact ((own_form hown).choose_spec.choose_spec.2.2.2.2 g' hg').1
  have hbe : Below w.heap.size w w1 := hb.trans hbr
  have hl : ts.length = n + rest.length := by rw [hts, List.length_append, hk]
  have hp := encB_pos r
  have hdrop : ts.drop n = rest := by rw [hts, ← hk, List.drop_left]
  refine ⟨hbe, A, cap - n, rest, dn ++ [r], by rw [hl]; simp, ?_, by omega, by omega, by rw [List.all_append, hd]; simp [hr], by rw [hbs, hts, encBs_append]; simp [encBs], by rw [List.length_append]; simpa [i32s] using h1, by omega⟩
  intro hne
  have hrl : 0 < rest.length := by
    rcases Nat.eq_zero_or_pos rest.length with h | h
    · rw [List.eq_nil_of_length_eq_zero h] at hne; exact absurd rfl hne
    · exact h
  rw [hA (by omega)]
  have := cells_drop n hc
  rw [hdrop] at this
  exact (lies_of (w := wr) hbB this).below hbr hne
set_option maxHeartbeats 2000000 in
theorem refChars_any (A : Option Addr) (c : Nat) (bs : List UInt8) (w : World) (hl : Lies w w.heap.size A (u8c bs)) (hc : bs.length ≤ c) (hcm : c ≤ 9223372036854775807) (hn : bs.length ≤ 2000000) :
    Calls Tryd.prog 97 #[.slice A bs.length c] w fun e w' => CharsAns bs w.heap.size e w' ∧ Below w.heap.size w w' := by
  obtain ⟨i0, hi, hz0, hz1, hz2⟩ := info_parts runeInfo
  go_enter Tryd.func97, Tryd.ntmps97
  go_wp2
  go_loopg [0, 4] (bs.length + 1) (RC w bs)
  case atStart => exact ⟨Below.refl _ _, A, c, bs, [], rfl, hl, hc, hcm, rfl, rfl, World.ownsRow_nil _ _ _ _, by omega⟩
  case round =>
    obtain ⟨hb, A1, cap, ts, dn, rfl, hlt, htc, hcapm, hall, hbs, hown, hgk⟩ := hrel
    clear hl hc
    have HBS := Lib.hid hbs
    have hdl : dn.length ≤ 2000000 := by
      have h1 := congrArg List.length hbs
      rw [List.length_append] at h1
      have := encBs_long dn
      omega
    have HALL := Lib.hid hall
    clear hbs hall
    have hbsz := hb.size
    by_cases h0 : 0 < ts.length
    · obtain ⟨g', rfl⟩ : ∃ g', gk = g' + 1 := ⟨gk - 1, by omega⟩
      obtain ⟨b, o, rfl, hbB, hcell⟩ := lies_cells hlt h0
      have HC := Lib.hid hcell
      have HF := Lib.hid (first_any b o ts.length cap ts wr rfl h0 htc hcapm (by omega) hcell)
      clear hcell hlt
      go_wp2_with fail
      refine HF.out.mono ?_
      rintro e w1 ⟨⟨r, rest, hr, hts, rfl⟩ | ⟨hnb, rfl⟩, hb1⟩
      · obtain ⟨K, hK⟩ : ∃ K, (encB r).length = K := ⟨_, rfl⟩
        have hK1 : 1 ≤ K := by rw [← hK]; exact encB_pos r
        have hK2 : K ≤ ts.length := by rw [hts, List.length_append, hK]; omega
        rw [hK]
        have HK := Lib.hid hK
        have HTS := Lib.hid hts
        clear hK hts HF
        have hown1 := own_below hown hb1
        have hb1' : Below w.heap.size w w1 := hb.trans (hb1.mono hbsz)
        have hbsz1 := hb1'.size
        have hc1 : ∀ j (hj : j < ts.length), w1.cell? ⟨b, o + j, none⟩ = some (.int .u8 (ts[j].toNat : Int)) := fun j hj => (hb1.cell (p := ⟨b, o + j, none⟩) (by show b < _; omega)).trans (HC.out j hj)
        have HC1 := Lib.hid hc1; clear hc1
        have hK0 : ((K : Int) == 0) = false := by rw [beq_eq_false_iff_ne]; omega
        by_cases hq : cap = K
        · have hcv : (K : Int) ≤ (ts.length : Int) := by omega
          have hq2 : ts.length = K := by omega
          go_wp2_with (at_builtin; refine wpList_append_own _ rfl _ _ 91 rfl w.heap.size 21 i0 (.int .i32 0) 1 4 Tryd.underlying91 hi hz0 hz1 hz2 rfl (by decide) _ _ _ rfl (hown1.alloc _) ⟨w1.heap.size, 0, none⟩ 1 1 [.int .i32 r] rfl rfl ?c1a ?c2a ?c3a ?c4a ?c5a ?_)
          case c1a =>
            intro j u hj
            match j, hj with
            | 0, hj => simp at hj; subst hj; simp [Addr.add]
            | (j + 1), hj => simp at hj
          case c2a => intro u hu; simp at hu; subst hu; rfl
          case c3a => unfold maxLen; omega
          case c4a => omega
          case c5a => simp; omega
          intro v' w2 hown2 hgrow _
          go_wp2
          go_roundg g'
          case measure => omega
          case rel =>
            have R := rc_next (A := some ⟨b, o, none⟩) hb1' hbB hgrow HC1.out HALL.out HBS.out hr HTS.out hown1 hown2 HK.out htc hcapm (fun h => by omega) hgk
            rw [show ts.length - K = 0 from by omega, show cap - K = 0 from by omega] at R
            exact R
        · have hcv : (K : Int) ≤ (ts.length : Int) := by omega
          have hq3 : ¬ (cap : Int) = (K : Int) := by omega
          go_wp2_with (at_builtin; refine wpList_append_own _ rfl _ _ 91 rfl w.heap.size 21 i0 (.int .i32 0) 1 4 Tryd.underlying91 hi hz0 hz1 hz2 rfl (by decide) _ _ _ rfl (hown1.alloc _) ⟨w1.heap.size, 0, none⟩ 1 1 [.int .i32 r] rfl rfl ?c1b ?c2b ?c3b ?c4b ?c5b ?_)
          case c1b =>
            intro j u hj
            match j, hj with
            | 0, hj => simp at hj; subst hj; simp [Addr.add]
            | (j + 1), hj => simp at hj
          case c2b => intro u hu; simp at hu; subst hu; rfl
          case c3b => unfold maxLen; omega
          case c4b => omega
          case c5b => simp; omega
          intro v' w2 hown2 hgrow _
          go_wp2
          go_roundg g'
          case measure => omega
          case rel => exact rc_next hb1' hbB hgrow HC1.out HALL.out HBS.out hr HTS.out hown1 hown2 HK.out htc hcapm (fun _ => rfl) (by omega)
      · go_wp2
        go_ret2
        exact ⟨.inr ⟨not_valid HALL.out HBS.out hnb h0, rfl⟩, hb.trans (hb1.mono hbsz)⟩
    · have e0 : ts = [] := List.eq_nil_of_length_eq_zero (by omega)
      subst e0
      go_wp2
      go_ret2
      exact ⟨.inl ⟨dn, _, HALL.out, by rw [HBS.out]; simp, rfl, hown⟩, hb⟩
end Go.Proofs.YtchnmkagemmjoaaDoor
