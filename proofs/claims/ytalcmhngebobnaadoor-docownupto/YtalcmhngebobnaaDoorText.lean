/-
  utf.Text and the document's own answer for it. Conditions: the two tables of unicode/utf8 lie as they are laid; there are not too many bytes.
-/
import Derived.Test.YtalcmhngebobnaaDoorChars
import Derived.Test.YtalcmhngebobnaaDoorLeafX
import Derived.Laws.RangeString
import Derived.Laws.RangeAny
namespace Go.Proofs.YtalcmhngebobnaaDoor
open Go.RowKit
set_option linter.unusedVariables false
/-- What is answered. -/
def TextAns (bs : List UInt8) (e : Ending) : Prop :=
  (∃ l, l.all chB = true ∧ bs = encBs l ∧ e = .returned (.bool (l.all xmlB))) ∨ (Lib.validD bs = false ∧ e = .returned (.bool false))
/-- What holds at each round's head of utf.Text. -/
def TRel (w : World) (s : ByteArray) (l : List Int) (v : Value) (wr : World) : Prop :=
  ∃ k : Nat, k ≤ l.length ∧ (l.take k).all xmlB = true ∧ wr = w.iter s (encBs (l.take k)).length
theorem all_snoc (p : Int → Bool) (l : List Int) (k : Nat) (h : k < l.length) : (l.take (k + 1)).all p = ((l.take k).all p && p l[k]) := by
  rw [List.take_succ_eq_append_getElem h, List.all_append]; simp
theorem enc_at (l : List Int) (k : Nat) (h : k < l.length) : encBs l = encBs (l.take k) ++ (encB l[k] ++ encBs (l.drop (k + 1))) := by
  conv => lhs; rw [← List.take_append_drop k l, List.drop_eq_getElem_cons h, encBs_append, encBs_cons]
theorem below_iter {w w1 : World} (h : Below w.heap.size w w1) (s : ByteArray) (pos : Nat) : Below w.heap.size w (w1.iter s pos) := h.alloc h.size _
set_option maxHeartbeats 1000000 in
theorem text_any (A : Option Addr) (c : Nat) (bs : List UInt8) (w : World) (hT : Tabs w) (hl : Lies w w.heap.size A (u8c bs)) (hc : bs.length ≤ c) (hcm : c ≤ 9223372036854775807) (hn : bs.length ≤ 2000000) :
    Calls Tryd.prog 47 #[.slice A bs.length c] w fun e w' => TextAns bs e ∧ Below w.heap.size w w' := by
  have HVa := Lib.hid (uvalid_any A c bs w hT hl hc hcm)
  clear hT
  cases hv : Lib.validD bs with
  | false =>
    have HVx : Hid (Lib.validD bs = false) := Lib.hid hv
    clear hl
    go_enter Tryd.func47, Tryd.ntmps47
    go_wp2_with (go_at_call 56; refine HVa.out.mono ?_; rintro e w' ⟨rfl, hb⟩; rw [HVx.out])
    go_ret
    exact ⟨.inr ⟨HVx.out, rfl⟩, hb⟩
  | true =>
    obtain ⟨l, hall, hbs⟩ := (valid_iff bs).1 hv
    have HVx : Hid (Lib.validD bs = true) := Lib.hid hv
    have HLi := Lib.hid hl
    have HALL := Lib.hid hall
    have HBS := Lib.hid hbs
    clear hl hv hall hbs
    go_enter Tryd.func47, Tryd.ntmps47
    go_wp2_with fail
    refine HVa.out.mono ?_
    rintro e w1 ⟨rfl, hb⟩
    rw [HVx.out]
    have hcv := conv_lies c (HLi.out.below hb)
    obtain ⟨s, hs⟩ : ∃ s : ByteArray, ⟨bs.toArray⟩ = s := ⟨_, rfl⟩
    rw [hs] at hcv
    have hsl : s.data.toList = encBs l := by rw [← hs, HBS.out]
    have HS := Lib.hid hsl
    clear hs hsl HVa HLi
    go_wp2
    go_loopw [4] (TRel w1 s l) (fun _ w' => s.size - w'.iterPos w1.heap.size)
    case atStart => exact ⟨0, Nat.zero_le _, rfl, rfl⟩
    case round =>
      obtain ⟨k, hk, hx, rfl⟩ := hrel
      have HX := Lib.hid hx; clear hx
      by_cases hlt : k < l.length
      · have hchk : chB l[k] = true := List.all_eq_true.1 HALL.out _ (List.getElem_mem _)
        have hd := decode_in (l.take k) l[k] (l.drop (k + 1)) hchk s (by rw [HS.out]; exact enc_at l k hlt)
        have hr0 := (chB_iff.1 hchk).1
        have hp : (encBs (l.take k)).length < s.size := by
          rw [Lib.size_eq, HS.out, enc_at l k hlt, List.length_append, List.length_append]
          have := encB_pos l[k]
          omega
        have e1 : (encBs (l.take k)).length + (encB l[k]).length = (encBs (l.take (k + 1))).length := by
          rw [List.take_succ_eq_append_getElem hlt, encBs_append, List.length_append]; simp [encBs]
        have hnx := fun ty => run_next_any (P := Tryd.prog) w1 s (encBs (l.take k)).length ty hp
        rw [hd] at hnx
        dsimp only at hnx
        have er : ((l[k].toNat : Nat) : Int) = l[k] := Int.toNat_of_nonneg hr0
        rw [er, e1] at hnx
        have hgrow : (encBs (l.take k)).length < (encBs (l.take (k + 1))).length := by rw [← e1]; have := encB_pos l[k]; omega
        have hAs := all_snoc xmlB l k hlt
        generalize (encBs (l.take k)).length = p0 at hp hnx hgrow ⊢
        obtain ⟨p1, hp1⟩ : ∃ p1, (encBs (l.take (k + 1))).length = p1 := ⟨_, rfl⟩
        rw [hp1] at hnx hgrow
        generalize l[k] = z at hnx hAs hd
        have HAS := Lib.hid hAs
        have HP1 := Lib.hid hp1
        clear hchk hd hr0 er e1 hAs hp1
        cases hxz : xmlB z with
        | true =>
          go_wp2_with (go_at_call 57; refine (xml_any _ _).mono ?_; rintro e w' ⟨rfl, rfl⟩; rw [hxz])
          go_roundw
          case rel => exact ⟨k + 1, hlt, by rw [HAS.out, HX.out, hxz]; rfl, by rw [HP1.out]⟩
          case measure => simp; omega
        | false =>
          go_wp2_with (go_at_call 57; refine (xml_any _ _).mono ?_; rintro e w' ⟨rfl, rfl⟩; rw [hxz])
          go_ret
          refine ⟨.inl ⟨l, HALL.out, HBS.out, ?_⟩, below_iter hb _ _⟩
          have : l.all xmlB = false := by
            have h1 : (l.take (k + 1)).all xmlB = false := by rw [HAS.out, hxz]; simp
            rw [← List.take_append_drop (k + 1) l, List.all_append, h1]; rfl
          rw [this]; rfl
      · have hke : l.take k = l := List.take_of_length_le (by omega)
        have hp : ¬ (encBs (l.take k)).length < s.size := by rw [hke, Lib.size_eq, HS.out]; omega
        have hnx := fun ty => run_next_end (P := Tryd.prog) w1 s (encBs (l.take k)).length ty hp
        have hfin : l.all xmlB = true := by rw [← hke]; exact HX.out
        have HF := Lib.hid hfin
        clear hke hfin
        go_wp2
        go_ret
        refine ⟨.inl ⟨l, HALL.out, HBS.out, ?_⟩, below_iter hb _ _⟩
        rw [HF.out]; rfl
/-- What holds at each round's head of the document's own text. -/
def RTRel (w : World) (l : List Int) (v i : Value) (wr : World) : Prop :=
  ∃ k : Nat, k ≤ l.length ∧ i = .int .i64 k ∧ v = .bool ((l.take k).all xmlB) ∧ Below w.heap.size w wr
end Go.Proofs.YtalcmhngebobnaaDoor
