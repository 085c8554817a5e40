/-
  utf.Chars: the characters of bytes, or nothing and false. Conditions: the two tables of unicode/utf8 lie as they are laid; there are not too many bytes.
-/
import Derived.Test.YtalcmhngebobnaaDoorRefChars
import Derived.Test.YtalcmhngebobnaaDoorBase
import Derived.Laws.IdiomStrings
import Derived.Laws.AppendOwn
namespace Go.Proofs.YtalcmhngebobnaaDoor
open Go.RowKit
set_option linter.unusedVariables false
theorem decode_in (l1 : List Int) (r : Int) (l2 : List Int) (hr : chB r = true) (s : ByteArray) (hs : s.data.toList = encBs l1 ++ (encB r ++ encBs l2)) :
    Utf8.decode s (encBs l1).length = (r.toNat, (encB r).length) := by
  rw [← Lib.decodeL_drop, hs, List.drop_left, dec_enc hr]
theorem runes_from (s : ByteArray) : ∀ (l2 l1 : List Int) (bound : Nat) (acc : Array Value), l2.all chB = true → s.data.toList = encBs l1 ++ encBs l2 → (encBs l2).length ≤ bound →
    Conv.runesFrom s bound (encBs l1).length acc = acc ++ (i32s l2).toArray
  | [], l1, bound, acc, _, hs, _ => by
    have hsz : ¬ (encBs l1).length < s.size := by
      have := congrArg List.length hs
      have e : s.size = s.data.toList.length := Lib.size_eq s
      rw [e, this]; simp [encBs]
    have ee : i32s [] = [] := rfl
    rw [ee]
    cases bound with
    | zero => simp [Conv.runesFrom]
    | succ n => simp [Conv.runesFrom, hsz]
  | r :: l2, l1, bound, acc, hall, hs, hb => by
    rw [List.all_cons, Bool.and_eq_true] at hall
    have hp := encB_pos r
    rw [encBs_cons, List.length_append] at hb
    obtain ⟨n, rfl⟩ : ∃ n, bound = n + 1 := ⟨bound - 1, by omega⟩
    have hsz : (encBs l1).length < s.size := by
      have := congrArg List.length hs
      have e : s.size = s.data.toList.length := Lib.size_eq s
      rw [e, this, encBs_cons, List.length_append, List.length_append]; omega
    have hd := decode_in l1 r l2 hall.1 s (by rw [hs, encBs_cons])
    have hr0 := (chB_iff.1 hall.1).1
    have e1 : (encBs l1).length + (encB r).length = (encBs (l1 ++ [r])).length := by rw [encBs_append, List.length_append]; simp [encBs]
    unfold Conv.runesFrom
    rw [if_pos hsz, hd]
    dsimp only
    rw [e1, runes_from s l2 (l1 ++ [r]) n _ hall.2 (by rw [hs, encBs_append, encBs_cons]; simp [encBs]) (by omega)]
    have e2 : Int.ofNat r.toNat = r := by simp; omega
    rw [e2]
    simp [i32s]
theorem runes_all (l : List Int) (h : l.all chB = true) : Conv.runesFrom ⟨(encBs l).toArray⟩ (⟨(encBs l).toArray⟩ : ByteArray).size 0 #[] = (i32s l).toArray := by
  have := runes_from ⟨(encBs l).toArray⟩ l [] (⟨(encBs l).toArray⟩ : ByteArray).size #[] h (by simp [encBs]) (by simp [ByteArray.size])
  simpa [encBs] using this
/-- What utf.Chars answers. -/
def UCharsAns (bs : List UInt8) (e : Ending) (w' : World) : Prop :=
  (∃ l A cap, l.all chB = true ∧ bs = encBs l ∧ e = .returned (.tuple #[.slice A l.length cap, .bool true]) ∧ Lies w' w'.heap.size A (i32s l) ∧ l.length ≤ cap) ∨ (Lib.validD bs = false ∧ e = .returned (.tuple #[.slice none 0 0, .bool false]))
set_option maxHeartbeats 1000000 in
theorem chars_any (A : Option Addr) (c : Nat) (bs : List UInt8) (w : World) (hT : Tabs w) (hl : Lies w w.heap.size A (u8c bs)) (hc : bs.length ≤ c) (hcm : c ≤ 9223372036854775807) (hn : bs.length ≤ 2000000) :
    Calls Tryd.prog 53 #[.slice A bs.length c] w fun e w' => UCharsAns bs e w' ∧ Below w.heap.size w w' := by
  have HVa := Lib.hid (uvalid_any A c bs w hT hl hc hcm)
  clear hT
  cases hv : Lib.validD bs with
  | false =>
    have HVx : Hid (Lib.validD bs = false) := Lib.hid hv
    clear hl
    go_enter Tryd.func53, Tryd.ntmps53
    go_wp2_with (go_at_call 56; refine HVa.out.mono ?_; rintro e w' ⟨rfl, hb⟩; rw [HVx.out])
    go_ret2
    exact ⟨.inr ⟨HVx.out, rfl⟩, hb⟩
  | true =>
    obtain ⟨l, hall, hbs⟩ := (valid_iff bs).1 hv
    have HVx : Hid (Lib.validD bs = true) := Lib.hid hv
    have HLi := Lib.hid hl
    have HALL := Lib.hid hall
    have HBS := Lib.hid hbs
    have hll : l.length ≤ 2000000 := by have := encBs_long l; rw [← hbs] at this; omega
    clear hl hv hall hbs
    go_enter Tryd.func53, Tryd.ntmps53
    go_wp2_with fail
    refine HVa.out.mono ?_
    rintro e w1 ⟨rfl, hb⟩
    rw [HVx.out]
    have hcv := conv_lies c (HLi.out.below hb)
    obtain ⟨C, hC⟩ : ∃ C : Array Value, (i32s l).toArray = C := ⟨_, rfl⟩
    have hrn : Conv.runesFrom ⟨bs.toArray⟩ (⟨bs.toArray⟩ : ByteArray).size 0 #[] = C := by rw [HBS.out, runes_all l HALL.out, hC]
    have hCs : C.size = l.length := by rw [← hC]; simp [i32s]
    have hrun := run_runes_of_string (P := Tryd.prog) w1 9 74 21 ⟨bs.toArray⟩ Tryd.underlying9 Tryd.underlying74 Tryd.underlying21 (by rw [hrn, hCs]; omega)
    rw [hrn, hCs] at hrun
    obtain ⟨cap, hcap⟩ : ∃ cap, grownCap w1 l.length 0 21 = cap := ⟨_, rfl⟩
    rw [hcap] at hrun
    have hge : l.length ≤ cap := by rw [← hcap]; exact grownCap_ge _ _ _ _
    have HGE := Lib.hid hge
    obtain ⟨O, hO⟩ : ∃ O, Obj.cells (C ++ Array.replicate (cap - l.length) (.int .i32 0)) 21 = O := ⟨_, rfl⟩
    rw [hO] at hrun
    have HO := Lib.hid hO
    have HCC := Lib.hid hC
    have HCS := Lib.hid hCs
    clear hcap hO hC hCs hrn HVa hge
    go_wp2
    go_ret2
    have hbf : Below w.heap.size w (w1.drew.alloc O) := hb.drew.alloc hb.size O
    refine ⟨.inl ⟨l, some ⟨w1.heap.size, 0, none⟩, cap, HALL.out, HBS.out, rfl, ?_, HGE.out⟩, hbf⟩
    intro hne
    refine ⟨w1.heap.size, 0, rfl, by simp, fun j hj => ?_⟩
    have hj' : j < l.length := by simpa [i32s] using hj
    rw [← HO.out, Nat.zero_add]
    show (w1.drew.alloc _).cell? ⟨w1.drew.heap.size, j, none⟩ = _
    rw [World.cell?_alloc_mark, Array.getElem?_append_left (by rw [HCS.out]; exact hj'), ← HCC.out]
    simp
end Go.Proofs.YtalcmhngebobnaaDoor
