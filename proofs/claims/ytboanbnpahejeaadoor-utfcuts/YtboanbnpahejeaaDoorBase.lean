/-
  utf.Valid, and the check that the program does anything at all. Conditions: the two tables of unicode/utf8 lie as they are laid.
-/
import Derived.Test.YtboanbnpahejeaaDoorValid
import Derived.Test.YtboanbnpahejeaaDoorBytes
import Derived.Test.YtboanbnpahejeaaDoorOwn
namespace Go.Proofs.YtboanbnpahejeaaDoor
open Go.RowKit
theorem uvalid_any (A : Option Addr) (c : Nat) (bs : List UInt8) (w : World) (hT : Tabs w) (hl : Lies w w.heap.size A (u8c bs)) (hc : bs.length ≤ c) (hcm : c ≤ 9223372036854775807) :
    Calls Tryd.prog 11 #[.slice A bs.length c] w fun e w' => e = .returned (.bool (Lib.validD bs)) ∧ Below w.heap.size w w' := by
  have H := Lib.hid (valid_any A c bs w hT hl hc hcm)
  clear hl hT
  go_enter Tryd.func11, Tryd.ntmps11
  go_wp2_with (go_at_call 21; refine H.out.mono ?_; rintro e w' ⟨rfl, hb⟩)
  go_ret
  exact ⟨rfl, hb⟩
theorem encBs_euro : encBs [8364] = [226, 130, 172] := by decide
theorem valid_euro : Lib.validD [226, 130, 172] = true := (valid_iff _).2 ⟨[8364], by decide, encBs_euro.symm⟩
set_option maxHeartbeats 1000000 in
theorem awake_any (w : World) (hT : Tabs w) : Calls Tryd.prog 8 #[] w fun e w' => e = .returned (.bool true) ∧ Below w.heap.size w w' := by
  have h2 := hT.two
  have HT := Lib.hid hT
  clear hT
  obtain ⟨O, hO⟩ : ∃ O, Obj.cells #[Value.int .i32 8364] 21 = O := ⟨_, rfl⟩
  have hb0 : Below w.heap.size w (w.alloc O) := (Below.refl _ _).alloc (Nat.le_refl _) O
  have HB := Lib.hid (bytes_any (some ⟨w.heap.size, 0, none⟩) 1 [8364] (w.alloc O) (fun _ => ⟨w.heap.size, 0, rfl, by simp, fun j hj => by
    have : j = 0 := by simpa [i32s] using hj
    subst this
    rw [← hO, Nat.add_zero, World.cell?_alloc_mark]; rfl⟩) (by simp))
  go_enter Tryd.func8, Tryd.ntmps8
  go_wp2_with fail
  refine HB.out.mono ?_
  rintro e w1 ⟨hb1, ⟨_, v, rfl, hown⟩ | ⟨h, _⟩⟩
  · rw [u8s_encs (by decide), encs_length, encBs_euro] at hown
    obtain ⟨A, cap, rfl, hle, hcm, hl, _⟩ := own_form hown
    have hb : Below w.heap.size w w1 := hb0.trans (hb1.mono (by simp))
    have hcv := conv_lies cap hl
    simp only [List.length_cons, List.length_nil] at hcv
    have hVd := Lib.hid (uvalid_any A cap [226, 130, 172] w1 (HT.out.below h2 hb) hl hle hcm)
    clear hl hown HB
    have hbs := hb.size
    go_wp2_with (first | (go_at_call 11; refine hVd.out.mono ?_; rintro e w2 ⟨rfl, hb2⟩; rw [valid_euro]) | (go_at_call 17; refine (xml_any _ _).mono ?_; rintro e w' ⟨rfl, rfl⟩))
    go_ret
    exact ⟨by rfl, hb.trans (hb2.mono hbs)⟩
  · exact absurd h (by decide)
end Go.Proofs.YtboanbnpahejeaaDoor
