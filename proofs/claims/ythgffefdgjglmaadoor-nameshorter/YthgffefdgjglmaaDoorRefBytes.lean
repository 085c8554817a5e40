/-
  The document's own answer for the bytes of characters. Conditions: each number is a character; there are not too many.
-/
import Derived.Test.YthgffefdgjglmaaDoorRefChars
import Derived.Test.YthgffefdgjglmaaDoorApp
namespace Go.Proofs.YthgffefdgjglmaaDoor
open Go.RowKit
set_option linter.unusedVariables false
/-- What holds at each round's head. -/
def RBRel (w : World) (zs : List Int) (v i : Value) (wr : World) : Prop :=
  ∃ k : Nat, k ≤ zs.length ∧ i = .int .i64 k ∧ wr.ownsRow w.heap.size 5 1 v (encBs (zs.take k)).length (u8c (encBs (zs.take k))) ∧ Below w.heap.size w wr
theorem encBs_le (l : List Int) : (encBs l).length ≤ 4 * l.length := by rw [← encs_length]; exact encs_le l
theorem rb_next {w wr w1 : World} {zs : List Int} {v v1 : Value} {k : Nat} {o : Obj} (hk : k < zs.length)
    (hown : wr.ownsRow w.heap.size 5 1 v (encBs (zs.take k)).length (u8c (encBs (zs.take k)))) (hb : Below w.heap.size w wr)
    (h1 : w1.ownsRow w.heap.size 5 1 v1 ((encBs (zs.take k)).length + (encB zs[k]).length) (u8c (encBs (zs.take k)) ++ u8c (encB zs[k]))) (hg : (wr.alloc o).grownBy w1 v.ownBlock) :
    RBRel w zs v1 (.int .i64 ((k : Int) + 1)) w1 := by
  have e : encBs (zs.take (k + 1)) = encBs (zs.take k) ++ encB zs[k] := by
    rw [List.take_succ_eq_append_getElem hk, encBs_append]; simp [encBs]
  refine ⟨k + 1, hk, by go_num, ?_, ?_⟩
  · rw [e, u8c_append, List.length_append]
    exact h1
  · refine (hb.alloc hb.size o).grown hg (by have := hb.size; simp; omega) ?_
    intro g' hg'
    exact ((own_form hown).choose_spec.choose_spec.2.2.2.2 g' hg').1
set_option maxHeartbeats 1000000 in
theorem refBytes_any (A : Option Addr) (c : Nat) (zs : List Int) (w : World) (hl : Lies w w.heap.size A (i32s zs)) (hall : zs.all chB = true) (hn : zs.length ≤ 100000) :
    Calls Tryd.prog 22 #[.slice A zs.length c] w fun e w' => ∃ v, e = .returned v ∧ w'.ownsRow w.heap.size 5 1 v (encBs zs).length (u8c (encBs zs)) ∧ Below w.heap.size w w' := by
  obtain ⟨i0, hi, hz0, hz1, hz2⟩ := info_parts byteInfo
  have HALL := Lib.hid hall; clear hall
  go_enter Tryd.func22, Tryd.ntmps22
  go_wp2
  go_loopw [3, 7] (RBRel w zs) (fun _ i _ => zs.length - (intOf i).toNat)
  case atStart => exact ⟨0, Nat.zero_le _, rfl, World.ownsRow_nil _ _ _ _, Below.refl _ _⟩
  case round =>
    obtain ⟨k, hk, rfl, hown, hb⟩ := hrel
    by_cases hlt : k < zs.length
    · obtain ⟨b, o, rfl, hbB, hcell⟩ := hl (by intro h; simp [i32s] at h; subst h; simp at hlt)
      have hck : wr.cell? ⟨b, o + k, none⟩ = some (.int .i32 zs[k]) := by
        have := (hb.cell (p := ⟨b, o + k, none⟩) hbB).trans (hcell k (by simpa [i32s] using hlt))
        simpa [i32s] using this
      clear hcell hl
      have hle := encBs_le (zs.take k)
      have hle2 : (zs.take k).length ≤ k := List.length_take_le _ _
      have hbsz := hb.size
      have hchz : chB zs[k] = true := List.all_eq_true.1 HALL.out _ (List.getElem_mem _)
      generalize hz : zs[k] = z at hck hchz
      have HZ := Lib.hid hz; clear hz
      have HO := Lib.hid (refOne_any z hchz)
      have hez := (encZ_le z).2
      rw [← encB_length] at hez
      clear hchz
      obtain ⟨O, hO⟩ : ∃ O, Obj.cells (u8c (encB z)).toArray 5 = O := ⟨_, rfl⟩
      obtain ⟨L, hL⟩ : ∃ L, (encB z).length = L := ⟨_, rfl⟩
      rw [hL] at hez
      have hoc : ∀ j u, (u8c (encB z))[j]? = some u → (wr.alloc O).cell? ((⟨wr.heap.size, 0, none⟩ : Addr).add j) = some u := fun j u hu => by
        have e : (⟨wr.heap.size, 0, none⟩ : Addr).add j = ⟨wr.heap.size, j, none⟩ := by
          rcases Nat.eq_zero_or_pos j with h | h
          · subst h; simp [Addr.add]
          · simp only [Addr.add]; rw [if_neg (by omega)]; simp
        rw [e, ← hO, World.cell?_alloc_mark]; simpa using hu
      have HOC := Lib.hid hoc; clear hoc
      have HL := Lib.hid hL
      have HOO := Lib.hid hO
      clear hL hO
      go_wp2_with fail
      refine (HO.out wr).mono ?_
      rintro e w1 ⟨rfl, rfl⟩
      rw [HOO.out, HL.out]
      go_wp2_with (at_builtin; refine wpList_append_own _ rfl _ _ 34 rfl w.heap.size 5 i0 (.int .u8 0) 1 1 Tryd.underlying34 hi hz0 hz1 hz2 rfl (by decide) _ _ _ rfl (hown.alloc _) ⟨wr.heap.size, 0, none⟩ L L (u8c (encB z)) rfl ?c0 ?c1 ?c2 ?c3 ?c4 ?c5 ?_)
      case c0 => rw [u8c_length, HL.out]; simp
      case c1 => exact HOC.out
      case c2 => intro u hu; simp [u8c] at hu; obtain ⟨x, _, rfl⟩ := hu; rfl
      case c3 => unfold maxLen; omega
      case c4 => omega
      case c5 => simp; omega
      intro v' w2 hown2 hgrow _
      go_wp2
      go_roundw
      case rel => exact rb_next hlt hown hb (by rw [HZ.out, HL.out]; exact hown2) hgrow
      case measure => simp [intOf]; omega
    · go_wp2
      go_ret
      have e : zs.take k = zs := List.take_of_length_le (by omega)
      rw [e] at hown
      exact ⟨_, rfl, hown, hb⟩
end Go.Proofs.YthgffefdgjglmaaDoor
