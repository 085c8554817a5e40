/-
  utf.Bytes: the bytes of all, if each number is a character; else nothing, and false. Conditions: the list is short.
-/
import Derived.Test.YtmbmobjlmbjkpaaDoorApp
import Derived.WalkKit
import Derived.Lib.Hide
namespace Go.Proofs.YtmbmobjlmbjkpaaDoor
open Go.RowKit
/-- What utf.Bytes leaves. -/
def BytesPost (B : Nat) (w : World) (zs : List Int) (e : Ending) (w' : World) : Prop :=
  Below B w w' ∧ ((zs.all chB = true ∧ ∃ v, e = .returned (.tuple #[v, .bool true]) ∧ w'.ownsRow B 5 1 v (encs zs).length (u8s (encs zs))) ∨
    (zs.all chB = false ∧ e = .returned (.tuple #[.slice none 0 0, .bool false])))
/-- What holds at each round's head. -/
def BytesRel (w : World) (zs : List Int) (v i : Value) (wr : World) : Prop :=
  ∃ k : Nat, k ≤ zs.length ∧ i = .int .i64 k ∧ (zs.take k).all chB = true ∧ wr.ownsRow w.heap.size 5 1 v (encs (zs.take k)).length (u8s (encs (zs.take k))) ∧ Below w.heap.size w wr
theorem take_snoc (zs : List Int) (k : Nat) (h : k < zs.length) : zs.take (k + 1) = zs.take k ++ [zs[k]] := List.take_succ_eq_append_getElem h
theorem bytesRel_next {w wr w1 : World} {zs : List Int} {v v1 : Value} {k : Nat} {o : Obj} (hk : k < zs.length) (ha : (zs.take k).all chB = true) (hc : chB zs[k] = true)
    (hown : wr.ownsRow w.heap.size 5 1 v (encs (zs.take k)).length (u8s (encs (zs.take k)))) (hb : Below w.heap.size w wr)
    (h1 : w1.ownsRow w.heap.size 5 1 v1 ((encs (zs.take k)).length + (encZ zs[k]).length) (u8s (encs (zs.take k)) ++ u8s (encZ zs[k]))) (hg : (wr.alloc o).grownBy w1 v.ownBlock) :
    BytesRel w zs v1 (.int .i64 ((k : Int) + 1)) w1 := by
  refine ⟨k + 1, hk, by go_num, by rw [take_snoc zs k hk, List.all_append, ha]; simp [hc], ?_, ?_⟩
  · rw [take_snoc zs k hk, encs_snoc, u8s_append, List.length_append]
    exact h1
  · refine (hb.alloc hb.size o).grown hg (by have := hb.size; simp; omega) ?_
    intro g hg'
    rcases hown.2 with ⟨rfl, _⟩ | ⟨g', cap, cur, rfl, hle, _⟩
    · simp [Value.ownBlock] at hg'
    · simp [Value.ownBlock] at hg'
      omega
set_option maxHeartbeats 1000000 in
theorem bytes_any (A : Option Addr) (c : Nat) (zs : List Int) (w : World) (hl : Lies w w.heap.size A (i32s zs)) (hn : zs.length ≤ 100000) :
    Calls Tryd.prog 34 #[.slice A zs.length c] w (BytesPost w.heap.size w zs) := by
  go_enter Tryd.func34, Tryd.ntmps34
  go_wp2
  go_loopw [4, 9] (BytesRel w zs) (fun _ i _ => zs.length - (intOf i).toNat)
  case atStart => exact ⟨0, Nat.zero_le _, rfl, rfl, World.ownsRow_nil _ _ _ _, Below.refl _ _⟩
  case round =>
    obtain ⟨k, hk, rfl, hall, hown, hb⟩ := hrel
    by_cases hlt : k < zs.length
    · obtain ⟨b, o, rfl, hbB, hcell⟩ := hl (by intro h; simp [i32s] at h; subst h; simp at hlt)
      have hck : wr.cell? ⟨b, o + k, none⟩ = some (.int .i32 zs[k]) := by
        have := (hb.cell (p := ⟨b, o + k, none⟩) hbB).trans (hcell k (by simpa [i32s] using hlt))
        simpa [i32s] using this
      clear hcell hl
      have hle := encs_le (zs.take k)
      have hle2 : (zs.take k).length ≤ k := List.length_take_le _ _
      generalize hz : zs[k] = z at hck
      have HZ := Lib.hid hz; clear hz
      cases hcz : chB z with
      | true =>
        have hallH := Lib.hid hall; clear hall
        have HC := append_any w.heap.size
        go_wp2_with (first | (go_at_call 44; refine (validRune_any _ _).mono ?_; rintro e w' ⟨rfl, rfl⟩; rw [hcz]) | (go_at_call 45; refine (HC _ _ _ _ hcz _ hown (by omega) hb.size).mono ?_; rintro e w' ⟨v', rfl, hown', ob, hgr⟩))
        go_roundw
        case rel => exact bytesRel_next hlt hallH.out (by rw [HZ.out]; exact hcz) hown hb (by rw [HZ.out]; exact hown') hgr
        case measure => simp [intOf]; omega
      | false =>
        go_wp2_with (first | (go_at_call 44; refine (validRune_any _ _).mono ?_; rintro e w' ⟨rfl, rfl⟩; rw [hcz]))
        go_ret2
        refine ⟨hb, .inr ⟨?_, rfl⟩⟩
        rw [List.all_eq_false]
        exact ⟨z, by rw [← HZ.out]; exact List.getElem_mem _, by simp [hcz]⟩
    · go_wp2
      go_ret2
      have e : zs.take k = zs := List.take_of_length_le (by omega)
      rw [e] at hall hown
      exact ⟨hb, .inl ⟨hall, _, rfl, hown⟩⟩
end Go.Proofs.YtmbmobjlmbjkpaaDoor
