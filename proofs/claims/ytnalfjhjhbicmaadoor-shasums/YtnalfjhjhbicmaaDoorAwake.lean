/-
  The check that the program does anything at all: the sum of "abc". Conditions: the tables lie as they were laid.
-/
import Derived.Test.YtnalfjhjhbicmaaDoorSum
import Derived.Test.YtnalfjhjhbicmaaDoorHex
import Derived.Lib.SlBytesConst
namespace Go.Proofs.YtnalfjhjhbicmaaDoor
open Go.RowKit
theorem sha_abc : sha [97, 98, 99] = [0xba, 0x78, 0x16, 0xbf, 0x8f, 0x01, 0xcf, 0xea, 0x41, 0x41, 0x40, 0xde, 0x5d, 0xae, 0x22, 0x23, 0xb0, 0x03, 0x61, 0xa3, 0x96, 0x17, 0x7a, 0x9c, 0xb4, 0x10, 0xff, 0x61, 0xf2, 0x00, 0x15, 0xad] := by
  decide +kernel
theorem hexAbc {A : Option Addr} : (⟨(hexB (sha (allOf [⟨A, [97, 98, 99], 3⟩]))).toArray⟩ : ByteArray) = ⟨#[98, 97, 55, 56, 49, 54, 98, 102, 56, 102, 48, 49, 99, 102, 101, 97, 52, 49, 52, 49, 52, 48, 100, 101, 53, 100, 97, 101, 50, 50, 50, 51, 98, 48, 48, 51, 54, 49, 97, 51, 57, 54, 49, 55, 55, 97, 57, 99, 98, 52, 49, 48, 102, 102, 54, 49, 102, 50, 48, 48, 49, 53, 97, 100]⟩ := by
  have e : allOf [⟨A, [97, 98, 99], 3⟩] = [97, 98, 99] := rfl
  rw [e, sha_abc]
  rfl
set_option maxHeartbeats 1000000 in
theorem awake_any (w : World) (hT : Tabs w) : Calls Tryd.prog 7 #[] w fun e w' => e = .returned (.bool true) ∧ Below w.heap.size w w' := by
  have HT := Lib.hid hT
  clear hT
  have HB : Hid (Below w.heap.size w ((w.alloc (Obj.cells #[Value.int .u8 97, Value.int .u8 98, Value.int .u8 99] 5 (3, 4))).alloc (Obj.cells #[Value.slice (some ⟨w.heap.size, 0, none⟩) 3 3] 22))) := ((Below.refl _ _).alloc (Nat.le_refl _) _).alloc (by simp) _
  have HSUM : Hid _ := Lib.hid (sum_any (some ⟨w.heap.size + 1, 0, none⟩) [⟨some ⟨w.heap.size, 0, none⟩, [97, 98, 99], 3⟩] 1 ((w.alloc (Obj.cells #[Value.int .u8 97, Value.int .u8 98, Value.int .u8 99] 5 (3, 4))).alloc (Obj.cells #[Value.slice (some ⟨w.heap.size, 0, none⟩) 3 3] 22))
    (fun _ => ⟨_, _, rfl, by simp, fun j v hv => by rw [Nat.zero_add, cell_of_row _ _ j _ _ _ (heap_alloc2_new w _ _)]; exact List.getElem?_toArray.trans hv⟩)
    (fun p hp => by
      obtain rfl := List.mem_singleton.1 hp
      exact ⟨Nat.le_refl _, show 3 ≤ 9223372036854775807 by decide, fun _ => ⟨_, _, rfl, by simp; omega, fun j v hv => by rw [Nat.zero_add, cell_of_row _ _ j _ _ _ (heap_alloc2_old w _ _)]; exact List.getElem?_toArray.trans hv⟩⟩)
    (show 1 ≤ 1000000000 by decide) (show 3 ≤ 1000000000000000000 by decide) (HT.out.below HB.out HT.out.two))
  have kc := fun (w : World) (C : Array Value) (n c : Nat) => Lib.run_convert_bytes_const (P := Tryd.prog) w 22 5 C n c Tryd.underlying22 Tryd.underlying5
  go_enter Tryd.func7, Tryd.ntmps7
  go_wp2_with fail
  refine HSUM.out.mono ?_
  rintro e w1 ⟨rfl, hb1⟩
  have hb2 := HB.out.trans (hb1.mono HB.out.size)
  clear hb1 HSUM HB
  go_wp2_with fail
  refine (hex_any _ rfl w1).mono ?_
  rintro e w2 ⟨rfl, hb3⟩
  rw [hexAbc]
  have hb4 := hb2.trans (hb3.mono hb2.size)
  clear hb3 hb2
  go_wp2
  go_ret
  exact ⟨rfl, hb4⟩
end Go.Proofs.YtnalfjhjhbicmaaDoor
