/-
  The check that the program does anything at all: the HMAC of a sentence. Conditions: the tables lie as they were laid.
-/
import Derived.Test.YtlndjmpopoihnaaDoorOf
import Derived.Test.YtlndjmpopoihnaaDoorHex
import Derived.Lib.SlBytesConst
namespace Go.Proofs.YtlndjmpopoihnaaDoor
open Go.RowKit
def foxK : List UInt8 := [107, 101, 121]
def foxB : List UInt8 := [84, 104, 101, 32, 113, 117, 105, 99, 107, 32, 98, 114, 111, 119, 110, 32, 102, 111, 120, 32, 106, 117, 109, 112, 115, 32, 111, 118, 101, 114, 32, 116, 104, 101, 32, 108, 97, 122, 121, 32, 100, 111, 103]
def foxM : List UInt8 := [0xf7, 0xbc, 0x83, 0xf4, 0x30, 0x53, 0x84, 0x24, 0xb1, 0x32, 0x98, 0xe6, 0xaa, 0x6f, 0xb1, 0x43, 0xef, 0x4d, 0x59, 0xa1, 0x49, 0x46, 0x17, 0x59, 0x97, 0x47, 0x9d, 0xbc, 0x2d, 0x1a, 0x3c, 0xd8]
theorem hmac_fox : hmac foxK foxB = foxM := by decide +kernel
theorem hexFox : (⟨(hexB foxM).toArray⟩ : ByteArray) = ⟨#[102, 55, 98, 99, 56, 51, 102, 52, 51, 48, 53, 51, 56, 52, 50, 52, 98, 49, 51, 50, 57, 56, 101, 54, 97, 97, 54, 102, 98, 49, 52, 51, 101, 102, 52, 100, 53, 57, 97, 49, 52, 57, 52, 54, 49, 55, 53, 57, 57, 55, 52, 55, 57, 100, 98, 99, 50, 100, 49, 97, 51, 99, 100, 56]⟩ := rfl
theorem equal_nil (W : World) : Calls Tryd.prog 11 #[.slice none 0 0, .slice none 0 0] W fun e w' => e = .returned (.bool true) ∧ W = w' :=
  equal_any none [] 0 none [] 0 W (fun h => absurd rfl h) (fun h => absurd rfl h) (by simp) (by simp)
theorem mac_fox (w : World) (hT : Tabs w) (E F : Array Value) (hE : E = (u8c foxK).toArray) (hF : F = (u8c foxB).toArray) :
    Calls Tryd.prog 9 #[.slice (some ⟨w.heap.size, 0, none⟩) 3 3, .slice (some ⟨w.heap.size + 1 + 1, 0, none⟩) 1 1] (((w.alloc (.cells E 5 (3, 4))).alloc (.cells F 5 (43, 44))).alloc (.cells #[.slice (some ⟨w.heap.size + 1, 0, none⟩) 43 43] 22))
      fun e w' => e = .returned (.agg (u8c foxM).toArray) ∧ Below w.heap.size w w' := by
  subst hE hF
  have hb : Below w.heap.size w (((w.alloc (.cells (u8c foxK).toArray 5 (3, 4))).alloc (.cells (u8c foxB).toArray 5 (43, 44))).alloc (.cells #[.slice (some ⟨w.heap.size + 1, 0, none⟩) 43 43] 22)) := (((Below.refl _ _).alloc (Nat.le_refl _) _).alloc (by simp) _).alloc (by simp; omega) _
  have h1 : (((w.alloc (.cells (u8c foxK).toArray 5 (3, 4))).alloc (.cells (u8c foxB).toArray 5 (43, 44))).alloc (.cells #[.slice (some ⟨w.heap.size + 1, 0, none⟩) 43 43] 22)).heap[w.heap.size]? = some (.cells (u8c foxK).toArray 5 (3, 4)) :=
    (Below.heap_alloc _ _ _ (by simp; omega)).trans ((Below.heap_alloc _ _ _ (by simp)).trans (heap_alloc_new w _))
  have h2 : (((w.alloc (.cells (u8c foxK).toArray 5 (3, 4))).alloc (.cells (u8c foxB).toArray 5 (43, 44))).alloc (.cells #[.slice (some ⟨w.heap.size + 1, 0, none⟩) 43 43] 22)).heap[w.heap.size + 1]? = some (.cells (u8c foxB).toArray 5 (43, 44)) :=
    (Below.heap_alloc _ _ _ (by simp)).trans (heap_alloc2_new w _ _)
  have h3 : (((w.alloc (.cells (u8c foxK).toArray 5 (3, 4))).alloc (.cells (u8c foxB).toArray 5 (43, 44))).alloc (.cells #[.slice (some ⟨w.heap.size + 1, 0, none⟩) 43 43] 22)).heap[w.heap.size + 1 + 1]? = some (.cells #[.slice (some ⟨w.heap.size + 1, 0, none⟩) 43 43] 22) := by
    have := heap_alloc_new ((w.alloc (.cells (u8c foxK).toArray 5 (3, 4))).alloc (.cells (u8c foxB).toArray 5 (43, 44))) (.cells #[.slice (some ⟨w.heap.size + 1, 0, none⟩) 43 43] 22)
    simpa using this
  generalize ((w.alloc (.cells (u8c foxK).toArray 5 (3, 4))).alloc (.cells (u8c foxB).toArray 5 (43, 44))).alloc (.cells #[.slice (some ⟨w.heap.size + 1, 0, none⟩) 43 43] 22) = W at *
  have lt : ∀ {g : Nat} {o : Obj}, W.heap[g]? = some o → g < W.heap.size := fun {g o} h => by
    rcases Nat.lt_or_ge g W.heap.size with hlt | hge
    · exact hlt
    · rw [Array.getElem?_eq_none hge] at h; cases h
  have h := mac_any (some ⟨w.heap.size, 0, none⟩) foxK 3 (some ⟨w.heap.size + 1 + 1, 0, none⟩) [⟨some ⟨w.heap.size + 1, 0, none⟩, foxB, 43⟩] 1 W
    (fun _ => ⟨_, _, rfl, lt h1, fun j v hv => by rw [Nat.zero_add, cell_of_row _ _ j _ _ _ h1]; exact List.getElem?_toArray.trans hv⟩) (Nat.le_refl _) (by omega) (by simp [foxK])
    (fun h => by cases h) (fun _ => ⟨_, _, rfl, lt h3, fun j v hv => by rw [Nat.zero_add, cell_of_row _ _ j _ _ _ h3]; exact List.getElem?_toArray.trans hv⟩)
    (fun p hp => by
      obtain rfl := List.mem_singleton.1 hp
      exact ⟨Nat.le_refl _, show 43 ≤ 9223372036854775807 by decide, fun _ => ⟨_, _, rfl, lt h2, fun j v hv => by rw [Nat.zero_add, cell_of_row _ _ j _ _ _ h2]; exact List.getElem?_toArray.trans hv⟩⟩)
    (by simp) (by simp [allOf, foxB]) (hT.below hb hT.two)
  have e : allOf [⟨some ⟨w.heap.size + 1, 0, none⟩, foxB, 43⟩] = foxB := by simp [allOf]
  rw [e, hmac_fox] at h
  exact h.mono fun e w' hh => ⟨hh.1, hb.trans (hh.2.mono hb.size)⟩
set_option maxHeartbeats 1000000 in
set_option maxRecDepth 100000 in
theorem awake_any (w : World) (hT : Tabs w) : Calls Tryd.prog 7 #[] w fun e w' => e = .returned (.bool true) ∧ Below w.heap.size w w' := by
  have HM := Lib.hid (mac_fox w hT)
  clear hT
  have kc := fun (w : World) (C : Array Value) (n c : Nat) => Lib.run_convert_bytes_const (P := Tryd.prog) w 22 5 C n c Tryd.underlying22 Tryd.underlying5
  have kc2 : ∀ (O : Obj) (C : Array Value) (n c : Nat), (convert 22 22 (.slice (some ⟨w.heap.size + 1, 0, none⟩) n c)).run Tryd.prog ((w.alloc O).alloc (.cells C 5)) = .ok (.slice (some ⟨w.heap.size + 1, 0, none⟩) n c) ((w.alloc O).alloc (.cells C 5 (C.size, C.size + 1))) := fun O C n c => by
    have := kc (w.alloc O) C n c
    simpa using this
  go_enter Tryd.func7, Tryd.ntmps7
  go_wp2_with fail
  refine (HM.out _ _ rfl rfl).mono ?_
  rintro e w1 ⟨rfl, hb1⟩
  clear HM kc kc2
  go_wp2_with fail
  refine (hex_any foxM rfl w1).mono ?_
  rintro e w2 ⟨rfl, hb2⟩
  rw [hexFox]
  have hb3 := hb1.trans (hb2.mono hb1.size)
  clear hb1 hb2
  go_wp2_with fail
  refine (equal_nil w2).mono ?_
  rintro e w3 ⟨rfl, rfl⟩
  go_wp2
  go_ret
  exact ⟨rfl, hb3⟩
end Go.Proofs.YtlndjmpopoihnaaDoor
