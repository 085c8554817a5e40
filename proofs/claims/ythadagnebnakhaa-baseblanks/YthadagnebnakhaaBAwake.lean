/-
  The laws' own look whether the program does anything. Conditions: none.
-/
import Derived.Test.YthadagnebnakhaaBRDec
import Derived.Lib.SlBytesConst
namespace Go.Proofs.Ythadagnebnakhaa
open Go.RowKit
set_option linter.unusedVariables false
theorem enc_one (w : World) (W : World) (hW : W = ((w.alloc (.cells #[.int .u8 97] 5 (1, 2))).alloc (.cells #[.slice (some ⟨w.heap.size, 0, none⟩) 1 1] 22))) :
    Calls Try.prog 9 #[.slice (some ⟨w.heap.size + 1, 0, none⟩) 1 1] W fun e w' => e = .returned (.string ⟨#[89, 81, 61, 61]⟩) ∧ Below w.heap.size w w' := by
  subst hW
  have h1 : ((w.alloc (.cells #[.int .u8 97] 5 (1, 2))).alloc (.cells #[.slice (some ⟨w.heap.size, 0, none⟩) 1 1] 22)).heap[w.heap.size]? = some (.cells #[.int .u8 97] 5 (1, 2)) := (Below.heap_alloc _ _ _ (by simp)).trans (heap_alloc_last w _)
  have h2 : ((w.alloc (.cells #[.int .u8 97] 5 (1, 2))).alloc (.cells #[.slice (some ⟨w.heap.size, 0, none⟩) 1 1] 22)).heap[w.heap.size + 1]? = some (.cells #[.slice (some ⟨w.heap.size, 0, none⟩) 1 1] 22) := heap_alloc2_new w _ _
  have hb := ((Below.refl w.heap.size w).alloc (Nat.le_refl _) (.cells #[.int .u8 97] 5 (1, 2))).alloc (by simp) (.cells #[.slice (some ⟨w.heap.size, 0, none⟩) 1 1] 22)
  generalize (w.alloc (.cells #[.int .u8 97] 5 (1, 2))).alloc (.cells #[.slice (some ⟨w.heap.size, 0, none⟩) 1 1] 22) = W at *
  have lt : ∀ {g : Nat} {o : Obj}, W.heap[g]? = some o → g < W.heap.size := fun {g o} h => by
    rcases Nat.lt_or_ge g W.heap.size with hlt | hge
    · exact hlt
    · rw [Array.getElem?_eq_none hge] at h; cases h
  have h := encode_any (some ⟨w.heap.size + 1, 0, none⟩) [⟨some ⟨w.heap.size, 0, none⟩, [97], 1⟩] 1 W
    (fun _ => ⟨_, _, rfl, lt h2, fun j v hv => by rw [Nat.zero_add, cell_of_row _ _ j _ _ _ h2]; exact List.getElem?_toArray.trans hv⟩)
    (fun p hp => by
      obtain rfl := List.mem_singleton.1 hp
      exact ⟨Nat.le_refl _, show 1 ≤ 9223372036854775807 by decide, fun _ => ⟨_, _, rfl, lt h1, fun j v hv => by rw [Nat.zero_add, cell_of_row _ _ j _ _ _ h1]; exact List.getElem?_toArray.trans hv⟩⟩)
    (by simp) (by simp [allOf])
  have e : allOf [⟨some ⟨w.heap.size, 0, none⟩, [97], 1⟩] = [97] := by simp [allOf]
  rw [e, enc_a] at h
  exact h.mono fun e w' hh => ⟨hh.1, hb.trans (hh.2.mono hb.size)⟩
set_option maxHeartbeats 1000000 in
set_option maxRecDepth 100000 in
theorem awake_any (w : World) : Calls Try.prog 8 #[] w fun e w' => e = .returned (.bool true) ∧ Below w.heap.size w w' := by
  have HD : Hid (Calls Try.prog 10 #[.string ⟨#[89, 81, 61, 61]⟩] w fun e w' => DecAns w.heap.size [89, 81, 61, 61] e w' ∧ Below w.heap.size w w') := decode_any [89, 81, 61, 61] w (by decide)
  go_enter Try.func8, Try.ntmps8
  go_wp2_with fail
  refine HD.out.mono ?_
  rintro e w1 ⟨⟨b, v, hb, rfl, hown⟩ | ⟨hb, _⟩, hb1⟩
  case inr => rw [dec_a] at hb; cases hb
  rw [dec_a] at hb
  injection hb with hb
  subst hb
  obtain ⟨A', cap', hv, hcl, hcm, hnil, hli⟩ := own_full hown rfl
  have hcv := conv_lies cap' hli
  have kc := fun (w : World) (C : Array Value) (n c : Nat) => Lib.run_convert_bytes_const (P := Try.prog) w 22 5 C n c Try.underlying22 Try.underlying5
  have HE := Lib.hid (enc_one w1)
  subst hv
  clear HD hown hli
  change (convert 22 9 (.slice A' 1 cap')).run Try.prog w1 = .ok (.string ⟨#[97]⟩) w1 at hcv
  go_wp2_with fail
  refine (HE.out _ rfl).mono ?_
  rintro e w2 ⟨rfl, hb2⟩
  have hb3 := hb1.trans (hb2.mono hb1.size)
  clear hb1 hb2 HE kc hcv
  go_wp2
  go_ret
  exact ⟨rfl, hb3⟩
/-- The parts have just been laid. -/
theorem encode_of (ps : List Part) (g : Nat) (w : World) (hg : g = w.heap.size) (hps : ∀ p ∈ ps, p.lies w) (hl : ps.length ≤ 1000000) (hn : (allOf ps).length ≤ 1000000) :
    Calls Try.prog 9 #[.slice (some ⟨g, 0, none⟩) ps.length ps.length] (w.alloc (.cells (ps.map Part.val).toArray 22)) fun e w' => e = .returned (.string ⟨(enc (allOf ps)).toArray⟩) ∧ Below w.heap.size w w' := by
  have hb := (Below.refl w.heap.size w).alloc (Nat.le_refl _) (.cells (ps.map Part.val).toArray 22)
  refine (encode_any (some ⟨g, 0, none⟩) ps ps.length _ (fun _ => ⟨g, 0, rfl, by simp; omega, fun j v hv => ?_⟩) (fun p hp => (hps p hp).later hb) hl hn).mono fun e w' ⟨he, hb'⟩ => ⟨he, hb.trans (hb'.mono hb.size)⟩
  subst hg
  rw [Nat.zero_add, cell_of_row _ _ j _ _ _ (heap_alloc_last w _), List.getElem?_toArray]
  exact hv
/-- One part that has just been laid. -/
theorem encode_part (A : Option Addr) (b : List UInt8) (cap : Nat) (w : World) (hA : Lies w A b) (hc : b.length ≤ cap) (hcm : cap ≤ 9223372036854775807) (hn : b.length ≤ 1000000) :
    Calls Try.prog 9 #[.slice (some ⟨w.heap.size, 0, none⟩) 1 1] (w.alloc (.cells #[.slice A b.length cap] 22)) fun e w' => e = .returned (.string ⟨(enc b).toArray⟩) ∧ Below w.heap.size w w' := by
  have h := encode_of [⟨A, b, cap⟩] w.heap.size w rfl (fun p hp => by obtain rfl := List.mem_singleton.1 hp; exact ⟨hc, hcm, hA⟩) (by simp) (by simp [allOf]; omega)
  have e : allOf [⟨A, b, cap⟩] = b := by simp [allOf]
  rw [e] at h
  exact h
end Go.Proofs.Ythadagnebnakhaa
