/-
  name.Is: whether a text is a name. Conditions: the tables lie as they are laid; the text is not too long.
-/
import Derived.Test.YtalcmhngebobnaaDoorNText
import Derived.Test.YtalcmhngebobnaaDoorChars
namespace Go.Proofs.YtalcmhngebobnaaDoor
open Go.RowKit
set_option linter.unusedVariables false
open Classical in
/-- Is a text a name? -/
noncomputable def nmB (s : List UInt8) : Bool := decide (nm s)
theorem nmB_iff {s : List UInt8} : nmB s = true ↔ nm s := by simp [nmB]
theorem nmB_no {s : List UInt8} (h : ¬ nm s) : nmB s = false := by simp [nmB, h]
theorem nmB_yes {s : List UInt8} (h : nm s) : nmB s = true := nmB_iff.2 h
theorem nm_valid {s : List UInt8} (h : nm s) : Lib.validD s = true := by
  obtain ⟨l, _, hn, e⟩ := h
  exact (valid_iff s).2 ⟨l, nmL_ch hn, e⟩
/-- Of known characters: a name, just if they are one's. -/
theorem nm_encs {l : List Int} (hl : l.all chB = true) : nm (encBs l) ↔ l ≠ [] ∧ nmL l = true := by
  constructor
  · rintro ⟨k, hk, hn, e⟩
    obtain rfl := encBs_inj hl (nmL_ch hn) e
    exact ⟨hk, hn⟩
  · rintro ⟨h1, h2⟩
    exact ⟨l, h1, h2, rfl⟩
theorem nmB_encs {l : List Int} (hl : l.all chB = true) (r : Int) (t : List Int) (e : l = r :: t) : nmB (encBs l) = (begB r && t.all staB) := by
  rw [Bool.eq_iff_iff, nmB_iff, nm_encs hl, e]
  simp [nmL]
/-- A slice of numbers without its first one. -/
theorem slice_one {w : World} {B : Nat} {A : Option Addr} {r : Int} {t : List Int} {cap : Nat} (hl : Lies w B A (i32s (r :: t))) (hc : (r :: t).length ≤ cap) :
    ∃ A', (∀ W, (Instr.slice 74 (.slice A (t.length + 1) cap) (some (.int .i64 1)) none none).run Tryd.prog W = .ok (.slice A' t.length (cap - 1)) W) ∧ Lies w B A' (i32s t) := by
  have hs : ∀ w, (sizeOf 21).run Tryd.prog w = .ok 1 w := fun w => by kernel_rfl
  refine ⟨if cap = 1 then A else A.map (·.add 1), fun W => ?_, fun hne => ?_⟩
  · have h1 : (1 : Int) ≤ (t.length : Int) + 1 := by omega
    simp [Instr.slice, run_underlying Tryd.underlying74, Instr.sliceBounds, Instr.sliceBound, asIntOf, hs, h1]
  · obtain ⟨b, o, rfl, hb, hcell⟩ := hl (by simp [i32s])
    have ht : 0 < t.length := by
      rcases Nat.eq_zero_or_pos t.length with h | h
      · rw [List.eq_nil_of_length_eq_zero h] at hne; exact absurd rfl hne
      · exact h
    rw [List.length_cons] at hc
    refine ⟨b, o + 1, by rw [if_neg (by omega)]; simp [Addr.add], hb, fun j hj => ?_⟩
    have hj' : j < t.length := by simpa [i32s] using hj
    have := hcell (j + 1) (by simp [i32s]; omega)
    rw [Nat.add_assoc, Nat.add_comm 1 j]
    simpa [i32s] using this
/-- What holds at each round's head. -/
def IsRel (w : World) (t : List Int) (i : Value) (wr : World) : Prop := ∃ k : Nat, k ≤ t.length ∧ i = .int .i64 k ∧ (t.take k).all staB = true ∧ Below w.heap.size w wr
theorem all_no {t : List Int} {k : Nat} (h : k < t.length) (hz : staB t[k] = false) : t.all staB = false := by
  rw [List.all_eq_false]
  exact ⟨t[k], List.getElem_mem _, by simp [hz]⟩
theorem all_more {t : List Int} {k : Nat} (h : k < t.length) (ha : (t.take k).all staB = true) (hz : staB t[k] = true) : (t.take (k + 1)).all staB = true := by
  rw [List.take_succ_eq_append_getElem h, List.all_append, ha]; simp [hz]
set_option maxHeartbeats 4000000 in
theorem is_any (S : ByteArray) (hlen : S.size ≤ 2000000) (w : World) (hT : NTabs w) : Calls Tryd.prog 41 #[.string S] w fun e w' => e = .returned (.bool (nmB S.data.toList)) ∧ Below w.heap.size w w' := by
  have h5 := hT.five
  have HT := Lib.hid hT
  obtain ⟨c, W, hcv, hcell, hsz, hbW, hc1, hc2⟩ := conv_text S (by omega) w
  have hlies : Lies W W.heap.size (some ⟨w.heap.size, 0, none⟩) (u8c S.data.toList) := lies_of hsz hcell
  have HCH : Hid (Calls Tryd.prog 53 #[.slice (some ⟨w.heap.size, 0, none⟩) S.size c] W fun e w' => UCharsAns S.data.toList e w' ∧ Below W.heap.size W w') := by
    have h := chars_any (some ⟨w.heap.size, 0, none⟩) c S.data.toList W (hT.below h5 hbW).u hlies (by rw [← ba_size]; exact hc1) hc2 (by rw [← ba_size]; exact hlen)
    rwa [← ba_size] at h
  obtain ⟨B, hB⟩ : ∃ B, nmB S.data.toList = B := ⟨_, rfl⟩
  rw [hB]
  have HB := Lib.hid hB
  clear hB hcell hlies hc1 hc2 hT
  go_enter Tryd.func41, Tryd.ntmps41
  go_wp2_with fail
  refine HCH.out.mono ?_
  rintro e w1 ⟨⟨l, A, cap, hall, hbs, rfl, hli, hlc⟩ | ⟨hv, rfl⟩, hb1⟩
  · have hbw : Below w.heap.size w w1 := hbW.trans (hb1.mono hbW.size)
    have hbws := hbw.size
    have hll : l.length ≤ 2000000 := by have := encBs_long l; rw [← hbs, ← ba_size] at this; omega
    rw [hbs] at HB
    clear hb1 hbW HCH hcv hbs
    cases l with
    | nil =>
      have hF : false = B := by rw [← HB.out]; exact (nmB_no (fun h => ((nm_encs hall).1 h).1 rfl)).symm
      subst hF
      clear HB hall hli
      go_wp2
      go_ret
      exact ⟨rfl, hbw⟩
    | cons r t =>
      have hBB := HB.out
      rw [nmB_encs hall r t rfl] at hBB
      have HBB := Lib.hid hBB
      obtain ⟨A', hsl, hli'⟩ := slice_one hli hlc
      obtain ⟨b, o, rfl, hbb, hcc⟩ := hli (by simp [i32s])
      have c0 : w1.cell? ⟨b, o, none⟩ = some (.int .i32 r) := by
        have := hcc 0 (by simp [i32s])
        simpa [i32s] using this
      have HLI := Lib.hid hli'
      have HBG := Lib.hid (begins_any r w1 (HT.out.below h5 hbw))
      have hlen' : (r :: t).length = t.length + 1 := rfl
      have htl : t.length ≤ 2000000 := by rw [hlen'] at hll; omega
      rw [hlen']
      have htz : ((t.length : Int) + 1 == 0) = false := by rw [beq_eq_false_iff_ne]; omega
      have htp : (0 : Int) < (t.length : Int) + 1 := by omega
      clear HB hBB hcc hli hli' hall hlc hlen' hll
      cases hbg : begB r with
      | false =>
        rw [hbg] at HBG HBB
        have hF : false = B := HBB.out
        subst hF
        clear HBB
        go_wp2_with fail
        refine HBG.out.mono ?_
        rintro e w2 ⟨rfl, hb2⟩
        go_wp2
        go_ret
        exact ⟨rfl, hbw.trans (hb2.mono hbws)⟩
      | true =>
        rw [hbg] at HBG HBB
        have HBC : Hid (t.all staB = B) := HBB.out
        clear HBB
        go_wp2_with fail
        refine HBG.out.mono ?_
        rintro e w2 ⟨rfl, hb2⟩
        have hbw2 := hbw.trans (hb2.mono hbws)
        have hbws2 := hbw2.size
        have HLI2 := Lib.hid ((HLI.out.below hb2).mono hb2.size)
        clear HBG HLI c0 hb2
        go_wp2
        clear hsl
        go_loopw [30] (IsRel w2 t) (fun i _ => t.length - (intOf i).toNat)
        case atStart => exact ⟨0, Nat.zero_le _, rfl, rfl, Below.refl _ _⟩
        case round =>
          obtain ⟨k, hk, rfl, hal, hbr⟩ := hrel
          have hbt := hbw2.trans (hbr.mono hbws2)
          have HAL := Lib.hid hal
          clear hal
          by_cases hlt : k < t.length
          · obtain ⟨b', o', rfl, hbb', hcc⟩ := HLI2.out (by intro h; simp [i32s] at h; subst h; simp at hlt)
            have hck : wr.cell? ⟨b', o' + k, none⟩ = some (.int .i32 t[k]) := by
              have := (hbr.cell (p := ⟨b', o' + k, none⟩) hbb').trans (hcc k (by simpa [i32s] using hlt))
              simpa [i32s] using this
            clear hcc
            have HST := Lib.hid (stands_any t[k] wr (HT.out.below h5 hbt))
            obtain ⟨z, hz⟩ : ∃ z, t[k] = z := ⟨_, rfl⟩
            rw [hz] at hck HST
            have HZ := Lib.hid hz
            clear hz
            have hkz : (k : Int) < (t.length : Int) := by omega
            cases hst : staB z with
            | false =>
              rw [hst] at HST
              have hF : false = B := by rw [← HBC.out]; exact (all_no hlt (by rw [HZ.out]; exact hst)).symm
              subst hF
              clear HBC
              go_wp2_with fail
              refine HST.out.mono ?_
              rintro e w3 ⟨rfl, hb3⟩
              go_wp2
              go_ret
              exact ⟨rfl, hbt.trans (hb3.mono hbt.size)⟩
            | true =>
              rw [hst] at HST
              go_wp2_with fail
              refine HST.out.mono ?_
              rintro e w3 ⟨rfl, hb3⟩
              go_wp2
              go_roundw
              case rel => exact ⟨k + 1, hlt, by go_num, all_more hlt HAL.out (by rw [HZ.out]; exact hst), hbr.trans (hb3.mono hbr.size)⟩
              case measure => simp [intOf]; omega
          · have hT : true = B := by
              rw [← HBC.out]
              have := HAL.out
              rw [List.take_of_length_le (by omega)] at this
              exact this.symm
            subst hT
            have hkz : ¬ (k : Int) < (t.length : Int) := by omega
            go_wp2
            go_ret
            exact ⟨rfl, hbt⟩
  · have hbw : Below w.heap.size w w1 := hbW.trans (hb1.mono hbW.size)
    have hF : false = B := by
      rw [← HB.out]
      exact (nmB_no (fun h => by rw [nm_valid h] at hv; cases hv)).symm
    subst hF
    clear hv HB HCH hcv
    go_wp2
    go_ret
    exact ⟨rfl, hbw⟩
end Go.Proofs.YtalcmhngebobnaaDoor
