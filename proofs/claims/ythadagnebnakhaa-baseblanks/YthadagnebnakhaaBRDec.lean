/-
  The document's own reading of letters. Conditions: the text is not too long.
-/
import Derived.Test.YthadagnebnakhaaBREnc
namespace Go.Proofs.Ythadagnebnakhaa
open Go.RowKit
set_option linter.unusedVariables false
def RDR (t : List UInt8) (w : World) (v4 v5 v6 i : Value) (wr : World) : Prop :=
  ∃ (k : Nat) (out : List UInt8) (z n : Nat), k ≤ t.length ∧ i = .int .i64 k ∧ v5 = .int .i64 z ∧ v6 = .int .i64 n ∧ out.length ≤ k ∧ n ≤ 7 ∧ z < 1048640 ∧ dl (t.drop k) z n out = dl t 0 0 [] ∧ OWN w out v4 wr
theorem bytes_ne {a b : List UInt8} (h : a ≠ b) : ((⟨a.toArray⟩ : ByteArray).toList == (⟨b.toArray⟩ : ByteArray).toList) = false := by
  rw [ByteArray.toList_mk, ByteArray.toList_mk]; simpa using h
theorem OWN.later {w wr w' : World} {T : List UInt8} {v : Value} (h : OWN w T v wr) (hb : Below wr.heap.size wr w') : OWN w T v w' := by
  refine ⟨?_, h.bl.trans (hb.mono h.bl.size)⟩
  obtain ⟨h1, h2 | ⟨g, cap, cur, hv, hg, hh, r⟩⟩ := h.own
  · exact ⟨h1, .inl h2⟩
  · refine ⟨h1, .inr ⟨g, cap, cur, hv, hg, ?_, r⟩⟩
    have hlt : g < wr.heap.size := by
      rcases Nat.lt_or_ge g wr.heap.size with hlt | hge
      · exact hlt
      · rw [Array.getElem?_eq_none hge] at hh; cases hh
    rw [hb.block g hlt]; exact hh
theorem OWN.from {w w1 wr : World} {T : List UInt8} {v : Value} (h : OWN w1 T v wr) (hb : Below w.heap.size w w1) : OWN w T v wr := ⟨own_le h.own hb.size, hb.trans (h.bl.mono hb.size)⟩
theorem wrap_v8 (n : Nat) : IntKind.u8.wrap (n : Int) = v8 (UInt8.ofNat n) := by
  unfold v8; rw [IntKind.wrap_u8', UInt8.toNat_ofNat']; omega
set_option maxHeartbeats 2000000 in
theorem refdec_any (s : List UInt8) (w : World) (hn : s.length ≤ 100000) :
    Calls Try.prog 12 #[.string ⟨s.toArray⟩] w fun e w' => DecAns w.heap.size s e w' ∧ Below w.heap.size w w' := by
  have HSQ := Lib.hid (squeeze_any s w (by omega))
  go_enter Try.func12, Try.ntmps12
  go_wp2_with fail
  refine HSQ.out.mono ?_
  rintro e w1 ⟨rfl, hb1⟩
  have hsl := sq_len s
  have HDEC : Hid (dec s = match dl (sq s) 0 0 [] with | none => none | some b => if enc b = sq s then some b else none) := rfl
  generalize sq s = t at *
  obtain ⟨S, hS⟩ : ∃ S : ByteArray, ⟨t.toArray⟩ = S := ⟨_, rfl⟩
  obtain ⟨N, hN⟩ : ∃ N, t.length = N := ⟨_, rfl⟩
  have hsz : S.size = N := by rw [← hS, ← hN]; rfl
  have HIX : Hid (∀ k, k < N → ∀ w, (Instr.index 9 (.string S) (.int .i64 (k : Int))).run Try.prog w = .ok (.int .u8 (v8 (t.getD k 0))) w) := fun k hk w => by
    rw [← hS]; exact index_str t .i64 (by rw [hN]; exact hk) w
  have HN := Lib.hid hN
  have HS := Lib.hid hS
  rw [hS]
  rw [hN] at hsl
  clear hS hN HSQ
  go_wp2
  go_loopw [4, 5, 6, 13] (RDR t w1) (fun _ _ _ i _ => N - (intOf i).toNat)
  case atStart => exact ⟨0, [], 0, 0, by omega, rfl, rfl, rfl, by simp, by omega, by omega, rfl, OWN.start w1⟩
  case round =>
    obtain ⟨k, out, z, n, hk, rfl, rfl, rfl, hout, hn7, hz, hdl, hO⟩ := hrel
    rw [HN.out] at hk
    have HEND : Hid ((k < N → t.getD k 0 = 61) → dl t 0 0 [] = some out) := fun h => by
      rw [← hdl]
      rcases Nat.lt_or_ge k N with hlt | hge
      · rw [drop_at (by rw [HN.out]; exact hlt), h hlt, dl_end]
      · rw [List.drop_eq_nil_of_le (by rw [HN.out]; exact hge), dl]
    obtain ⟨A', cap', hv, hcl, hcm, hnil, hli⟩ := own_full hO.own rfl
    have HRE := Lib.hid (refenc_any A' out cap' wr hli (by omega))
    by_cases hlt : k < N
    · have hix := HIX.out k hlt
      have hkz : (k : Int) < (N : Int) := by omega
      have hdr := drop_at (b := t) (p := k) (by rw [HN.out]; exact hlt)
      rw [hdr] at hdl
      generalize t.getD k 0 = c at *
      clear hdr
      by_cases h61 : c = 61
      · subst h61
        have hv61 : v8 61 = 61 := rfl
        have HDL : Hid (dl t 0 0 [] = some out) := HEND.out (fun _ => rfl)
        have HO := Lib.hid hO
        clear hdl hO hli HEND HIX
        subst hv
        go_wp2_with fail
        refine HRE.out.mono ?_
        rintro e w2 ⟨rfl, hb2⟩
        by_cases he : enc out = t
        · rw [he, HS.out]
          go_wp2
          go_ret2
          exact ⟨.inl ⟨out, _, by rw [HDEC.out, HDL.out]; simp [he], rfl, ((HO.out.later hb2).from hb1).own⟩, ((HO.out.later hb2).from hb1).bl⟩
        · have hne := bytes_ne he
          rw [HS.out] at hne
          generalize (⟨(enc out).toArray⟩ : ByteArray) = E at *
          go_wp2
          go_ret2
          exact ⟨.inr ⟨by rw [HDEC.out, HDL.out]; simp [he], rfl⟩, ((HO.out.later hb2).from hb1).bl⟩
      · have hv61 : ¬ v8 c = 61 := fun e => h61 (v8_inj.1 (e.trans (show (61 : Int) = v8 61 from rfl)))
        have hv61b : (v8 c == 61) = false := by simpa using hv61
        rw [dl, if_neg h61] at hdl
        have HNU := Lib.hid (number_any c wr)
        have HO := Lib.hid hO
        clear hO hli HEND HIX HRE hv
        cases hnum : num c with
        | none =>
          have hI : numI c = -1 := by unfold numI; rw [hnum]
          rw [hnum] at hdl
          have HDL : Hid (dl t 0 0 [] = none) := hdl.symm
          clear hdl
          go_wp2_with fail
          refine HNU.out.mono ?_
          rintro e w2 ⟨rfl, rfl⟩
          rw [hI]
          go_wp2
          go_ret2
          exact ⟨.inr ⟨by rw [HDEC.out, HDL.out], rfl⟩, (HO.out.from hb1).bl⟩
        | some x =>
          have hI : numI c = (x : Int) := by unfold numI; rw [hnum]
          have hx := (num_some hnum).1
          rw [hnum] at hdl
          dsimp only at hdl
          have hxz : ¬ (x : Int) < 0 := by omega
          have hxz1 := decide_eq_false hxz
          obtain ⟨z', hz'⟩ : ∃ z', z * 64 % 1048576 + x = z' := ⟨_, rfl⟩
          rw [hz'] at hdl
          have ez : (z : Int) * 64 % 1048576 + (x : Int) = (z' : Int) := by omega
          have hzl : z' < 1048640 := by omega
          clear hz'
          by_cases h8 : n + 6 ≥ 8
          · rw [if_pos h8] at hdl
            obtain ⟨m, hm⟩ : ∃ m, n + 6 - 8 = m := ⟨_, rfl⟩
            rw [hm] at hdl
            have hm7 : m ≤ 5 := by omega
            have em : (n : Int) + 6 - 8 = (m : Int) := by omega
            have h8z : (8 : Int) ≤ (n : Int) + 6 := by omega
            have e6 : (z' : Int) / 2 ^ m = ((z' / 2 ^ m : Nat) : Int) := by push_cast; rfl
            have e7 := wrap_v8 (z' / 2 ^ m)
            generalize z' / 2 ^ m = y at *
            have HDL := Lib.hid hdl
            have hol : out.length + 1 ≤ 1000000000000 := by omega
            clear hdl
            go_wp2_with fail
            refine HNU.out.mono ?_
            rintro e w2 ⟨rfl, rfl⟩
            rw [hI]
            go_wp2_with (at_builtin; refine app_byteO rfl _ _ rfl w1 out u4 rfl HO.out (UInt8.ofNat y) _ rfl rfl hol ?_; intro v3 w3 hO3)
            go_roundw
            case rel => exact ⟨k + 1, _, z', m, by rw [HN.out]; omega, by go_num, rfl, rfl, by simp; omega, by omega, hzl, HDL.out, hO3⟩
            case measure => simp [intOf]; omega
          · rw [if_neg h8] at hdl
            have h8z : ¬ (8 : Int) ≤ (n : Int) + 6 := by omega
            have h8z1 := decide_eq_false h8z
            have HDL := Lib.hid hdl
            clear hdl
            go_wp2_with fail
            refine HNU.out.mono ?_
            rintro e w2 ⟨rfl, rfl⟩
            rw [hI]
            go_wp2
            go_roundw
            case rel => exact ⟨k + 1, out, z', n + 6, by rw [HN.out]; omega, by go_num, rfl, by go_num, by omega, by omega, hzl, HDL.out, HO.out⟩
            case measure => simp [intOf]; omega
    · have hkz : ¬ (k : Int) < (N : Int) := by omega
      have hkz1 := decide_eq_false hkz
      have HDL : Hid (dl t 0 0 [] = some out) := HEND.out (fun h => absurd h hlt)
      have HO := Lib.hid hO
      clear hdl hO hli HEND HIX
      subst hv
      go_wp2_with fail
      refine HRE.out.mono ?_
      rintro e w2 ⟨rfl, hb2⟩
      by_cases he : enc out = t
      · rw [he, HS.out]
        go_wp2
        go_ret2
        exact ⟨.inl ⟨out, _, by rw [HDEC.out, HDL.out]; simp [he], rfl, ((HO.out.later hb2).from hb1).own⟩, ((HO.out.later hb2).from hb1).bl⟩
      · have hne := bytes_ne he
        rw [HS.out] at hne
        generalize (⟨(enc out).toArray⟩ : ByteArray) = E at *
        go_wp2
        go_ret2
        exact ⟨.inr ⟨by rw [HDEC.out, HDL.out]; simp [he], rfl⟩, ((HO.out.later hb2).from hb1).bl⟩
end Go.Proofs.Ythadagnebnakhaa
