/-
  chars.replaced: a text with what its references are in their places. Conditions: the tables lie as they are laid; the text is not too long.
-/
import Derived.Test.YtmbmobjlmbjkpaaDoorText
import Derived.Test.YtmbmobjlmbjkpaaDoorCMeant
namespace Go.Proofs.YtmbmobjlmbjkpaaDoor
open Go.RowKit
set_option linter.unusedVariables false
open Classical in
/-- Is it text? -/
noncomputable def txtB (s : List UInt8) : Bool := decide (txt s)
theorem txtB_iff {s : List UInt8} : txtB s = true ↔ txt s := by simp [txtB]
theorem txtB_no {s : List UInt8} (h : txtB s = false) : ¬ txt s := fun h' => by rw [txtB_iff.2 h'] at h; cases h
theorem text_txt {s : List UInt8} {e : Ending} (h : TextAns s e) : e = .returned (.bool (txtB s)) := by
  rcases h with ⟨l, h1, rfl, rfl⟩ | ⟨h1, rfl⟩
  · congr 2
    rw [Bool.eq_iff_iff, txtB_iff, txt_encs h1]
  · congr 2
    cases ht : txtB s with
    | false => rfl
    | true => exact absurd (txtB_iff.1 ht) (txt_not h1)
/-- What is answered: a text, and true; or none, and false. -/
def Ans (o : Option (List UInt8)) (e : Ending) : Prop :=
  (∃ Y : ByteArray, o = some Y.data.toList ∧ e = .returned (.tuple #[.string Y, .bool true])) ∨ (o = none ∧ e = .returned (.tuple #[.string ⟨#[]⟩, .bool false]))
theorem Ans.same {o : Option (List UInt8)} {e e' : Ending} (h : Ans o e) (h' : Ans o e') : e = e' := by
  rcases h with ⟨Y, h1, rfl⟩ | ⟨h1, rfl⟩
  · rcases h' with ⟨Z, h2, rfl⟩ | ⟨h2, _⟩
    · rw [h1] at h2
      injection h2 with h2
      rw [ba_ext h2]
    · rw [h1] at h2; cases h2
  · rcases h' with ⟨Z, h2, _⟩ | ⟨_, rfl⟩
    · rw [h1] at h2; cases h2
    · rfl
theorem Own.there {w : World} {B : Nat} {v : Value} {l : List UInt8} (h : Own w B v l) (hl : 1 ≤ l.length) : ∃ g cap, v = .slice (some ⟨g, 0, none⟩) l.length cap ∧ ∀ j u, (u8c l)[j]? = some u → w.cell? ((⟨g, 0, none⟩ : Addr).add j) = some u := by
  rcases h with ⟨_, rfl⟩ | ⟨g, cap, e, _, _, _, _, _, h6⟩
  · simp at hl
  · exact ⟨g, cap, e, fun j u hu => by rw [addr_add, Nat.zero_add]; exact h6 j u hu⟩
/-- What holds at each round's head. -/
def RpRel (w : World) (s : List UInt8) (r m v : Value) (wr : World) : Prop :=
  ∃ (R : ByteArray) (M : Bool) (O : List UInt8), r = .string R ∧ m = .bool M ∧ Own wr w.heap.size v O ∧ Below w.heap.size w wr ∧ O.length + 4 * R.size ≤ 4 * s.length ∧ 60 ∉ R.data.toList ∧
    ((M = true ∧ expL false s = (expL false (38 :: R.data.toList)).map (O ++ ·)) ∨ (M = false ∧ expL false s = some O))
def repM : Value → Value → Nat
  | .string R, .bool true => R.size + 1
  | _, _ => 0
theorem map_map_app (o : Option (List UInt8)) (a b : List UInt8) : (o.map (b ++ ·)).map (a ++ ·) = o.map ((a ++ b) ++ ·) := by cases o <;> simp
set_option maxHeartbeats 8000000 in
theorem replaced_any (S : ByteArray) (hlen : S.size ≤ 100000) (w : World) (hT : Tabs w) : Calls Tryd.prog 17 #[.string S] w fun e w' => Ans (repL S.data.toList) e ∧ Below w.heap.size w w' := by
  obtain ⟨c, W, hcv, hcell, hsz, hbW, hc1, hc2, _⟩ := conv_text S (by omega) w
  have HTX : Hid (Calls Tryd.prog 22 #[.slice (some ⟨w.heap.size, 0, none⟩) S.size c] W fun e w' => e = .returned (.bool (txtB S.data.toList)) ∧ Below W.heap.size W w') := by
    have h := text_any (some ⟨w.heap.size, 0, none⟩) c S.data.toList W (hT.below hT.two hbW) (lies_of hsz hcell) (by rw [← ba_size]; exact hc1) hc2 (by rw [← ba_size]; omega)
    rw [← ba_size] at h
    exact h.mono fun e w' ⟨h1, h2⟩ => ⟨text_txt h1, h2⟩
  obtain ⟨Z, hZ⟩ : ∃ Z, repL S.data.toList = Z := ⟨_, rfl⟩
  rw [hZ]
  have HZ := Lib.hid hZ
  clear hcell hsz hc1 hc2 hT hZ
  cases ht : txtB S.data.toList with
  | false =>
    rw [ht] at HTX
    have hN : none = Z := by rw [← HZ.out]; exact (rep_no (txtB_no ht)).symm
    subst hN
    clear ht HZ
    go_enter Tryd.func17, Tryd.ntmps17
    go_wp2_with fail
    refine HTX.out.mono ?_
    rintro e w1 ⟨rfl, hb1⟩
    go_wp2
    go_ret2
    exact ⟨.inr ⟨rfl, rfl⟩, hbW.trans (hb1.mono hbW.size)⟩
  | true =>
    rw [ht] at HTX
    have HZ2 : Hid (expL false S.data.toList = Z) := by rw [Hid, ← HZ.out]; exact (rep_txt (txtB_iff.1 ht)).symm
    clear ht
    have HLT := Lib.hid (has_one 60 S)
    by_cases hlt : (60 : UInt8) ∈ S.data.toList
    · rw [decide_eq_true hlt] at HLT
      have hN : none = Z := by rw [← HZ2.out]; exact (exp_has_lt hlt).symm
      subst hN
      clear HZ HZ2 hlt
      go_enter Tryd.func17, Tryd.ntmps17
      go_wp2_with fail
      refine HTX.out.mono ?_
      rintro e w1 ⟨rfl, hb1⟩
      go_wp2_with fail
      refine (HLT.out _).mono ?_
      rintro e w2 ⟨rfl, hw⟩
      rw [hw]
      go_wp2
      go_ret2
      exact ⟨.inr ⟨rfl, rfl⟩, hbW.trans (hb1.mono hbW.size)⟩
    · rw [decide_eq_false hlt] at HLT
      have HNL := Lib.hid hlt
      clear HZ hlt
      go_enter Tryd.func17, Tryd.ntmps17
      go_wp2_with fail
      refine HTX.out.mono ?_
      rintro e w1 ⟨rfl, hb1⟩
      have hbx := hbW.trans (hb1.mono hbW.size)
      clear hcv HTX hbW hb1
      go_wp2_with fail
      refine (HLT.out _).mono ?_
      rintro e w2 ⟨rfl, hw⟩
      rw [hw]
      clear hw HLT
      go_wp2_with fail
      refine (cut_any 38 S (by omega) w1).mono ?_
      rintro e w3 ⟨hcut, hb3⟩
      have hby := hbx.trans (hb3.mono hbx.size)
      clear hbx hb3
      obtain ⟨P, R, M, rfl, HREL⟩ : ∃ (P R : ByteArray) (M : Bool), e = .returned (.tuple #[.string P, .string R, .bool M]) ∧ Hid (P.size + R.size ≤ S.size ∧ 60 ∉ R.data.toList ∧ ((M = true ∧ expL false S.data.toList = (expL false (38 :: R.data.toList)).map (P.data.toList ++ ·)) ∨ (M = false ∧ expL false S.data.toList = some P.data.toList))) := by
        rcases hcut with ⟨h1, rfl⟩ | ⟨P, R, h1, h2, rfl⟩
        · exact ⟨S, ⟨#[]⟩, false, rfl, by show S.size + 0 ≤ S.size; omega, by simp, .inr ⟨rfl, exp_all HNL.out h1⟩⟩
        · have h60 := HNL.out
          rw [h1] at h60
          simp only [List.mem_append, List.mem_cons, not_or] at h60
          exact ⟨P, R, true, rfl, by rw [ba_size S, h1, List.length_append, List.length_cons, ← ba_size, ← ba_size]; omega, h60.2.2, .inl ⟨rfl, by rw [h1, exp_ahead h60.1 h2]⟩⟩
      have hPs : P.size ≤ 100000 := by have := HREL.out.1; omega
      obtain ⟨c2, W2, hcv2, _, _, hbW2, _, _, hown2⟩ := conv_text P (by omega) w3
      have HST : Hid (RpRel w S.data.toList (.string R) (.bool M) (.slice (some ⟨w3.heap.size, 0, none⟩) P.size c2) W2) := ⟨R, M, P.data.toList, rfl, rfl, hown2.mono hby.size, hby.trans (hbW2.mono hby.size), by rw [← ba_size, ← ba_size]; have := HREL.out.1; omega, HREL.out.2.1, HREL.out.2.2⟩
      clear hcut HREL hown2 hbW2 hby
      go_wp2
      clear hcv2
      go_loopw [5, 6, 7] (RpRel w S.data.toList) (fun r m _ _ => repM r m)
      case atStart => exact HST.out
      case round =>
        obtain ⟨R, M, O, rfl, rfl, hO, hb, hsum, h60, hcase⟩ := hrel
        rw [← ba_size] at hsum
        have HO := Lib.hid hO
        have HB := Lib.hid hb
        have H60 := Lib.hid h60
        have hbs := hb.size
        have hRs : R.size ≤ 100000 := by omega
        have hOl : O.length ≤ 400000 := by omega
        clear hO hb h60 HST
        rcases hcase with ⟨rfl, hex⟩ | ⟨rfl, hex⟩
        · have HEX := Lib.hid hex
          clear hex
          have HC1 := Lib.hid (cut_any 59 R (by omega) wr)
          go_wp2_with fail
          refine HC1.out.mono ?_
          rintro e x1 ⟨⟨h1, rfl⟩ | ⟨X, Q, h1, h2, rfl⟩, hx1⟩
          · have hN : none = Z := by
              rw [← HZ2.out, HEX.out, exp_open h1]; rfl
            subst hN
            have hbq := HB.out.trans (hx1.mono hbs)
            have HM := Lib.hid (meant_any R hRs x1)
            clear h1 HZ2 HEX HC1 hx1
            go_wp2_with fail
            refine HM.out.mono ?_
            rintro e x2 ⟨⟨y, v, _, rfl, _⟩ | ⟨_, rfl⟩, hx2⟩
            · go_wp2
              go_ret2
              exact ⟨.inr ⟨rfl, rfl⟩, hbq.trans (hx2.mono hbq.size)⟩
            · go_wp2
              go_ret2
              exact ⟨.inr ⟨rfl, rfl⟩, hbq.trans (hx2.mono hbq.size)⟩
          · have hRl : R.size = X.size + 1 + Q.size := by rw [ba_size, h1, List.length_append, List.length_cons, ← ba_size, ← ba_size]; omega
            have hbq := HB.out.trans (hx1.mono hbs)
            have HO1 := Lib.hid (HO.out.later (hx1.mono (Nat.le_refl _)))
            have HM := Lib.hid (meant_any X (by omega) x1)
            have hex2 := HEX.out
            rw [h1, exp_ref h2] at hex2
            have HEX2 := Lib.hid hex2
            have h60 := H60.out
            rw [h1] at h60
            simp only [List.mem_append, List.mem_cons, not_or] at h60
            have H60Q := Lib.hid h60.2.2
            clear hex2 h60 h1 h2 HEX HC1 hx1 HO HB H60
            go_wp2_with fail
            refine HM.out.mono ?_
            rintro e x2 ⟨⟨y, v, hy, rfl, hvo⟩ | ⟨hy, rfl⟩, hx2⟩
            · have hyl := ref_len hy
              have hex3 := HEX2.out
              rw [hy] at hex3
              have HEX3 := Lib.hid hex3
              have hbr := hbq.trans (hx2.mono hbq.size)
              have HO2 := Lib.hid (HO1.out.later (hx2.mono (Nat.le_refl _)))
              have HVO := Lib.hid hvo
              have HC2 := Lib.hid (cut_any 38 Q (by omega) x2)
              clear hex3 hy hvo HEX2 HM hx2 HO1 hbq
              go_wp2_with fail
              refine HC2.out.mono ?_
              rintro e x3 ⟨hcut, hx3⟩
              have hbt := hbr.trans (hx3.mono hbr.size)
              have hbts := hbt.size
              have HO3 := Lib.hid (HO2.out.later (hx3.mono (Nat.le_refl _)))
              obtain ⟨g, cap, rfl, hcy⟩ := (HVO.out.later (hx3.mono (Nat.le_refl _))).there hyl.1
              have HCY := Lib.hid hcy
              obtain ⟨P, R2, M2, rfl, HREL⟩ : ∃ (P R2 : ByteArray) (M2 : Bool), e = .returned (.tuple #[.string P, .string R2, .bool M2]) ∧ Hid (P.size + R2.size ≤ Q.size ∧ (M2 = true → R2.size < Q.size) ∧ 60 ∉ R2.data.toList ∧ ((M2 = true ∧ expL false S.data.toList = (expL false (38 :: R2.data.toList)).map (((O ++ y) ++ P.data.toList) ++ ·)) ∨ (M2 = false ∧ expL false S.data.toList = some ((O ++ y) ++ P.data.toList)))) := by
                have h5 := HEX3.out
                rcases hcut with ⟨h1, rfl⟩ | ⟨P, R2, h1, h2, rfl⟩
                · refine ⟨Q, ⟨#[]⟩, false, rfl, by show Q.size + 0 ≤ Q.size; omega, fun h => (by cases h), by simp, .inr ⟨rfl, ?_⟩⟩
                  rw [h5, exp_all H60Q.out h1]; simp
                · have h60 := H60Q.out
                  rw [h1] at h60
                  simp only [List.mem_append, List.mem_cons, not_or] at h60
                  have hQl : Q.size = P.size + 1 + R2.size := by rw [ba_size, h1, List.length_append, List.length_cons, ← ba_size, ← ba_size]; omega
                  refine ⟨P, R2, true, rfl, by omega, fun _ => by omega, h60.2.2, .inl ⟨rfl, ?_⟩⟩
                  rw [h5, h1, exp_ahead h60.1 h2, map_map_app, map_map_app]
              obtain ⟨n, hn⟩ : ∃ n, y.length = n := ⟨_, rfl⟩
              rw [hn] at hyl ⊢
              have HN := Lib.hid hn
              have hPQ := HREL.out.1
              have hn1 : O.length + n ≤ 1000000000000 := by omega
              clear hcut HEX3 HC2 hx3 hbr HO2 HVO hcy hn
              have hn2 : (O ++ y).length + P.size ≤ 1000000000000 := by rw [List.length_append, HN.out]; omega
              go_wp2_with (first | (at_builtin; refine app_list rfl (.tmp 53) (.tmp 54) rfl w.heap.size O u7 rfl HO3.out hbts ⟨g, 0, none⟩ n cap y rfl HN.out HCY.out hn1 ?_; intro v1 w1' hO4 hb4) | (at_builtin; refine app_list_str rfl (.tmp 55) (.tmp 56) rfl w.heap.size (O ++ y) v1 rfl hO4 (hbt.trans hb4).size P rfl hn2 ?_; intro v2 w2' hO5 hb5))
              have hbu := hbt.trans hb4
              have hbv := hbu.trans hb5
              have HO5 := Lib.hid hO5
              have HNX : Hid (RpRel w S.data.toList (.string R2) (.bool M2) v2 w2') := ⟨R2, M2, (O ++ y) ++ P.data.toList, rfl, rfl, HO5.out, hbv, by
                rw [List.length_append, List.length_append, HN.out, ← ba_size, ← ba_size]; omega, HREL.out.2.2.1, HREL.out.2.2.2⟩
              have hms : repM (.string R2) (.bool M2) < repM (.string R) (.bool true) := by
                cases M2 with
                | false => show 0 < R.size + 1; omega
                | true => show R2.size + 1 < R.size + 1; have := HREL.out.2.1 rfl; omega
              have HMS := Lib.hid hms
              clear hO5 hb5 hbu hms hO4 hb4 hbt
              go_wp2
              go_roundw
              case rel => exact HNX.out
              case measure => exact HMS.out
            · have hN : none = Z := by
                have h5 := HEX2.out
                rw [hy] at h5
                rw [← HZ2.out, h5]; rfl
              subst hN
              clear hy HEX2 HZ2 HM
              go_wp2
              go_ret2
              exact ⟨.inr ⟨rfl, rfl⟩, hbq.trans (hx2.mono hbq.size)⟩
        · obtain ⟨A', cap', hv, hcl, hcm, hli⟩ := HO.out.lies
          have hcv3 := conv_lies cap' hli
          obtain ⟨Y, hY⟩ : ∃ Y : ByteArray, ⟨O.toArray⟩ = Y := ⟨_, rfl⟩
          have hZY : some Y.data.toList = Z := by rw [← HZ2.out, hex, ← hY]
          have HZY := Lib.hid hZY
          rw [hY] at hcv3
          generalize O.length = n at *
          subst hv
          clear hli hex hZY hY HO HZ2
          go_wp2
          go_ret2
          exact ⟨.inl ⟨Y, HZY.out.symm, rfl⟩, HB.out⟩
end Go.Proofs.YtmbmobjlmbjkpaaDoor
