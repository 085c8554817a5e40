/-
  The document's own text with its references' characters. Conditions: the text is not too long.
-/
import Derived.Test.YtmbmobjlmbjkpaaDoorCRep
import Derived.Test.YtmbmobjlmbjkpaaDoorCStands
namespace Go.Proofs.YtmbmobjlmbjkpaaDoor
open Go.RowKit
set_option linter.unusedVariables false
/-- What holds at each round's head. -/
def ExRel (w : World) (s : List UInt8) (b : Bool) (v i : Value) (wr : World) : Prop :=
  ∃ (k : Nat) (O : List UInt8), k ≤ s.length ∧ i = .int .i64 (k : Int) ∧ Own wr w.heap.size v O ∧ Below w.heap.size w wr ∧ O.length ≤ 4 * k ∧ expL b s = (expL b (s.drop k)).map (O ++ ·)
/-- What holds where a reference's end is looked for. -/
def EnRel (w : World) (s : List UInt8) (k : Nat) (i : Value) (wr : World) : Prop :=
  ∃ e : Nat, k + 1 ≤ e ∧ e ≤ s.length ∧ i = .int .i64 (e : Int) ∧ 59 ∉ (s.take e).drop (k + 1) ∧ wr = w
theorem drop_at {s : List UInt8} {k : Nat} (h : k < s.length) : s.drop k = s[k] :: s.drop (k + 1) := List.drop_eq_getElem_cons h
theorem en_next {s : List UInt8} {k e : Nat} (h1 : k + 1 ≤ e) (h : e < s.length) (hn : 59 ∉ (s.take e).drop (k + 1)) (hc : s[e] ≠ 59) : 59 ∉ (s.take (e + 1)).drop (k + 1) := by
  rw [List.take_succ_eq_append_getElem h, List.drop_append_of_le_length (by rw [List.length_take]; omega)]
  simp only [List.mem_append, List.mem_singleton, not_or]
  exact ⟨hn, Ne.symm hc⟩
theorem en_parts {s : List UInt8} {k e : Nat} (h0 : k < s.length) (hk : s[k] = 38) (h1 : k + 1 ≤ e) (h : e < s.length) (hc : s[e] = 59) : s.drop k = 38 :: ((s.take e).drop (k + 1) ++ 59 :: s.drop (e + 1)) := by
  rw [drop_at h0, hk]
  congr 1
  have h2 : s = s.take e ++ s.drop e := (List.take_append_drop e s).symm
  conv => lhs; rw [h2]
  rw [List.drop_append_of_le_length (by rw [List.length_take]; omega), drop_at h, hc]
theorem ex_more {b : Bool} {s O y T : List UInt8} (h : expL b s = (expL b T).map (O ++ ·)) {R : List UInt8} (h2 : expL b T = (expL b R).map (y ++ ·)) : expL b s = (expL b R).map ((O ++ y) ++ ·) := by
  rw [h, h2, map_map_app]
theorem ex_byte {b : Bool} {s : List UInt8} {k : Nat} (h : k < s.length) (h1 : s[k] ≠ 60) (h2 : s[k] ≠ 38) : expL b (s.drop k) = (expL b (s.drop (k + 1))).map ([plainC b s[k]] ++ ·) := by
  rw [drop_at h, exp_plain h1 h2]; rfl
set_option maxHeartbeats 8000000 in
set_option maxRecDepth 100000 in
theorem expand_any (S : ByteArray) (b : Bool) (hlen : S.size ≤ 100000) (w : World) : Calls Tryd.prog 19 #[.string S, .bool b] w fun e w' => Ans (if txtB S.data.toList = true then expL b S.data.toList else none) e ∧ Below w.heap.size w w' := by
  obtain ⟨c, W, hcv, hcell, hsz, hbW, hc1, hc2, _⟩ := conv_text S (by omega) w
  have HTX : Hid (Calls Tryd.prog 25 #[.slice (some ⟨w.heap.size, 0, none⟩) S.size c] W fun e w' => e = .returned (.bool (txtB S.data.toList)) ∧ Below W.heap.size W w') := by
    have h := refText_any (some ⟨w.heap.size, 0, none⟩) c S.data.toList W (lies_of hsz hcell) (by rw [← ba_size]; exact hc1) hc2 (by rw [← ba_size]; omega)
    rw [← ba_size] at h
    exact h.mono fun e w' ⟨h1, h2⟩ => ⟨text_txt h1, h2⟩
  clear hcell hsz hc1 hc2
  cases ht : txtB S.data.toList with
  | false =>
    rw [ht] at HTX
    rw [if_neg (by simp)]
    clear ht
    go_enter Tryd.func19, Tryd.ntmps19
    go_wp2_with fail
    refine HTX.out.mono ?_
    rintro e w1 ⟨rfl, hb1⟩
    go_wp2
    go_ret2
    exact ⟨.inr ⟨rfl, rfl⟩, hbW.trans (hb1.mono hbW.size)⟩
  | true =>
    rw [ht] at HTX
    rw [if_pos rfl]
    obtain ⟨Z, hZ⟩ : ∃ Z, expL b S.data.toList = Z := ⟨_, rfl⟩
    rw [hZ]
    have HZ := Lib.hid hZ
    obtain ⟨N, hN⟩ : ∃ N, S.size = N := ⟨_, rfl⟩
    have hNl : S.data.toList.length = N := by rw [← ba_size]; exact hN
    have HNL := Lib.hid hNl
    rw [hN] at hlen hcv HTX
    clear ht hZ hNl
    go_enter Tryd.func19, Tryd.ntmps19
    go_wp2_with fail
    refine HTX.out.mono ?_
    rintro e w1 ⟨rfl, hb1⟩
    have hbx := hbW.trans (hb1.mono hbW.size)
    clear hcv HTX hbW hb1
    go_wp2
    go_loopw [6, 7] (ExRel w S.data.toList b) (fun _ i _ => N - (intOf i).toNat)
    case atStart => exact ⟨0, [], Nat.zero_le _, rfl, Own.nil _ _, hbx, Nat.zero_le _, by rw [List.drop_zero]; cases expL b S.data.toList <;> simp⟩
    case round =>
      obtain ⟨k, O, hk, rfl, hO, hb, hOl, hex⟩ := hrel
      rw [HNL.out] at hk
      have HO := Lib.hid hO
      have HB := Lib.hid hb
      have HEX := Lib.hid hex
      have hbs := hb.size
      clear hO hb hex
      by_cases hlt : k < N
      · have hkl : k < S.data.toList.length := by rw [HNL.out]; exact hlt
        have hix := index_str S hkl
        have hkz : (k : Int) < (N : Int) := by omega
        have hOn : O.length + 1 ≤ 1000000000000 := by omega
        by_cases h60 : S.data.toList[k] = 60
        · rw [h60] at hix
          have hix' : ∀ w, (Instr.index 9 (.string S) (.int .i64 (k : Int))).run Tryd.prog w = .ok (.int .u8 60) w := hix
          have hN0 : none = Z := by
            rw [← HZ.out, HEX.out, drop_at hkl, h60, exp_lt]; rfl
          subst hN0
          clear hix h60 HZ HEX hkl
          go_wp2
          go_ret2
          exact ⟨.inr ⟨rfl, rfl⟩, HB.out⟩
        by_cases h38 : S.data.toList[k] = 38
        · rw [h38] at hix
          have hix' : ∀ w, (Instr.index 9 (.string S) (.int .i64 (k : Int))).run Tryd.prog w = .ok (.int .u8 38) w := hix
          have H38 := Lib.hid h38
          clear hix h60 h38
          go_wp2
          clear hix'
          go_loopw [9] (EnRel wr S.data.toList k) (fun i _ => N - (intOf i).toNat)
          case atStart => exact ⟨k + 1, Nat.le_refl _, by rw [HNL.out]; exact hlt, by go_num, by
            rw [List.drop_of_length_le (by rw [List.length_take]; omega)]; simp, rfl⟩
          case round =>
            obtain ⟨e, he1, he2, rfl, hno, rfl⟩ := hrel
            rw [HNL.out] at he2
            have HNO := Lib.hid hno
            clear hno
            by_cases hel : e < N
            · have hell : e < S.data.toList.length := by rw [HNL.out]; exact hel
              have hie := index_str S hell
              have hez : (e : Int) < (N : Int) := by omega
              by_cases h59 : S.data.toList[e] = 59
              · rw [h59] at hie
                have hie' : ∀ w, (Instr.index 9 (.string S) (.int .i64 (e : Int))).run Tryd.prog w = .ok (.int .u8 59) w := hie
                have hpt := en_parts hkl H38.out he1 hell h59
                obtain ⟨X, hX⟩ : ∃ X, S.extract (k + 1) e = X := ⟨_, rfl⟩
                have hXl : X.data.toList = (S.data.toList.take e).drop (k + 1) := by rw [← hX, ba_cut]
                have hXs : X.size ≤ 100000 := by rw [ba_size, hXl, List.length_drop, List.length_take]; omega
                rw [← hXl] at hpt
                have hno2 : (59 : UInt8) ∉ X.data.toList := by rw [hXl]; exact HNO.out
                have HPT : Hid (expL b (S.data.toList.drop k) = match refL X.data.toList with | none => none | some y => (expL b (S.data.toList.drop (e + 1))).map (y ++ ·)) := by
                  rw [Hid, hpt]; exact exp_ref hno2 _
                have HSD := Lib.hid (stands_any X hXs wr)
                have hen : ((e : Int) == (N : Int)) = false := by rw [beq_eq_false_iff_ne]; omega
                have hs1 : (k : Int) + 1 ≤ (e : Int) := by omega
                have hs2 : (e : Int) ≤ (N : Int) := by omega
                have hs3 : (0 : Int) ≤ (k : Int) + 1 := by omega
                clear hie h59 hpt hXl hno2 HNO hell
                go_wp2_with fail
                refine HSD.out.mono ?_
                rintro e1 x1 ⟨⟨Y, hy, rfl⟩ | ⟨hy, rfl⟩, hx1⟩
                · have hyl := ref_len hy
                  rw [← ba_size] at hyl
                  have hbq := HB.out.trans (hx1.mono hbs)
                  have hbqs := hbq.size
                  have HO1 := Lib.hid (HO.out.later (hx1.mono (Nat.le_refl _)))
                  have hpt2 := HPT.out
                  rw [hy] at hpt2
                  have HMO : Hid (expL b S.data.toList = (expL b (S.data.toList.drop (e + 1))).map ((O ++ Y.data.toList) ++ ·)) := ex_more HEX.out hpt2
                  have hn2 : O.length + Y.size ≤ 1000000000000 := by omega
                  clear hpt2 hy HPT HSD hx1 HO
                  go_wp2_with (at_builtin; refine app_list_str rfl _ _ rfl w.heap.size O u6 rfl HO1.out hbqs Y rfl hn2 ?_; intro v2 w2' hO5 hb5)
                  have HO5 := Lib.hid hO5
                  have hbv := hbq.trans hb5
                  have HNX : Hid (ExRel w S.data.toList b v2 (.int .i64 ((e + 1 : Nat) : Int)) w2') := ⟨e + 1, O ++ Y.data.toList, by rw [HNL.out]; omega, rfl, HO5.out, hbv, by rw [List.length_append, ← ba_size]; omega, HMO.out⟩
                  clear hO5 hb5 hbq
                  go_wp2
                  go_roundw
                  case rel => exact (show Value.int .i64 ((e + 1 : Nat) : Int) = _ by go_num) ▸ HNX.out
                  case measure => simp [intOf]; omega
                · have hN0 : none = Z := by
                    have hpt2 := HPT.out
                    rw [hy] at hpt2
                    rw [← HZ.out, HEX.out, hpt2]; rfl
                  subst hN0
                  have hbq := HB.out.trans (hx1.mono hbs)
                  clear hy HPT HSD HZ HEX
                  go_wp2
                  go_ret2
                  exact ⟨.inr ⟨rfl, rfl⟩, hbq⟩
              · have HNX : Hid (EnRel wr S.data.toList k (.int .i64 ((e + 1 : Nat) : Int)) wr) := ⟨e + 1, by omega, by rw [HNL.out]; exact hel, rfl, en_next he1 hell HNO.out h59, rfl⟩
                have hdz : ¬ (S.data.toList[e].toNat : Int) = 59 := fun e1 => h59 (UInt8.toNat_inj.1 (show _ = 59 by omega))
                clear h59 HNO
                generalize S.data.toList[e].toNat = x at *
                have hdb : ((x : Int) != 59) = true := by simpa using hdz
                clear hell
                go_wp2
                go_roundw
                case rel => exact (show Value.int .i64 ((e + 1 : Nat) : Int) = _ by go_num) ▸ HNX.out
                case measure => simp [intOf]; omega
            · have hez : ¬ (e : Int) < (N : Int) := by omega
              have hez1 := decide_eq_false hez
              have hen : ((e : Int) == (N : Int)) = true := by rw [beq_iff_eq]; omega
              have hN0 : none = Z := by
                have h1 := HNO.out
                rw [List.take_of_length_le (by rw [HNL.out]; omega)] at h1
                rw [← HZ.out, HEX.out, drop_at hkl, H38.out, exp_open h1]; rfl
              subst hN0
              clear HNO HZ HEX hkl H38
              go_wp2
              go_ret2
              exact ⟨.inr ⟨rfl, rfl⟩, HB.out⟩
        · have hby := ex_byte (b := b) hkl h60 h38
          have z60 : ¬ (S.data.toList[k].toNat : Int) = 60 := fun e1 => h60 (UInt8.toNat_inj.1 (show _ = 60 by omega))
          have z38 : ¬ (S.data.toList[k].toNat : Int) = 38 := fun e1 => h38 (UInt8.toNat_inj.1 (show _ = 38 by omega))
          have HMO : Hid (expL b S.data.toList = (expL b (S.data.toList.drop (k + 1))).map ((O ++ [plainC b S.data.toList[k]]) ++ ·)) := ex_more HEX.out hby
          clear hby h60 h38 HEX
          generalize S.data.toList[k] = y at *
          by_cases hq : b = true ∧ (y = 9 ∨ y = 10 ∨ y = 13)
          · have hpl : plainC b y = 32 := by unfold plainC; rw [if_pos hq]
            rw [hpl] at HMO
            obtain ⟨rfl, hor⟩ := hq
            clear hpl
            rcases hor with rfl | rfl | rfl
            · have hix' : ∀ w, (Instr.index 9 (.string S) (.int .i64 (k : Int))).run Tryd.prog w = .ok (.int .u8 9) w := hix
              clear hix z60 z38 hkl
              go_wp2_with (at_builtin; refine app_byte rfl _ _ rfl w.heap.size O u6 rfl HO.out hbs 32 _ rfl rfl hOn ?_; intro v3 w3 hO3 hb3)
              have HO3 := Lib.hid hO3
              have HB3 := Lib.hid hb3
              clear hO3 hb3
              go_wp2
              go_roundw
              case rel => exact ⟨k + 1, O ++ [32], by rw [HNL.out]; exact hlt, by go_num, HO3.out, HB.out.trans HB3.out, by rw [List.length_append, List.length_singleton]; omega, HMO.out⟩
              case measure => simp [intOf]; omega
            · have hix' : ∀ w, (Instr.index 9 (.string S) (.int .i64 (k : Int))).run Tryd.prog w = .ok (.int .u8 10) w := hix
              clear hix z60 z38 hkl
              go_wp2_with (at_builtin; refine app_byte rfl _ _ rfl w.heap.size O u6 rfl HO.out hbs 32 _ rfl rfl hOn ?_; intro v3 w3 hO3 hb3)
              have HO3 := Lib.hid hO3
              have HB3 := Lib.hid hb3
              clear hO3 hb3
              go_wp2
              go_roundw
              case rel => exact ⟨k + 1, O ++ [32], by rw [HNL.out]; exact hlt, by go_num, HO3.out, HB.out.trans HB3.out, by rw [List.length_append, List.length_singleton]; omega, HMO.out⟩
              case measure => simp [intOf]; omega
            · have hix' : ∀ w, (Instr.index 9 (.string S) (.int .i64 (k : Int))).run Tryd.prog w = .ok (.int .u8 13) w := hix
              clear hix z60 z38 hkl
              go_wp2_with (at_builtin; refine app_byte rfl _ _ rfl w.heap.size O u6 rfl HO.out hbs 32 _ rfl rfl hOn ?_; intro v3 w3 hO3 hb3)
              have HO3 := Lib.hid hO3
              have HB3 := Lib.hid hb3
              clear hO3 hb3
              go_wp2
              go_roundw
              case rel => exact ⟨k + 1, O ++ [32], by rw [HNL.out]; exact hlt, by go_num, HO3.out, HB.out.trans HB3.out, by rw [List.length_append, List.length_singleton]; omega, HMO.out⟩
              case measure => simp [intOf]; omega
          · have hpl : plainC b y = y := by unfold plainC; rw [if_neg hq]
            rw [hpl] at HMO
            obtain ⟨x, hx⟩ : ∃ x, y.toNat = x := ⟨_, rfl⟩
            have hqx : b = true → ¬ (x : Int) = 9 ∧ ¬ (x : Int) = 10 ∧ ¬ (x : Int) = 13 := fun hb => by
              rw [← hx]
              refine ⟨fun e1 => hq ⟨hb, .inl (UInt8.toNat_inj.1 (show _ = 9 by omega))⟩, fun e1 => hq ⟨hb, .inr (.inl (UInt8.toNat_inj.1 (show _ = 10 by omega)))⟩, fun e1 => hq ⟨hb, .inr (.inr (UInt8.toNat_inj.1 (show _ = 13 by omega)))⟩⟩
            rw [hx] at hix z60 z38
            have HX := Lib.hid hx
            have b60 : ((x : Int) == 60) = false := by simpa using z60
            have b38 : ((x : Int) == 38) = false := by simpa using z38
            clear hpl hq hx hkl
            cases b with
            | false =>
              clear hqx
              go_wp2_with (at_builtin; refine app_byte rfl _ _ rfl w.heap.size O u6 rfl HO.out hbs y _ (by rw [HX.out]) rfl hOn ?_; intro v3 w3 hO3 hb3)
              have HO3 := Lib.hid hO3
              have HB3 := Lib.hid hb3
              clear hO3 hb3
              go_wp2
              go_roundw
              case rel => exact ⟨k + 1, O ++ [y], by rw [HNL.out]; exact hlt, by go_num, HO3.out, HB.out.trans HB3.out, by rw [List.length_append, List.length_singleton]; omega, HMO.out⟩
              case measure => simp [intOf]; omega
            | true =>
              obtain ⟨z9, z10, z13⟩ := hqx rfl
              have b9 : ((x : Int) == 9) = false := by simpa using z9
              have b10 : ((x : Int) == 10) = false := by simpa using z10
              have b13 : ((x : Int) == 13) = false := by simpa using z13
              clear hqx
              go_wp2_with (at_builtin; refine app_byte rfl _ _ rfl w.heap.size O u6 rfl HO.out hbs y _ (by rw [HX.out]) rfl hOn ?_; intro v3 w3 hO3 hb3)
              have HO3 := Lib.hid hO3
              have HB3 := Lib.hid hb3
              clear hO3 hb3
              go_wp2
              go_roundw
              case rel => exact ⟨k + 1, O ++ [y], by rw [HNL.out]; exact hlt, by go_num, HO3.out, HB.out.trans HB3.out, by rw [List.length_append, List.length_singleton]; omega, HMO.out⟩
              case measure => simp [intOf]; omega
      · have hkz : ¬ (k : Int) < (N : Int) := by omega
        have hkz1 := decide_eq_false hkz
        have hfin := HEX.out
        rw [List.drop_of_length_le (by rw [HNL.out]; omega), exp_nil] at hfin
        obtain ⟨A', cap', hv, hcl, hcm, hli⟩ := HO.out.lies
        have hcv := conv_lies cap' hli
        obtain ⟨Y, hY⟩ : ∃ Y : ByteArray, ⟨O.toArray⟩ = Y := ⟨_, rfl⟩
        have hZY : some Y.data.toList = Z := by rw [← HZ.out, hfin, ← hY]; simp
        have HZY := Lib.hid hZY
        rw [hY] at hcv
        generalize O.length = n at *
        subst hv
        clear hli hfin hZY hY HO HEX HZ
        go_wp2
        go_ret2
        exact ⟨.inl ⟨Y, HZY.out.symm, rfl⟩, HB.out⟩
end Go.Proofs.YtmbmobjlmbjkpaaDoor
