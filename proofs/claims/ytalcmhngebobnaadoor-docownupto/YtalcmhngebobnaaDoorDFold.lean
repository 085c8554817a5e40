/-
  strings.EqualFold at a text and "xml". Conditions: unicode's own table of letters lies as it is laid; the text is not too long.
-/
import Derived.Test.YtalcmhngebobnaaDoorNText
import Derived.Laws.RangeString
import Derived.Laws.RangeAny
import Derived.ScopeJumps
import Derived.WalkMore
import Derived.Lib.Fold
import Derived.Deep.LoopGhost
import Derived.Lib.Walk
namespace Go.Proofs.YtalcmhngebobnaaDoor
open Go.RowKit
set_option linter.unusedVariables false
set_option maxRecDepth 100000
/-- unicode.asciiFold, at the letters of xml. -/
def Folds (w : World) : Prop := ∀ p ∈ [((120 : Nat), (88 : Int)), (88, 120), (109, 77), (77, 109), (108, 76), (76, 108)], w.cell? ⟨2, p.1, none⟩ = some (.int .u16 p.2)
theorem simple_any (n : Nat) (z : Int) (hn : n < 128) (h0 : 0 ≤ z) (h1 : z < 65536) (w : World) (hc : w.cell? ⟨2, n, none⟩ = some (.int .u16 z)) :
    Calls Tryd.prog 61 #[.int .i32 (n : Int)] w fun e w' => e = .returned (.int .i32 z) ∧ w' = w := by
  have hn1 : ¬ (n : Int) < 0 := by omega
  have hn2 : ¬ (1114111 : Int) < (n : Int) := by omega
  have hn3 : (n : Int) < 128 := by omega
  go_enter Tryd.func61, Tryd.ntmps61
  go_wp2
  go_ret
  exact ⟨rfl, rfl⟩
theorem decode_ge (s : ByteArray) (h : 128 ≤ (s.get! 0).toNat) : 128 ≤ (Utf8.decode s 0).1 := by
  have hb : ∀ k, (s.get! (0 + k)).toNat < 256 := fun k => (s.get! (0 + k)).toNat_lt
  have h0 := hb 0; have h1 := hb 1; have h2 := hb 2; have h3 := hb 3
  simp only [Utf8.decode]
  repeat' split
  all_goals simp_all [Utf8.runeError]
  all_goals omega
set_option maxHeartbeats 4000000 in
theorem decodeIn_any (T : ByteArray) (c : UInt8) (hc : c.toNat < 128) (hT : T.toList ≠ []) (hx : ∀ w, (Instr.index 9 (.string T) (.int .i64 0)).run Tryd.prog w = .ok (.int .u8 (c.toNat : Int)) w) (w : World) :
    Calls Tryd.prog 60 #[.string T] w fun e w' => e = .returned (.tuple #[.int .i32 (c.toNat : Int), .int .i64 1]) ∧ w' = w := by
  have h1 : (c.toNat : Int) < 128 := by omega
  have t1 : (T.toList == []) = false := by simpa using hT
  have t2 : T.toList.isEmpty = false := by simpa using hT
  go_enter Tryd.func60, Tryd.ntmps60
  go_wp2
  go_ret2
  exact ⟨rfl, rfl⟩
theorem u8_or_ge (x : UInt8) (hx : 128 ≤ x.toNat) (y : UInt8) : ∃ z : Int, bits .or .u8 (x.toNat : Int) (y.toNat : Int) = z ∧ 128 ≤ z := by
  refine ⟨_, u8_or_nat _ _ (by have := x.toNat_lt; omega) (by have := y.toNat_lt; omega), ?_⟩
  have : x.toNat ≤ x.toNat ||| y.toNat := Nat.left_le_or
  omega
/-- What holds where the walk leaves the letters: the byte at hand is none. -/
def FJ (S : ByteArray) (w : World) (a' : Act) (w' : World) : Prop :=
  ∃ (j : Nat) (x : UInt8) (u4 u6 u7 u8 u9 u10 u11 u12 u13 u14 u15 u16 u17 u18 u19 u20 u21 u22 u23 u24 u25 u26 u27 u28 u29 u30 u31 u32 u33 u34 u35 u36 u37 u38 u39 u40 u41 u42 u43 u44 u45 u46 u47 u48 u49 u50 u51 u52 u53 u54 : Value), w' = w ∧ j < 3 ∧ S.data.toList[j]? = some x ∧ 128 ≤ x.toNat ∧
    a' = { tmps := #[.string S, .string ⟨#[120, 109, 108]⟩, undef, undef, u4, .int .i64 (j : Int), u6, u7, u8, u9, u10, u11, u12, u13, u14, u15, u16, u17, u18, u19, u20, u21, u22, u23, u24, u25, u26, u27, u28, u29, u30, u31, u32, u33, u34, u35, u36, u37, u38, u39, u40, u41, u42, u43, u44, u45, u46, u47, u48, u49, u50, u51, u52, u53, u54, undef, undef, undef, undef, undef, undef, undef, undef, undef, undef, undef, undef, undef, undef, undef, undef, undef, undef, undef, undef, undef, undef, undef, undef, undef, undef, undef, undef, undef, undef, undef, undef, undef, undef, undef, undef, undef, undef, undef, undef, undef, undef, undef, undef, undef, undef, undef, undef, undef, undef, undef, undef, undef, undef, undef, undef, undef, undef, undef, undef, undef, undef, undef, undef, undef, undef, undef, undef], defers := [] }
theorem fold_big {x y : UInt8} (hx : 128 ≤ x.toNat) (hy : y.toNat < 128) : Lib.foldEq x y = false := by
  unfold Lib.foldEq
  exact decide_eq_false (by omega)
theorem fold_no_big {s : List UInt8} {j : Nat} {x : UInt8} (hj : j < 3) (hx : s[j]? = some x) (h : 128 ≤ x.toNat) : Lib.equalFold s [120, 109, 108] = false := by
  match j, hj, s, hx with
  | 0, _, a :: s, hx =>
    simp only [List.getElem?_cons_zero, Option.some.injEq] at hx
    subst hx
    exact Lib.equalFold_no _ _ _ _ (fold_big h (by decide))
  | 1, _, a :: b :: s, hx =>
    simp only [List.getElem?_cons_succ, List.getElem?_cons_zero, Option.some.injEq] at hx
    subst hx
    rw [Lib.equalFold, Lib.equalFold_no _ _ _ _ (fold_big h (by decide)), Bool.and_false]
  | 2, _, a :: b :: c :: s, hx =>
    simp only [List.getElem?_cons_succ, List.getElem?_cons_zero, Option.some.injEq] at hx
    subst hx
    rw [Lib.equalFold, Lib.equalFold, Lib.equalFold_no _ _ _ _ (fold_big h (by decide)), Bool.and_false, Bool.and_false]
theorem fold_iter {w : World} {T : ByteArray} {q : Nat} {p : Nat × Int} (hF : Folds w) (h : p ∈ [((120 : Nat), (88 : Int)), (88, 120), (109, 77), (77, 109), (108, 76), (76, 108)]) : (w.iter T q).cell? ⟨2, p.1, none⟩ = some (.int .u16 p.2) := by
  have h1 := hF p h
  have hlt : 2 < w.heap.size := by
    rcases Nat.lt_or_ge 2 w.heap.size with hlt | hge
    · exact hlt
    · rw [World.cell?, Array.getElem?_eq_none hge] at h1; cases h1
  exact (((Below.refl w.heap.size w).alloc (Nat.le_refl _) _).cell (p := ⟨2, p.1, none⟩) hlt).trans h1
theorem xml_at {i : Nat} (h : i < 3) : ∃ y : UInt8, [(120 : UInt8), 109, 108][i]? = some y ∧ y.toNat < 128 ∧ ∀ w, (Instr.index 9 (.string ⟨#[120, 109, 108]⟩) (.int .i64 (i : Int))).run Tryd.prog w = .ok (.int .u8 (y.toNat : Int)) w := by
  match i, h with
  | 0, _ => exact ⟨120, rfl, by decide, fun w => by kernel_rfl⟩
  | 1, _ => exact ⟨109, rfl, by decide, fun w => by kernel_rfl⟩
  | 2, _ => exact ⟨108, rfl, by decide, fun w => by kernel_rfl⟩
set_option maxHeartbeats 8000000 in
theorem fold_any (S : ByteArray) (hlen : S.size ≤ 2000000) (w : World) (hF : Folds w) :
    Calls Tryd.prog 50 #[.string S, .string ⟨#[120, 109, 108]⟩] w fun e w' => e = .returned (.bool (Lib.equalFold S.data.toList [120, 109, 108])) ∧ Below w.heap.size w w' := by
  obtain ⟨R, hR⟩ : ∃ R, Lib.equalFold S.data.toList [120, 109, 108] = R := ⟨_, rfl⟩
  rw [hR]
  have HR := Lib.hid hR
  clear hR
  obtain ⟨M, hM⟩ : ∃ M : Nat, min (S.size : Int) 3 = (M : Int) := ⟨min S.size 3, by omega⟩
  have hMs : M ≤ S.size := by omega
  have hMt : M ≤ 3 := by omega
  have hMe : M = S.size ∨ M = 3 := by omega
  go_enter Tryd.func50, Tryd.ntmps50
  go_wp2
  refine wp_scope_jumps 0 (FJ S w) (fun _ _ => 0) rfl ?first ?pass
  case first =>
    go_wp2
    go_loopg [5] M (fun g s5 wx => w = wx ∧ ∃ i : Nat, i + g = M ∧ s5 = .int .i64 i ∧ Lib.equalFold (S.data.toList.drop i) ([120, 109, 108].drop i) = R)
    case atStart => exact ⟨rfl, 0, by omega, rfl, HR.out⟩
    case round =>
      obtain ⟨rfl, i, hig, rfl, hinv⟩ := hrel
      have HI := Lib.hid hinv
      clear hinv hM
      cases gk with
      | zero =>
        have hiM : ¬ ((i : Int) < (M : Int)) := by omega
        obtain rfl : i = M := by omega
        have hE : decide (S.size = 3) = R := by
          rw [← HI.out, Lib.equalFold_end _ _ (by
            rcases hMe with h | h
            · exact Or.inl (List.drop_eq_nil_of_le (by rw [← ba_size]; omega))
            · exact Or.inr (List.drop_eq_nil_of_le (by show 3 ≤ i; omega))), List.length_drop, List.length_drop, ← ba_size]
          exact decide_eq_decide.2 (by show S.size = 3 ↔ S.size - i = 3 - i; omega)
        have HE := Lib.hid hE
        clear hE
        by_cases hst : S.size = 3
        · have hb : ((S.size : Int) == 3) = true := beq_iff_eq.2 (by omega)
          go_wp2
          simp only [Exit.jump]
          go_ret
          exact ⟨by rw [← HE.out]; simp [hst], Below.refl _ _⟩
        · have hb : ((S.size : Int) == 3) = false := beq_eq_false_iff_ne.2 (by omega)
          go_wp2
          simp only [Exit.jump]
          go_ret
          exact ⟨by rw [← HE.out]; simp [hst], Below.refl _ _⟩
      | succ g =>
        have hiM : (i : Int) < (M : Int) := by omega
        have hi3 : i < 3 := by omega
        obtain ⟨y, hy, hy1, hiy⟩ := xml_at hi3
        have hil : i < S.data.toList.length := by rw [← ba_size]; omega
        have hix := index_str S hil
        obtain ⟨x, hx⟩ : ∃ x, S.data.toList[i] = x := ⟨_, rfl⟩
        rw [hx] at hix
        have hxl : S.data.toList[i]? = some x := by rw [List.getElem?_eq_getElem hil, hx]
        have Hx : Hid (S.data.toList[i]? = some x ∧ [(120 : UInt8), 109, 108][i]? = some y) := ⟨hxl, hy⟩
        clear hxl hy hx hil
        by_cases hbig : 128 ≤ x.toNat
        · obtain ⟨z, hz, hz1⟩ := u8_or_ge x hbig y
          go_wp2
          go_step3
          exact ⟨rfl, i, x, _, _, _, _, _, _, _, _, _, _, _, _, _, _, _, _, _, _, _, _, _, _, _, _, _, _, _, _, _, _, _, _, _, _, _, _, _, _, _, _, _, _, _, _, _, _, _, _, _, _, rfl, hi3, Hx.out.1, hbig, rfl⟩
        · have hx128 : x.toNat < 128 := by omega
          have hor : bits .or .u8 (x.toNat : Int) (y.toNat : Int) = ((x.toNat ||| y.toNat : Nat) : Int) := u8_or_nat _ _ (by omega) (by omega)
          have hor128 : ¬ ((128 : Int) ≤ ((x.toNat ||| y.toNat : Nat) : Int)) := by have := Nat.or_lt_two_pow (n := 7) hx128 hy1; omega
          clear hbig
          go_wp2
          all_goals (try simp only [beq_iff_eq, beq_eq_false_iff_ne, ne_eq] at *)
          all_goals first
            | (go_roundg g
               case measure => omega
               case rel => exact ⟨rfl, i + 1, by omega, by first | rfl | simp, by rw [← HI.out, Lib.drop_at Hx.out.1, Lib.drop_at Hx.out.2, Lib.equalFold_yes _ _ _ _ (decide_eq_true (by omega))]⟩)
            | (simp only [Exit.jump]
               go_ret
               refine ⟨?_, Below.refl _ _⟩
               rw [← HI.out, Lib.drop_at Hx.out.1, Lib.drop_at Hx.out.2, Lib.equalFold_no _ _ _ _ (decide_eq_false (by omega))]
               rfl)
  case pass =>
    rintro a' w' ⟨j, x, u4, u6, u7, u8, u9, u10, u11, u12, u13, u14, u15, u16, u17, u18, u19, u20, u21, u22, u23, u24, u25, u26, u27, u28, u29, u30, u31, u32, u33, u34, u35, u36, u37, u38, u39, u40, u41, u42, u43, u44, u45, u46, u47, u48, u49, u50, u51, u52, u53, u54, rfl, hj, hx, hx1, rfl⟩
    have hjs : j < S.size := by rw [ba_size]; exact (List.getElem?_eq_some_iff.1 hx).1
    have hjz : (j : Int) ≤ (S.size : Int) := by omega
    obtain ⟨T, hT⟩ : ∃ T, S.extract j S.size = T := ⟨_, rfl⟩
    have hTl : T.data.toList[0]? = some x := by rw [← hT, ba_cut, ba_size, List.take_length, List.getElem?_drop, Nat.add_zero]; exact hx
    have hT0 := (List.getElem?_eq_some_iff.1 hTl).1
    have hTs : 0 < T.size := by rw [ba_size]; exact hT0
    have hTg : T.get! 0 = x := by
      have h1 : T.data[0]? = some x := by rw [← Array.getElem?_toList]; exact hTl
      show T.data[0]! = x
      rw [getElem!_def, h1]
    have hd := decode_ge T (by rw [hTg]; exact hx1)
    have hd2 := decode_le T 0
    have hnx := fun ty => run_next_any (P := Tryd.prog) w' T 0 ty hTs
    generalize (Utf8.decode T 0).1 = r at hd hd2 hnx
    generalize 0 + (Utf8.decode T 0).2 = q at hnx
    have hr1 : (128 : Int) ≤ (r : Int) := by omega
    clear hTl hT0 hTs hTg hd
    have hF1 : Hid (Folds w') := hF
    have hRf : false = R := by
      rw [← HR.out]
      exact (fold_no_big hj hx hx1).symm
    subst hRf
    clear hF hM hx hx1 HR
    match j, hj with
    | 0, _ =>
      have hX : (⟨#[120, 109, 108]⟩ : ByteArray).extract 0 3 = ⟨#[120, 109, 108]⟩ := ba_ext (by rw [ba_cut]; rfl)
      have hX2 : (⟨#[120, 109, 108]⟩ : ByteArray).extract 1 3 = ⟨#[109, 108]⟩ := ba_ext (by rw [ba_cut]; rfl)
      have HD : Hid (∀ w, Calls Tryd.prog 60 #[.string ⟨#[120, 109, 108]⟩] w fun e w' => e = .returned (.tuple #[.int .i32 120, .int .i64 1]) ∧ w' = w) := decodeIn_any ⟨#[120, 109, 108]⟩ 120 (by decide) (by rw [Lib.toList_data]; simp) (fun w => by kernel_rfl)
      have HS1 : Hid (Calls Tryd.prog 61 #[.int .i32 120] (w'.iter T q) fun e w1 => e = .returned (.int .i32 88) ∧ w1 = w'.iter T q) := simple_any 120 88 (by omega) (by omega) (by omega) _ (fold_iter (p := (120, 88)) hF1.out (by simp))
      have HS2 : Hid (Calls Tryd.prog 61 #[.int .i32 88] (w'.iter T q) fun e w1 => e = .returned (.int .i32 120) ∧ w1 = w'.iter T q) := simple_any 88 120 (by omega) (by omega) (by omega) _ (fold_iter (p := (88, 120)) hF1.out (by simp))
      have r1 : ((120 : Int) == (r : Int)) = false := by rw [beq_eq_false_iff_ne]; omega
      have r2 : (120 : Int) < (r : Int) := by omega
      have r3 : ¬ (r : Int) < 128 := by omega
      have r4 : (88 : Int) < (r : Int) := by omega
      go_wp2
      refine wp_loop_rounds 1 ?_
      rw [rounds_succ]
      go_wp2_with fail
      refine (HD.out _).mono ?_
      rintro e w1 ⟨rfl, hw1⟩
      rw [hw1]
      go_wp2_with fail
      refine HS1.out.mono ?_
      rintro e w2 ⟨rfl, hw2⟩
      rw [hw2]
      go_wp2
      refine wp_loop_rounds 2 ?_
      rw [rounds_succ]
      go_wp2_with fail
      refine HS2.out.mono ?_
      rintro e w3 ⟨rfl, hw3⟩
      rw [hw3]
      go_wp2
      rw [rounds_succ]
      go_wp2
      simp only [Exit.jump]
      go_ret
      exact ⟨rfl, (Below.refl w'.heap.size w').alloc (Nat.le_refl _) _⟩
    | 1, _ =>
      have hX : (⟨#[120, 109, 108]⟩ : ByteArray).extract 1 3 = ⟨#[109, 108]⟩ := ba_ext (by rw [ba_cut]; rfl)
      have hX2 : (⟨#[109, 108]⟩ : ByteArray).extract 1 2 = ⟨#[108]⟩ := ba_ext (by rw [ba_cut]; rfl)
      have HD : Hid (∀ w, Calls Tryd.prog 60 #[.string ⟨#[109, 108]⟩] w fun e w' => e = .returned (.tuple #[.int .i32 109, .int .i64 1]) ∧ w' = w) := decodeIn_any ⟨#[109, 108]⟩ 109 (by decide) (by rw [Lib.toList_data]; simp) (fun w => by kernel_rfl)
      have HS1 : Hid (Calls Tryd.prog 61 #[.int .i32 109] (w'.iter T q) fun e w1 => e = .returned (.int .i32 77) ∧ w1 = w'.iter T q) := simple_any 109 77 (by omega) (by omega) (by omega) _ (fold_iter (p := (109, 77)) hF1.out (by simp))
      have HS2 : Hid (Calls Tryd.prog 61 #[.int .i32 77] (w'.iter T q) fun e w1 => e = .returned (.int .i32 109) ∧ w1 = w'.iter T q) := simple_any 77 109 (by omega) (by omega) (by omega) _ (fold_iter (p := (77, 109)) hF1.out (by simp))
      have r1 : ((109 : Int) == (r : Int)) = false := by rw [beq_eq_false_iff_ne]; omega
      have r2 : (109 : Int) < (r : Int) := by omega
      have r3 : ¬ (r : Int) < 128 := by omega
      have r4 : (77 : Int) < (r : Int) := by omega
      go_wp2
      refine wp_loop_rounds 1 ?_
      rw [rounds_succ]
      go_wp2_with fail
      refine (HD.out _).mono ?_
      rintro e w1 ⟨rfl, hw1⟩
      rw [hw1]
      go_wp2_with fail
      refine HS1.out.mono ?_
      rintro e w2 ⟨rfl, hw2⟩
      rw [hw2]
      go_wp2
      refine wp_loop_rounds 2 ?_
      rw [rounds_succ]
      go_wp2_with fail
      refine HS2.out.mono ?_
      rintro e w3 ⟨rfl, hw3⟩
      rw [hw3]
      go_wp2
      rw [rounds_succ]
      go_wp2
      simp only [Exit.jump]
      go_ret
      exact ⟨rfl, (Below.refl w'.heap.size w').alloc (Nat.le_refl _) _⟩
    | 2, _ =>
      have hX : (⟨#[120, 109, 108]⟩ : ByteArray).extract 2 3 = ⟨#[108]⟩ := ba_ext (by rw [ba_cut]; rfl)
      have hX2 : (⟨#[108]⟩ : ByteArray).extract 1 1 = ⟨#[]⟩ := ba_ext (by rw [ba_cut]; rfl)
      have HD : Hid (∀ w, Calls Tryd.prog 60 #[.string ⟨#[108]⟩] w fun e w' => e = .returned (.tuple #[.int .i32 108, .int .i64 1]) ∧ w' = w) := decodeIn_any ⟨#[108]⟩ 108 (by decide) (by rw [Lib.toList_data]; simp) (fun w => by kernel_rfl)
      have HS1 : Hid (Calls Tryd.prog 61 #[.int .i32 108] (w'.iter T q) fun e w1 => e = .returned (.int .i32 76) ∧ w1 = w'.iter T q) := simple_any 108 76 (by omega) (by omega) (by omega) _ (fold_iter (p := (108, 76)) hF1.out (by simp))
      have HS2 : Hid (Calls Tryd.prog 61 #[.int .i32 76] (w'.iter T q) fun e w1 => e = .returned (.int .i32 108) ∧ w1 = w'.iter T q) := simple_any 76 108 (by omega) (by omega) (by omega) _ (fold_iter (p := (76, 108)) hF1.out (by simp))
      have r1 : ((108 : Int) == (r : Int)) = false := by rw [beq_eq_false_iff_ne]; omega
      have r2 : (108 : Int) < (r : Int) := by omega
      have r3 : ¬ (r : Int) < 128 := by omega
      have r4 : (76 : Int) < (r : Int) := by omega
      go_wp2
      refine wp_loop_rounds 1 ?_
      rw [rounds_succ]
      go_wp2_with fail
      refine (HD.out _).mono ?_
      rintro e w1 ⟨rfl, hw1⟩
      rw [hw1]
      go_wp2_with fail
      refine HS1.out.mono ?_
      rintro e w2 ⟨rfl, hw2⟩
      rw [hw2]
      go_wp2
      refine wp_loop_rounds 2 ?_
      rw [rounds_succ]
      go_wp2_with fail
      refine HS2.out.mono ?_
      rintro e w3 ⟨rfl, hw3⟩
      rw [hw3]
      go_wp2
      rw [rounds_succ]
      go_wp2
      simp only [Exit.jump]
      go_ret
      exact ⟨rfl, (Below.refl w'.heap.size w').alloc (Nat.le_refl _) _⟩
end Go.Proofs.YtalcmhngebobnaaDoor
