/-
  base.Encode: the letters of all parts. Conditions: there are not too many bytes.
-/
import Derived.Test.YthadagnebnakhaaBQueue
import Derived.Test.YthadagnebnakhaaBIdx
import Derived.Test.YthadagnebnakhaaBPureE
namespace Go.Proofs.Ythadagnebnakhaa
open Go.RowKit
set_option linter.unusedVariables false
theorem own_one {w w' : World} {B e n g : Nat} {v : Value} {xs : List Value} (h : w.ownsRow B e 1 v n xs) (hg : w.grownBy w' (some g)) (hB : g < B) : w'.ownsRow B e 1 v n xs := by
  obtain ⟨h1, h2 | ⟨g', cap, cur, hv, hg', hh, r⟩⟩ := h
  · exact ⟨h1, .inl h2⟩
  · refine ⟨h1, .inr ⟨g', cap, cur, hv, hg', ?_, r⟩⟩
    have hlt : g' < w.heap.size := by
      rcases Nat.lt_or_ge g' w.heap.size with hlt | hge
      · exact hlt
      · rw [Array.getElem?_eq_none hge] at hh; cases hh
    rw [hg.block g' hlt (fun e => by injection e; omega)]; exact hh
/-- Letters gathered in a slice of the call's own, a queue of bits in block g; nothing below has turned. -/
structure EB (g : Nat) (w : World) (T : List UInt8) (Z C : Nat) (v : Value) (wr : World) : Prop where
  own : wr.ownsRow (g + 1) 5 1 v T.length (u8c T)
  qu : Qu wr g Z C
  bl : Below g w wr
theorem EB.queue {g : Nat} {w wr w' : World} {T : List UInt8} {Z C Z' C' : Nat} {v : Value} (h : EB g w T Z C v wr) (hq : Qu w' g Z' C') (hg : wr.grownBy w' (some g)) : EB g w T Z' C' v w' :=
  ⟨own_one h.own hg (by omega), hq, h.bl.trans (below_one hg (Nat.le_refl _) (by have := Holds.lt h.qu; omega))⟩
theorem EB.letter {g : Nat} {w wr w' : World} {T T' : List UInt8} {Z C : Nat} {v v' : Value} (h : EB g w T Z C v wr) (ho : w'.ownsRow (g + 1) 5 1 v' T'.length (u8c T')) (hg : wr.grownBy w' v.ownBlock) : EB g w T' Z C v' w' :=
  ⟨ho, Holds.grown h.qu hg (fun e => by have := own_ge h.own g e.symm; omega), h.bl.grown hg (by have := Holds.lt h.qu; omega) (fun k e => by have := own_ge h.own k e; omega)⟩
theorem EB.alloc {g : Nat} {w wr : World} {T : List UInt8} {Z C : Nat} {v : Value} (h : EB g w T Z C v wr) (o : Obj) : EB g w T Z C v (wr.alloc o) :=
  ⟨h.own.alloc o, Holds.alloc h.qu o, h.bl.alloc (by have := Holds.lt h.qu; omega) o⟩
theorem EB.start (w : World) : EB w.heap.size w [] 0 0 (.slice none 0 0) (w.alloc (.cells #[.int .u64 0, .int .u64 0] 38)) :=
  ⟨World.ownsRow_nil _ _ _ _, Holds.fresh w _ _, (Below.refl _ _).alloc (Nat.le_refl _) _⟩
/-- append of one byte that has just been laid. -/
theorem app_byte {w : World} {ops : Array Oper} {rest : List Oper} {o : Oper} {a : Act} {Q : Exit → Act → World → Prop} (hgd : o.guard = none) (s x : Operand)
    (ho : o.op = .call { callee := .builtin .append, args := #[s, x], argTypes := #[22, 22] }) (g : Nat) (w0 : World) (T : List UInt8) (Z C : Nat) (v : Value) (hs : a.eval s = v) (hob : EB g w0 T Z C v w)
    (y : UInt8) (x0 : Int) (hx0 : x0 = v8 y) (hx : a.eval x = .slice (some ⟨w.heap.size, 0, none⟩) 1 1) (hn : T.length + 1 ≤ 1000000000000)
    (h : ∀ v' w', EB g w0 (T ++ [y]) Z C v' w' → wpList Try.prog ops Q rest (a.put o.dst v') w') : wpList Try.prog ops Q (o :: rest) a (w.alloc (.cells #[.int .u8 x0] 5)) := by
  subst hx0
  have hob' := hob.alloc (.cells #[.int .u8 (v8 y)] 5)
  refine app_list hgd s x ho (g + 1) T v hs hob'.own (by have := Holds.lt hob'.qu; omega) (some ⟨w.heap.size, 0, none⟩) 1 1 [y] hx rfl (fun h => by cases h) (fun _ => ⟨_, _, rfl, by simp, fun j v hv => by rw [Nat.zero_add, cell_of_row _ _ j _ _ _ (heap_alloc_last _ _)]; exact List.getElem?_toArray.trans hv⟩) hn fun v' w' h2 h3 => h v' w' (hob'.letter h2 h3)
/-- What holds at the head of the loop that takes letters out. -/
def EI (g : Nat) (w : World) (E : List UInt8 × Nat × Nat) (v : Value) (wr : World) : Prop :=
  ∃ T Z C, C ≤ 12 ∧ Z < 2 ^ C ∧ T.length ≤ 10000000 + (12 - C) ∧ drain T Z C = E ∧ EB g w T Z C v wr
def qcount (w : World) (g : Nat) : Nat := match w.cell? ⟨g, 1, none⟩ with | some (.int _ n) => n.toNat | _ => 0
theorem qcount_of {w : World} {g Z C : Nat} (h : Qu w g Z C) : qcount w g = C := by
  unfold qcount
  rw [show w.cell? ⟨g, 1, none⟩ = some (.int .u64 (C : Int)) from Holds.cell h 1]; simp
/-- At the head of the loop over a part's bytes. -/
def EM (g : Nat) (w : World) (pre l : List UInt8) (v i : Value) (wr : World) : Prop :=
  ∃ k : Nat, k ≤ l.length ∧ i = .int .i64 k ∧ EB g w (epart (pre ++ l.take k)).1 (epart (pre ++ l.take k)).2.1 (epart (pre ++ l.take k)).2.2 v wr
/-- At the head of the loop over the parts. -/
def EP (g : Nat) (w : World) (ps : List Part) (v i : Value) (wr : World) : Prop :=
  ∃ k : Nat, k ≤ ps.length ∧ i = .int .i64 k ∧ EB g w (epart (allOf (ps.take k))).1 (epart (allOf (ps.take k))).2.1 (epart (allOf (ps.take k))).2.2 v wr
/-- At the head of the loop that fills the last four up. -/
def EF (g : Nat) (w : World) (F : List UInt8) (v : Value) (wr : World) : Prop :=
  ∃ T f Z C, T.length ≤ 10000000 ∧ f ≤ 3 ∧ (T.length + f) % 4 = 0 ∧ T ++ List.replicate f 61 = F ∧ EB g w T Z C v wr
def lenV : Value → Nat | .slice _ n _ => n | _ => 0
theorem lenV_own {w : World} {B e n : Nat} {v : Value} {l : List UInt8} (h : w.ownsRow B e 1 v n (u8c l)) : lenV v = n := by
  obtain ⟨A, cap, rfl, _⟩ := own_form h; rfl
theorem zero_queue (w : World) : (zeroValue 38).run Try.prog w = .ok (.agg #[.int .u64 0, .int .u64 0]) w := by kernel_rfl
set_option maxHeartbeats 2000000 in
set_option maxRecDepth 100000 in
theorem encode_any (A : Option Addr) (ps : List Part) (cap : Nat) (w : World) (hA : PartsAt w A ps) (hps : ∀ p ∈ ps, p.lies w) (hl : ps.length ≤ 1000000) (hn : (allOf ps).length ≤ 1000000) :
    Calls Try.prog 9 #[.slice A ps.length cap] w fun e w' => e = .returned (.string ⟨(enc (allOf ps)).toArray⟩) ∧ Below w.heap.size w w' := by
  have HA := Lib.hid hA
  have HPS := Lib.hid hps
  have HS := Lib.hid (EB.start w)
  clear hA hps
  go_enter Try.func9, Try.ntmps9
  go_wp2
  go_loopw [3, 11] (EP w.heap.size w ps) (fun _ i _ => ps.length - (intOf i).toNat)
  case atStart => exact ⟨0, by omega, rfl, HS.out⟩
  case round =>
    clear HS
    obtain ⟨k, hk, rfl, hb⟩ := hrel
    by_cases hlt : k < ps.length
    · obtain ⟨p, hp⟩ : ∃ p, ps[k] = p := ⟨_, rfl⟩
      have hpm : p ∈ ps := by rw [← hp]; exact List.getElem_mem hlt
      obtain ⟨b, o, rfl, hbw, hra⟩ := HA.out (by intro h; rw [h] at hlt; simp at hlt)
      have hpl := HPS.out p hpm
      have cp : wr.cell? ⟨b, o + k, none⟩ = some (.slice p.at_ p.l.length p.cap) := by
        rw [hb.bl.cell (p := ⟨b, o + k, none⟩) hbw]
        refine hra k _ ?_
        rw [List.getElem?_map, List.getElem?_eq_getElem hlt, hp]; rfl
      have hall : allOf (ps.take (k + 1)) = allOf (ps.take k) ++ p.l := by
        rw [List.take_succ_eq_append_getElem hlt, hp]; simp [allOf]
      have hle : (allOf (ps.take (k + 1))).length ≤ (allOf ps).length := by
        have e : allOf ps = allOf (ps.take (k + 1)) ++ allOf (ps.drop (k + 1)) := by unfold allOf; rw [← List.flatMap_append, List.take_append_drop]
        rw [e, List.length_append]; omega
      rw [hall, List.length_append] at hle
      obtain ⟨pre, hpre⟩ : ∃ pre, allOf (ps.take k) = pre := ⟨_, rfl⟩
      rw [hpre] at hall hle hb
      obtain ⟨⟨pa, pl, pc⟩, hpq⟩ : ∃ q, p = q := ⟨_, rfl⟩
      subst hpq
      have HAL := Lib.hid hall
      have HB := Lib.hid hb
      have HPL : Hid (pl ≠ [] → ∃ b o, pa = some ⟨b, o, none⟩ ∧ b < w.heap.size ∧ w.rangeAt b o (u8c pl)) := hpl.2.2
      have hkz : (k : Int) < (ps.length : Int) := by omega
      clear hall hb hpl hp hpm hra hpre HPS HA
      dsimp only at *
      go_wp2
      go_loopw [3, 17] (EM w.heap.size w pre pl) (fun _ i _ => pl.length - (intOf i).toNat)
      case atStart => exact ⟨0, by omega, rfl, by rw [List.take_zero, List.append_nil]; exact HB.out⟩
      case round =>
        clear HB
        obtain ⟨j, hj, rfl, hb⟩ := hrel
        by_cases hjl : j < pl.length
        · obtain ⟨b', o', rfl, hbw', hra⟩ := HPL.out (by intro h; rw [h] at hjl; simp at hjl)
          obtain ⟨y, hy⟩ : ∃ y, pl.getD j 0 = y := ⟨_, rfl⟩
          obtain ⟨yn, hyn⟩ : ∃ yn, y.toNat = yn := ⟨_, rfl⟩
          have hy256 : yn < 256 := by rw [← hyn]; exact y.toNat_lt
          have cb : wr.cell? ⟨b', o' + j, none⟩ = some (.int .u8 (yn : Int)) := by
            rw [hb.bl.cell (p := ⟨b', o' + j, none⟩) hbw', hra j _ (u8c_at hjl), hy, ← hyn]; rfl
          have hnx : epart (pre ++ pl.take (j + 1)) = drain (epart (pre ++ pl.take j)).1 ((epart (pre ++ pl.take j)).2.1 * 256 + yn) ((epart (pre ++ pl.take j)).2.2 + 8) := by
            have e : pl.take (j + 1) = pl.take j ++ [y] := by
              rw [List.take_succ_eq_append_getElem hjl, ← hy, List.getD_eq_getElem?_getD, List.getElem?_eq_getElem hjl]; rfl
            rw [e, ← List.append_assoc, epart_next, hyn]
          have hok := epart_ok (pre ++ pl.take j)
          have hlen := epart_length (pre ++ pl.take j)
          have hlt2 : (pre ++ pl.take j).length ≤ 1000000 := by rw [List.length_append, List.length_take]; omega
          unfold EOk at hok
          generalize (epart (pre ++ pl.take j)).1 = T at *
          generalize (epart (pre ++ pl.take j)).2.1 = Z at *
          generalize (epart (pre ++ pl.take j)).2.2 = C at *
          obtain ⟨E, hE⟩ : ∃ E, epart (pre ++ pl.take (j + 1)) = E := ⟨_, rfl⟩
          rw [hE] at hnx
          have HEE := Lib.hid hE
          clear hE
          have hZC : Z < 2 ^ C := by rcases hok with ⟨rfl, rfl, _⟩ | ⟨rfl, h, _⟩ | ⟨rfl, h, _⟩ <;> simp <;> omega
          have hC4 : C ≤ 4 := by omega
          have hZ16 : Z < 16 := by omega
          have HPUT : Hid (Calls Try.prog 14 #[.pointer (some ⟨w.heap.size, 0, none⟩), .int .u64 (yn : Int), .int .u64 8] wr fun e w' => e = .returned (.tuple #[]) ∧ Qu w' w.heap.size (Z * 2 ^ 8 + yn) (C + 8) ∧ wr.grownBy w' (some w.heap.size)) := put_any w.heap.size Z C yn 8 wr hb.qu hy256 (by omega) (by omega) (by omega)
          have hjz : (j : Int) < (pl.length : Int) := by omega
          have HB := Lib.hid hb
          have HNX := Lib.hid hnx
          have HEI : Hid (∀ v w', EB w.heap.size w T (Z * 2 ^ 8 + yn) (C + 8) v w' → EI w.heap.size w E v w') := fun v w' h => by
            refine ⟨T, _, _, by omega, ?_, by omega, ?_, h⟩
            · rw [Nat.pow_add]
              have : (2 : Nat) ^ 8 = 256 := rfl
              rw [this]
              have : (Z + 1) * 256 ≤ 2 ^ C * 256 := Nat.mul_le_mul_right _ hZC
              omega
            · rw [hnx]
          clear hra hok hlen hlt2 hnx hb hy hyn hZC
          go_wp2_with fail
          refine HPUT.out.mono ?_
          rintro e w1 ⟨rfl, hq1, hg1⟩
          have HE1 := Lib.hid (HEI.out _ _ (HB.out.queue hq1 hg1))
          clear hq1 hg1 HEI HPUT HB
          go_wp2
          go_loopw [3] (EI w.heap.size w E) (fun _ w' => qcount w' w.heap.size)
          case atStart => exact HE1.out
          case round =>
            clear HE1 HNX
            obtain ⟨T, Z, C, hC, hZC, hT, hD, hb⟩ := hrel
            have ccnt : wr.cell? ⟨w.heap.size, 1, none⟩ = some (.int .u64 (C : Int)) := Holds.cell hb.qu 1
            have HQC := Lib.hid (qcount_of hb.qu)
            by_cases h6 : 6 ≤ C
            · rw [drain_more h6] at hD
              have hZ1 : Z / 2 ^ (C - 6) < 64 := by
                have e : 2 ^ C = 64 * 2 ^ (C - 6) := by
                  rw [show (64 : Nat) = 2 ^ 6 from rfl, ← Nat.pow_add, show 6 + (C - 6) = C by omega]
                rw [Nat.div_lt_iff_lt_mul (Nat.two_pow_pos _), ← e]; exact hZC
              have hZ2 : Z % 2 ^ (C - 6) < 2 ^ (C - 6) := Nat.mod_lt _ (Nat.two_pow_pos _)
              have hZb : Z < 2 ^ 12 := Nat.lt_of_lt_of_le hZC (Nat.pow_le_pow_right (by omega) hC)
              have HTK : Hid (Calls Try.prog 15 #[.pointer (some ⟨w.heap.size, 0, none⟩), .int .u64 6] wr fun e w' => e = .returned (.int .u64 ((Z / 2 ^ (C - 6) : Nat) : Int)) ∧ Qu w' w.heap.size (Z % 2 ^ (C - 6)) (C - 6) ∧ wr.grownBy w' (some w.heap.size)) := take_any w.heap.size Z C 6 wr hb.qu h6 (by omega) (by omega)
              obtain ⟨m, hm⟩ : ∃ m, Z / 2 ^ (C - 6) = m := ⟨_, rfl⟩
              rw [hm] at hZ1 hD HTK
              have hix := index_let hZ1
              have hd : (6 : Int) ≤ (C : Int) := by omega
              have HD := Lib.hid hD
              have HZ2 := Lib.hid hZ2
              have HB := Lib.hid hb
              clear hD hZ2 hZb hm hZC hb
              go_wp2_with fail
              refine HTK.out.mono ?_
              rintro e w1 ⟨rfl, hq1, hg1⟩
              have hE1 := HB.out.queue hq1 hg1
              have HE1 := Lib.hid hE1
              clear hq1 hg1 hE1 HB HTK ccnt
              go_wp2_with (at_builtin; refine app_byte rfl _ _ rfl w.heap.size w T _ _ _ rfl HE1.out (ltr m) _ rfl rfl (by omega) ?_; intro v2 w2 hE2)
              go_roundw
              case rel => exact ⟨_, _, _, by omega, HZ2.out, by simp; omega, HD.out, hE2⟩
              case measure => rw [HQC.out, qcount_of hE2.qu]; omega
            · rw [drain_done h6] at hD
              have hd : ¬ (6 : Int) ≤ (C : Int) := by omega
              have hd1 := decide_eq_false hd
              have HD := Lib.hid hD
              have HB := Lib.hid hb
              clear hD hb hZC
              go_wp2
              go_roundw
              case rel => exact ⟨j + 1, by omega, by go_num, by rw [HEE.out, ← HD.out]; exact HB.out⟩
              case measure => simp [intOf]; omega
        · have hjz : ¬ (j : Int) < (pl.length : Int) := by omega
          have hjz1 := decide_eq_false hjz
          rw [List.take_of_length_le (by omega)] at hb
          have HB := Lib.hid hb
          clear hb
          go_wp2
          go_roundw
          case rel => exact ⟨k + 1, by omega, by go_num, by rw [HAL.out]; exact HB.out⟩
          case measure => simp [intOf]; omega
    · have hkz : ¬ (k : Int) < (ps.length : Int) := by omega
      have hkz1 := decide_eq_false hkz
      rw [List.take_of_length_le (by omega)] at hb
      have HFF : Hid (∀ F, enc (allOf ps) = F → F = enc (allOf ps)) := fun F h => h.symm
      obtain ⟨bs, hbs⟩ : ∃ bs, allOf ps = bs := ⟨_, rfl⟩
      have HBS := Lib.hid hbs
      rw [hbs] at hb hn
      have ccnt : wr.cell? ⟨w.heap.size, 1, none⟩ = some (.int .u64 ((epart bs).2.2 : Int)) := Holds.cell hb.qu 1
      obtain ⟨he0, he2, he4⟩ := epart_end bs
      have hok := epart_ok bs
      unfold EOk at hok
      have hlen := epart_length bs
      generalize (epart bs).1 = T at *
      generalize (epart bs).2.1 = Z at *
      generalize (epart bs).2.2 = C at *
      obtain ⟨F, hF⟩ : ∃ F, enc bs = F := ⟨_, rfl⟩
      rw [hF] at he0 he2 he4
      have HF := Lib.hid hF
      have hTl : T.length ≤ 2000000 := by omega
      clear HA HPS hlen hn hF hbs HFF
      rcases hok with ⟨rfl, rfl, h4⟩ | ⟨rfl, hZ, h4⟩ | ⟨rfl, hZ, h4⟩
      case' inl =>
        have HEF : Hid (EF w.heap.size w F u3 wr) := ⟨T, 0, 0, 0, by omega, by omega, by omega, by rw [he0 rfl]; simp, hb⟩
        clear hb he0 he2 he4
        go_wp2
      case' inr.inl =>
        have HPUT : Hid (Calls Try.prog 14 #[.pointer (some ⟨w.heap.size, 0, none⟩), .int .u64 0, .int .u64 4] wr fun e w' => e = .returned (.tuple #[]) ∧ Qu w' w.heap.size (Z * 2 ^ 4 + 0) (2 + 4) ∧ wr.grownBy w' (some w.heap.size)) := put_any w.heap.size Z 2 0 4 wr hb.qu (by omega) (by omega) (by omega) (by omega)
        have HZ : Hid (F = T ++ [ltr (Z * 16), 61, 61]) := he2 rfl
        have HB := Lib.hid hb
        clear hb he0 he2 he4
        go_wp2_with fail
        refine HPUT.out.mono ?_
        rintro e w1 ⟨rfl, hq1, hg1⟩
        have hE1 := HB.out.queue hq1 hg1
        have HTK : Hid (Calls Try.prog 15 #[.pointer (some ⟨w.heap.size, 0, none⟩), .int .u64 6] w1 fun e w' => e = .returned (.int .u64 ((Z * 16 : Nat) : Int)) ∧ Qu w' w.heap.size 0 0 ∧ w1.grownBy w' (some w.heap.size)) := (take_any w.heap.size (Z * 2 ^ 4 + 0) (2 + 4) 6 w1 hq1 (by omega) (by omega) (by omega)).mono fun e w' h => by
          simp only [Nat.add_zero, Nat.reduceAdd, Nat.reduceSub, Nat.reducePow, Nat.pow_zero, Nat.div_one, Nat.mod_one] at h
          exact h
        have hix := index_let (m := Z * 16) (by omega)
        have HE1 := Lib.hid hE1
        clear hq1 hg1 hE1 HB HPUT ccnt
        go_wp2_with fail
        refine HTK.out.mono ?_
        rintro e w2 ⟨rfl, hq2, hg2⟩
        have hE2 := HE1.out.queue hq2 hg2
        have HE2 := Lib.hid hE2
        clear hq2 hg2 hE2 HE1 HTK
        generalize Z * 16 = m at *
        go_wp2_with (at_builtin; refine app_byte rfl _ _ rfl w.heap.size w T _ _ _ rfl HE2.out (ltr m) _ rfl rfl (by omega) ?_; intro v2 w3 hE3)
        have HEF : Hid (EF w.heap.size w F v2 w3) := ⟨T ++ [ltr m], 2, 0, 0, by simp; omega, by omega, by simp; omega, by rw [HZ.out]; simp [List.replicate], hE3⟩
        clear hE3 HE2
      case' inr.inr =>
        have HPUT : Hid (Calls Try.prog 14 #[.pointer (some ⟨w.heap.size, 0, none⟩), .int .u64 0, .int .u64 2] wr fun e w' => e = .returned (.tuple #[]) ∧ Qu w' w.heap.size (Z * 2 ^ 2 + 0) (4 + 2) ∧ wr.grownBy w' (some w.heap.size)) := put_any w.heap.size Z 4 0 2 wr hb.qu (by omega) (by omega) (by omega) (by omega)
        have HZ : Hid (F = T ++ [ltr (Z * 4), 61]) := he4 rfl
        have HB := Lib.hid hb
        clear hb he0 he2 he4
        go_wp2_with fail
        refine HPUT.out.mono ?_
        rintro e w1 ⟨rfl, hq1, hg1⟩
        have hE1 := HB.out.queue hq1 hg1
        have HTK : Hid (Calls Try.prog 15 #[.pointer (some ⟨w.heap.size, 0, none⟩), .int .u64 6] w1 fun e w' => e = .returned (.int .u64 ((Z * 4 : Nat) : Int)) ∧ Qu w' w.heap.size 0 0 ∧ w1.grownBy w' (some w.heap.size)) := (take_any w.heap.size (Z * 2 ^ 2 + 0) (4 + 2) 6 w1 hq1 (by omega) (by omega) (by omega)).mono fun e w' h => by
          simp only [Nat.add_zero, Nat.reduceAdd, Nat.reduceSub, Nat.reducePow, Nat.pow_zero, Nat.div_one, Nat.mod_one] at h
          exact h
        have hix := index_let (m := Z * 4) (by omega)
        have HE1 := Lib.hid hE1
        clear hq1 hg1 hE1 HB HPUT ccnt
        go_wp2_with fail
        refine HTK.out.mono ?_
        rintro e w2 ⟨rfl, hq2, hg2⟩
        have hE2 := HE1.out.queue hq2 hg2
        have HE2 := Lib.hid hE2
        clear hq2 hg2 hE2 HE1 HTK
        generalize Z * 4 = m at *
        go_wp2_with (at_builtin; refine app_byte rfl _ _ rfl w.heap.size w T _ _ _ rfl HE2.out (ltr m) _ rfl rfl (by omega) ?_; intro v2 w3 hE3)
        have HEF : Hid (EF w.heap.size w F v2 w3) := ⟨T ++ [ltr m], 1, 0, 0, by simp; omega, by omega, by simp; omega, by rw [HZ.out]; simp [List.replicate], hE3⟩
        clear hE3 HE2
      all_goals
        go_loopw [3] (EF w.heap.size w F) (fun v _ => (4 - lenV v % 4) % 4)
        case atStart => exact HEF.out
        case round =>
          clear HEF
          obtain ⟨T, f, Z, C, hTm, hf, h4, hFe, hE⟩ := hrel
          obtain ⟨A', cap', hv, hcl, hcm, hnil, hli⟩ := own_full hE.own rfl
          have hT4 : T.length % 4 = (4 - f) % 4 := by omega
          by_cases hz : f = 0
          · subst hz
            have hTF : T = F := by rw [← hFe]; simp
            subst hTF
            have hcv := conv_lies cap' hli
            have ht1 : ((T.length : Int) % 4 != 0) = false := by simp; omega
            have hbl := hE.bl
            have HV := Lib.hid hv
            subst hv
            clear hli hE hFe
            go_wp2
            go_ret
            exact ⟨by rw [HBS.out, HF.out]; rfl, hbl⟩
          · have ht1 : ((T.length : Int) % 4 != 0) = true := by simp; omega
            have HE := Lib.hid hE
            have HFE := Lib.hid hFe
            have HLV := Lib.hid (lenV_own hE.own)
            subst hv
            clear hli hE hFe
            go_wp2_with (at_builtin; refine app_byte rfl _ _ rfl w.heap.size w T _ _ _ rfl HE.out 61 _ rfl rfl (by omega) ?_; intro v2 w3 hE3)
            go_roundw
            case rel =>
              refine ⟨T ++ [61], f - 1, _, _, by simp; omega, by omega, by simp; omega, ?_, hE3⟩
              rw [← HFE.out, List.append_assoc]
              congr 1
              obtain ⟨f', rfl⟩ : ∃ f', f = f' + 1 := ⟨f - 1, by omega⟩
              simp [List.replicate_succ]
            case measure =>
              rw [HLV.out, lenV_own hE3.own]; simp; omega
end Go.Proofs.Ythadagnebnakhaa
