/-
  base.Decode: the bytes whose letters a text is. Conditions: the text is not too long.
-/
import Derived.Test.YthadagnebnakhaaBEnc
import Derived.Test.YthadagnebnakhaaBPureD
namespace Go.Proofs.Ythadagnebnakhaa
open Go.RowKit
set_option linter.unusedVariables false
/-- A text as bytes of its own. -/
theorem conv_text (s : List UInt8) (w : World) : ∃ (n cap : Nat) (W : World), n = s.length ∧ (convert 9 22 (.string ⟨s.toArray⟩)).run Try.prog w = .ok (.slice (some ⟨w.heap.size, 0, none⟩) n cap) W ∧
    W.rangeAt w.heap.size 0 (u8c s) ∧ w.heap.size < W.heap.size ∧ Below w.heap.size w W := by
  refine ⟨(ByteArray.mk s.toArray).size, _, _, rfl, run_bytes_of_string w 9 22 5 ⟨s.toArray⟩ Try.underlying9 Try.underlying22 Try.underlying5, ?_, by simp, ?_⟩
  · intro j v hv
    have hj : j < s.length := by have := (List.getElem?_eq_some_iff.1 hv).1; rwa [u8c_length] at this
    rw [Nat.zero_add]
    have hh := heap_alloc_last w.drew (.cells (bytesRow ⟨s.toArray⟩ (grownCap w (ByteArray.mk s.toArray).size 0 5)) 5 ((bytesRow ⟨s.toArray⟩ (grownCap w (ByteArray.mk s.toArray).size 0 5)).size, (bytesRow ⟨s.toArray⟩ (grownCap w (ByteArray.mk s.toArray).size 0 5)).size + 1))
    rw [cell_of_row _ w.heap.size j _ _ _ hh, bytesRow_at _ _ j (by simpa using hj), ← hv, u8c_at hj]
    simp [v8, List.getD_eq_getElem?_getD, List.getElem?_eq_getElem hj]
  · exact ((Below.refl w.heap.size w).drew).alloc (Nat.le_refl _) _
/-- Bytes gathered, a queue of bits in block g, the text's bytes behind it; nothing below has turned. -/
structure DB (g : Nat) (s : List UInt8) (w : World) (T : List UInt8) (Z C : Nat) (v : Value) (wr : World) : Prop where
  own : wr.ownsRow (g + 2) 5 1 v T.length (u8c T)
  qu : Qu wr g Z C
  tx : wr.rangeAt (g + 1) 0 (u8c s)
  lt : g + 1 < wr.heap.size
  bl : Below g w wr
theorem DB.queue {g : Nat} {s : List UInt8} {w wr w' : World} {T : List UInt8} {Z C Z' C' : Nat} {v : Value} (h : DB g s w T Z C v wr) (hq : Qu w' g Z' C') (hg : wr.grownBy w' (some g)) : DB g s w T Z' C' v w' :=
  ⟨own_one h.own hg (by omega), hq, range_keep h.tx (hg.block _ h.lt (fun e => by injection e; omega)), Nat.lt_of_lt_of_le h.lt hg.size, h.bl.trans (below_one hg (Nat.le_refl _) (by have := Holds.lt h.qu; omega))⟩
theorem DB.byte {g : Nat} {s : List UInt8} {w wr w' : World} {T T' : List UInt8} {Z C : Nat} {v v' : Value} (h : DB g s w T Z C v wr) (ho : w'.ownsRow (g + 2) 5 1 v' T'.length (u8c T')) (hg : wr.grownBy w' v.ownBlock) : DB g s w T' Z C v' w' :=
  ⟨ho, Holds.grown h.qu hg (fun e => by have := own_ge h.own g e.symm; omega), range_keep h.tx (hg.block _ h.lt (fun e => by have := own_ge h.own (g + 1) e.symm; omega)), Nat.lt_of_lt_of_le h.lt hg.size, h.bl.grown hg (by have := Holds.lt h.qu; omega) (fun k e => by have := own_ge h.own k e; omega)⟩
theorem DB.alloc {g : Nat} {s : List UInt8} {w wr : World} {T : List UInt8} {Z C : Nat} {v : Value} (h : DB g s w T Z C v wr) (o : Obj) : DB g s w T Z C v (wr.alloc o) :=
  ⟨h.own.alloc o, Holds.alloc h.qu o, range_keep h.tx (Below.heap_alloc _ _ _ h.lt), by have := h.lt; simp; omega, h.bl.alloc (by have := Holds.lt h.qu; omega) o⟩
theorem app_byteD {w : World} {ops : Array Oper} {rest : List Oper} {o : Oper} {a : Act} {Q : Exit → Act → World → Prop} (hgd : o.guard = none) (s x : Operand)
    (ho : o.op = .call { callee := .builtin .append, args := #[s, x], argTypes := #[22, 22] }) (g : Nat) (tx : List UInt8) (w0 : World) (T : List UInt8) (Z C : Nat) (v : Value) (hs : a.eval s = v) (hob : DB g tx w0 T Z C v w)
    (y : UInt8) (x0 : Int) (hx0 : x0 = v8 y) (hx : a.eval x = .slice (some ⟨w.heap.size, 0, none⟩) 1 1) (hn : T.length + 1 ≤ 1000000000000)
    (h : ∀ v' w', DB g tx w0 (T ++ [y]) Z C v' w' → wpList Try.prog ops Q rest (a.put o.dst v') w') : wpList Try.prog ops Q (o :: rest) a (w.alloc (.cells #[.int .u8 x0] 5)) := by
  subst hx0
  have hob' := hob.alloc (.cells #[.int .u8 (v8 y)] 5)
  refine app_list hgd s x ho (g + 2) T v hs hob'.own (by have := hob'.lt; omega) (some ⟨w.heap.size, 0, none⟩) 1 1 [y] hx rfl (fun h => by cases h) (fun _ => ⟨_, _, rfl, by simp, fun j v hv => by rw [Nat.zero_add, cell_of_row _ _ j _ _ _ (heap_alloc_last _ _)]; exact List.getElem?_toArray.trans hv⟩) hn fun v' w' h2 h3 => h v' w' (hob'.byte h2 h3)
/-- What is answered. -/
def DecAns (B : Nat) (s : List UInt8) (e : Ending) (w' : World) : Prop :=
  (∃ b v, dec s = some b ∧ e = .returned (.tuple #[v, .bool true]) ∧ w'.ownsRow B 5 1 v b.length (u8c b)) ∨ (dec s = none ∧ e = .returned (.tuple #[.slice none 0 0, .bool false]))
/-- At the head of the loop. -/
def DR (g : Nat) (s : List UInt8) (w : World) (v4 v6 v7 i : Value) (wr : World) : Prop :=
  ∃ (k : Nat) (out : List UInt8) (z n len fil : Nat), k ≤ s.length ∧ i = .int .i64 k ∧ v6 = .int .i64 len ∧ v7 = .int .i64 fil ∧ len ≤ k ∧ fil ≤ k ∧ out.length ≤ k ∧ n ≤ 7 ∧ z < 2 ^ n ∧ rd (s.drop k) out z n len fil = rd s [] 0 0 0 0 ∧ DB g s w out z n v4 wr
theorem own_le {w : World} {B B' e n : Nat} {v : Value} {xs : List Value} (h : w.ownsRow B' e 1 v n xs) (hB : B ≤ B') : w.ownsRow B e 1 v n xs := by
  obtain ⟨h1, h2 | ⟨g', cap, cur, hv, hg', hh, r⟩⟩ := h
  · exact ⟨h1, .inl h2⟩
  · exact ⟨h1, .inr ⟨g', cap, cur, hv, Nat.le_trans hB hg', hh, r⟩⟩
set_option maxHeartbeats 2000000 in
set_option maxRecDepth 100000 in
theorem decode_any (s : List UInt8) (w : World) (hn : s.length ≤ 1000000) :
    Calls Try.prog 10 #[.string ⟨s.toArray⟩] w fun e w' => DecAns w.heap.size s e w' ∧ Below w.heap.size w w' := by
  obtain ⟨S, hS⟩ : ∃ S : ByteArray, ⟨s.toArray⟩ = S := ⟨_, rfl⟩
  obtain ⟨N, cap, W, hN, hcv, hra, hlt, hbl⟩ := conv_text s (w.alloc (.cells #[.int .u64 0, .int .u64 0] 38))
  rw [hS] at hcv
  have hsz : (w.alloc (.cells #[.int .u64 0, .int .u64 0] 38)).heap.size = w.heap.size + 1 := by simp
  rw [hsz] at hcv hra hlt hbl
  have HDB : Hid (DB w.heap.size s w [] 0 0 (.slice none 0 0) W) := ⟨World.ownsRow_nil _ _ _ _, Holds.below (Holds.fresh w _ _) hbl (by omega), hra, hlt, ((Below.refl w.heap.size w).alloc (Nat.le_refl _) _).trans (hbl.mono (by omega))⟩
  have HN := Lib.hid hN
  rw [← hN] at hn
  rw [hS]
  clear hS hsz hra hlt hbl hN
  go_enter Try.func10, Try.ntmps10
  go_wp2
  go_loopw [4, 6, 7, 14] (DR w.heap.size s w) (fun _ _ _ i _ => N - (intOf i).toNat)
  case atStart => exact ⟨0, [], 0, 0, 0, 0, by omega, rfl, rfl, rfl, by omega, by omega, by simp, by omega, by omega, rfl, HDB.out⟩
  case round =>
    clear HDB hcv
    obtain ⟨k, out, z, n, len, fil, hk, rfl, rfl, rfl, hlen, hfil, hout, hn7, hz, hrd, hD⟩ := hrel
    rw [← HN.out] at hk
    by_cases hlt : k < N
    · have hkl : k < s.length := by rw [← HN.out]; exact hlt
      obtain ⟨c, hc⟩ : ∃ c, s.getD k 0 = c := ⟨_, rfl⟩
      have cc : wr.cell? ⟨w.heap.size + 1, k, none⟩ = some (.int .u8 (v8 c)) := by
        have := hD.tx k _ (u8c_at hkl)
        rwa [Nat.zero_add, hc] at this
      have hdrop : s.drop k = c :: s.drop (k + 1) := by
        rw [List.drop_eq_getElem_cons hkl, ← hc, List.getD_eq_getElem?_getD, List.getElem?_eq_getElem hkl]; rfl
      rw [hdrop] at hrd
      have hkz : (k : Int) < (N : Int) := by omega
      clear hdrop hc
      cases hbk : blank c with
      | true =>
        rw [rd_blank hbk] at hrd
        have HRD := Lib.hid hrd
        have HD := Lib.hid hD
        have HBK := Lib.hid (blanks_any c)
        clear hrd hD
        go_wp2_with fail
        refine (HBK.out wr).mono ?_
        rintro e w1 ⟨⟨z1, rfl, hz1⟩, rfl⟩
        rw [hbk] at hz1
        have hz1' := of_decide_eq_true hz1
        go_wp2
        go_roundw
        case rel => exact ⟨k + 1, out, z, n, len, fil, by rw [← HN.out]; omega, by go_num, rfl, rfl, by omega, by omega, by omega, hn7, hz, HRD.out, HD.out⟩
        case measure => simp [intOf]; omega
      | false =>
        have HD := Lib.hid hD
        have HBK := Lib.hid (blanks_any c)
        go_wp2_with fail
        refine (HBK.out wr).mono ?_
        rintro e w1 ⟨⟨z1, rfl, hz1⟩, rfl⟩
        rw [hbk] at hz1
        have hz1' := of_decide_eq_false hz1
        clear HBK
        by_cases h61 : c = 61
        · subst h61
          rw [rd_eq] at hrd
          have HRD := Lib.hid hrd
          clear hrd hD
          have hv61 : v8 61 = 61 := rfl
          go_wp2
          go_roundw
          case rel => exact ⟨k + 1, out, z, n, len + 1, fil + 1, by rw [← HN.out]; omega, by go_num, by go_num, by go_num, by omega, by omega, by omega, hn7, hz, HRD.out, HD.out⟩
          case measure => simp [intOf]; omega
        · have hv61 : ¬ v8 c = 61 := fun e => h61 (v8_inj.1 (e.trans (show (61 : Int) = v8 61 from rfl)))
          have hv61b : (v8 c == 61) = false := by simpa using hv61
          have HLT := Lib.hid (letters_any c)
          cases hnum : num c with
          | none =>
            have hI : numI c = -1 := by unfold numI; rw [hnum]
            rw [rd_bad hbk h61 hnum] at hrd
            have HDN : Hid (dec s = none) := by unfold Hid; rw [← rd_dec, ← hrd]; rfl
            clear hrd hD
            go_wp2_with fail
            refine (HLT.out wr).mono ?_
            rintro e w1 ⟨rfl, rfl⟩
            rw [hI]
            go_wp2
            go_ret2
            exact ⟨.inr ⟨HDN.out, rfl⟩, HD.out.bl⟩
          | some x =>
            have hI : numI c = (x : Int) := by unfold numI; rw [hnum]
            have hx := (num_some hnum).1
            by_cases hf : 0 < fil
            · rw [rd_behind hbk h61 hf] at hrd
              have HDN : Hid (dec s = none) := by unfold Hid; rw [← rd_dec, ← hrd]; rfl
              have hfz : (0 : Int) < (fil : Int) := by omega
              have hxz : ¬ (x : Int) < 0 := by omega
              have hxz1 := decide_eq_false hxz
              clear hrd hD
              go_wp2_with fail
              refine (HLT.out wr).mono ?_
              rintro e w1 ⟨rfl, rfl⟩
              rw [hI]
              go_wp2
              go_ret2
              exact ⟨.inr ⟨HDN.out, rfl⟩, HD.out.bl⟩
            · obtain rfl : fil = 0 := by omega
              rw [rd_let hbk hnum] at hrd
              have hxz : ¬ (x : Int) < 0 := by omega
              have hxz1 := decide_eq_false hxz
              have hz128 : z < 128 := Nat.lt_of_lt_of_le hz (Nat.pow_le_pow_right (n := 2) (j := 7) (by omega) hn7)
              have HPUT : Hid (Calls Try.prog 14 #[.pointer (some ⟨w.heap.size, 0, none⟩), .int .u64 (x : Int), .int .u64 6] wr fun e w' => e = .returned (.tuple #[]) ∧ Qu w' w.heap.size (z * 2 ^ 6 + x) (n + 6) ∧ wr.grownBy w' (some w.heap.size)) := put_any w.heap.size z n x 6 wr hD.qu hx (by omega) (by omega) (by omega)
              have hzx : z * 64 + x < 2 ^ (n + 6) := by
                rw [Nat.pow_add, show (2 : Nat) ^ 6 = 64 from rfl]
                have : (z + 1) * 64 ≤ 2 ^ n * 64 := Nat.mul_le_mul_right _ hz
                omega
              have HZX := Lib.hid hzx
              by_cases h8 : n + 6 ≥ 8
              · rw [if_pos h8] at hrd
                have HRD := Lib.hid hrd
                clear hrd hD hzx
                have h8z : (8 : Int) ≤ ((n + 6 : Nat) : Int) := by omega
                go_wp2_with fail
                refine (HLT.out wr).mono ?_
                rintro e w1 ⟨rfl, rfl⟩
                rw [hI]
                go_wp2_with fail
                refine HPUT.out.mono ?_
                rintro e w1 ⟨rfl, hq1, hg1⟩
                have hE1 := HD.out.queue hq1 hg1
                have HTK : Hid (Calls Try.prog 15 #[.pointer (some ⟨w.heap.size, 0, none⟩), .int .u64 8] w1 fun e w' => e = .returned (.int .u64 (((z * 64 + x) / 2 ^ (n + 6 - 8) : Nat) : Int)) ∧ Qu w' w.heap.size ((z * 64 + x) % 2 ^ (n + 6 - 8)) (n + 6 - 8) ∧ w1.grownBy w' (some w.heap.size)) := take_any w.heap.size (z * 64 + x) (n + 6) 8 w1 hq1 h8 (by omega) (by omega)
                have ccnt : w1.cell? ⟨w.heap.size, 1, none⟩ = some (.int .u64 ((n + 6 : Nat) : Int)) := Holds.cell hq1 1
                have HE1 := Lib.hid hE1
                clear hq1 hg1 hE1 HPUT HLT HD cc
                obtain ⟨y, hy⟩ : ∃ y, (z * 64 + x) / 2 ^ (n + 6 - 8) = y := ⟨_, rfl⟩
                have hy256 : y < 256 := by
                  rw [← hy, Nat.div_lt_iff_lt_mul (Nat.two_pow_pos _), show (256 : Nat) = 2 ^ 8 from rfl, ← Nat.pow_add, show 8 + (n + 6 - 8) = n + 6 by omega]
                  exact HZX.out
                rw [hy] at HTK HRD
                have hyb : (y : Int) = v8 (UInt8.ofNat y) := by unfold v8; rw [UInt8.toNat_ofNat', Nat.mod_eq_of_lt (by omega)]
                have hyw : IntKind.u8.wrap (y : Int) = v8 (UInt8.ofNat y) := by
                  rw [← hyb, IntKind.wrap_u8']; omega
                clear hyb
                have hm13 : n + 6 ≤ 13 := by omega
                generalize n + 6 = m at *
                go_wp2_with fail
                refine HTK.out.mono ?_
                rintro e w2 ⟨rfl, hq2, hg2⟩
                have HE2 := Lib.hid (HE1.out.queue hq2 hg2)
                clear hq2 hg2 HE1 HTK ccnt
                go_wp2_with (at_builtin; refine app_byteD rfl _ _ rfl w.heap.size s w out _ _ _ rfl HE2.out (UInt8.ofNat y) _ rfl rfl (by omega) ?_; intro v3 w3 hE3)
                go_roundw
                case rel => exact ⟨k + 1, _, _, m - 8, len + 1, 0, by rw [← HN.out]; omega, by go_num, by go_num, rfl, by omega, by omega, by simp; omega, by omega, Nat.mod_lt _ (Nat.two_pow_pos _), HRD.out, hE3⟩
                case measure => simp [intOf]; omega
              · rw [if_neg h8] at hrd
                have HRD := Lib.hid hrd
                clear hrd hD hzx
                have h8z : ¬ (8 : Int) ≤ ((n + 6 : Nat) : Int) := by omega
                have h8z1 := decide_eq_false h8z
                go_wp2_with fail
                refine (HLT.out wr).mono ?_
                rintro e w1 ⟨rfl, rfl⟩
                rw [hI]
                go_wp2_with fail
                refine HPUT.out.mono ?_
                rintro e w1 ⟨rfl, hq1, hg1⟩
                have ccnt : w1.cell? ⟨w.heap.size, 1, none⟩ = some (.int .u64 ((n + 6 : Nat) : Int)) := Holds.cell hq1 1
                have HE1 := Lib.hid (HD.out.queue hq1 hg1)
                clear hq1 hg1 HPUT HLT HD cc
                have hm7 : n + 6 ≤ 7 := by omega
                generalize n + 6 = m at *
                go_wp2
                go_roundw
                case rel => exact ⟨k + 1, out, _, m, len + 1, 0, by rw [← HN.out]; omega, by go_num, by go_num, rfl, by omega, by omega, by omega, hm7, HZX.out, HRD.out, HE1.out⟩
                case measure => simp [intOf]; omega
    · have hkN : k = s.length := by rw [← HN.out]; omega
      have hdr : s.drop k = [] := by rw [hkN]; exact List.drop_length
      rw [hdr, rd] at hrd
      have hdec : dec s = rfin (some (out, z, len, fil)) := by rw [hrd, rd_dec]
      rw [rfin] at hdec
      have hkz : ¬ (k : Int) < (N : Int) := by omega
      have hkz1 := decide_eq_false hkz
      have cz : wr.cell? ⟨w.heap.size, 0, none⟩ = some (.int .u64 (z : Int)) := Holds.cell hD.qu 0
      have HD := Lib.hid hD
      clear hrd hD hdr hkN hz
      by_cases h4 : len % 4 = 0
      · have h4z : ((len : Int) % 4 != 0) = false := by simp; omega
        by_cases hf : 2 < fil
        · have hfz : (2 : Int) < (fil : Int) := by omega
          rw [if_pos (by omega)] at hdec
          have HDN := Lib.hid hdec
          clear hdec
          go_wp2
          go_ret2
          exact ⟨.inr ⟨HDN.out, rfl⟩, HD.out.bl⟩
        · have hfz : ¬ (2 : Int) < (fil : Int) := by omega
          have hfz1 := decide_eq_false hfz
          by_cases hz0 : z = 0
          · rw [if_neg (by omega)] at hdec
            have HDN := Lib.hid hdec
            clear hdec
            subst hz0
            go_wp2
            go_ret2
            exact ⟨.inl ⟨out, _, HDN.out, rfl, own_le HD.out.own (by omega)⟩, HD.out.bl⟩
          · rw [if_pos (by omega)] at hdec
            have hzz : ((z : Int) != 0) = true := by simp; omega
            have HDN := Lib.hid hdec
            clear hdec
            go_wp2
            go_ret2
            exact ⟨.inr ⟨HDN.out, rfl⟩, HD.out.bl⟩
      · have h4z : ((len : Int) % 4 != 0) = true := by simp; omega
        rw [if_pos (by omega)] at hdec
        have HDN := Lib.hid hdec
        clear hdec
        go_wp2
        go_ret2
        exact ⟨.inr ⟨HDN.out, rfl⟩, HD.out.bl⟩
end Go.Proofs.Ythadagnebnakhaa
