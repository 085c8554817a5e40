/-
  The document's own squeezing: a text without blanks. Conditions: the text is not too long.
-/
import Derived.Test.YthadagnebnakhaaBRef
namespace Go.Proofs.Ythadagnebnakhaa
open Go.RowKit
set_option linter.unusedVariables false
/-- Bytes gathered in a slice of the call's own; nothing below has turned. -/
structure OWN (w : World) (T : List UInt8) (v : Value) (wr : World) : Prop where
  own : wr.ownsRow w.heap.size 5 1 v T.length (u8c T)
  bl : Below w.heap.size w wr
theorem OWN.byte {w wr w' : World} {T T' : List UInt8} {v v' : Value} (h : OWN w T v wr) (ho : w'.ownsRow w.heap.size 5 1 v' T'.length (u8c T')) (hg : wr.grownBy w' v.ownBlock) : OWN w T' v' w' :=
  ⟨ho, h.bl.trans (below_own h.own hg h.bl.size)⟩
theorem OWN.alloc {w wr : World} {T : List UInt8} {v : Value} (h : OWN w T v wr) (o : Obj) : OWN w T v (wr.alloc o) := ⟨h.own.alloc o, h.bl.alloc h.bl.size o⟩
theorem OWN.start (w : World) : OWN w [] (.slice none 0 0) w := ⟨World.ownsRow_nil _ _ _ _, Below.refl _ _⟩
theorem app_byteO {w : World} {ops : Array Oper} {rest : List Oper} {o : Oper} {a : Act} {Q : Exit → Act → World → Prop} (hgd : o.guard = none) (s x : Operand)
    (ho : o.op = .call { callee := .builtin .append, args := #[s, x], argTypes := #[22, 22] }) (w0 : World) (T : List UInt8) (v : Value) (hs : a.eval s = v) (hob : OWN w0 T v w)
    (y : UInt8) (x0 : Int) (hx0 : x0 = v8 y) (hx : a.eval x = .slice (some ⟨w.heap.size, 0, none⟩) 1 1) (hn : T.length + 1 ≤ 1000000000000)
    (h : ∀ v' w', OWN w0 (T ++ [y]) v' w' → wpList Try.prog ops Q rest (a.put o.dst v') w') : wpList Try.prog ops Q (o :: rest) a (w.alloc (.cells #[.int .u8 x0] 5)) := by
  subst hx0
  have hob' := hob.alloc (.cells #[.int .u8 (v8 y)] 5)
  refine app_list hgd s x ho w0.heap.size T v hs hob'.own hob'.bl.size (some ⟨w.heap.size, 0, none⟩) 1 1 [y] hx rfl (fun h => by cases h) (fun _ => ⟨_, _, rfl, by simp, fun j v hv => by rw [Nat.zero_add, cell_of_row _ _ j _ _ _ (heap_alloc_last _ _)]; exact List.getElem?_toArray.trans hv⟩) hn fun v' w' h2 h3 => h v' w' (hob'.byte h2 h3)
theorem sq_take {s : List UInt8} {k : Nat} (h : k < s.length) : sq (s.take (k + 1)) = sq (s.take k) ++ sq [s.getD k 0] := by
  rw [List.take_succ_eq_append_getElem h, sq_append, List.getD_eq_getElem?_getD, List.getElem?_eq_getElem h]; rfl
theorem sq_len (s : List UInt8) : (sq s).length ≤ s.length := List.length_filter_le _ _
def SQR (s : List UInt8) (w : World) (v i : Value) (wr : World) : Prop := ∃ k : Nat, k ≤ s.length ∧ i = .int .i64 k ∧ OWN w (sq (s.take k)) v wr
set_option maxHeartbeats 2000000 in
theorem squeeze_any (s : List UInt8) (w : World) (hn : s.length ≤ 1000000) :
    Calls Try.prog 13 #[.string ⟨s.toArray⟩] w fun e w' => e = .returned (.string ⟨(sq s).toArray⟩) ∧ Below w.heap.size w w' := by
  obtain ⟨S, hS⟩ : ∃ S : ByteArray, ⟨s.toArray⟩ = S := ⟨_, rfl⟩
  obtain ⟨N, hN⟩ : ∃ N, s.length = N := ⟨_, rfl⟩
  have hsz : S.size = N := by rw [← hS, ← hN]; rfl
  have HIX : Hid (∀ k, k < N → ∀ w, (Instr.index 9 (.string S) (.int .i64 (k : Int))).run Try.prog w = .ok (.int .u8 (v8 (s.getD k 0))) w) := fun k hk w => by
    rw [← hS]; exact index_str s .i64 (by rw [hN]; exact hk) w
  have HN := Lib.hid hN
  rw [hS]
  rw [hN] at hn
  clear hS hN
  go_enter Try.func13, Try.ntmps13
  go_wp2
  go_loopw [3, 7] (SQR s w) (fun _ i _ => N - (intOf i).toNat)
  case atStart => exact ⟨0, by omega, rfl, OWN.start w⟩
  case round =>
    obtain ⟨k, hk, rfl, hO⟩ := hrel
    rw [HN.out] at hk
    by_cases hlt : k < N
    · have hix := HIX.out k hlt
      have hst := sq_take (s := s) (k := k) (by rw [HN.out]; exact hlt)
      have hkz : (k : Int) < (N : Int) := by omega
      have hln := sq_len (s.take k)
      rw [List.length_take] at hln
      generalize s.getD k 0 = c at *
      obtain ⟨T, hT⟩ : ∃ T, sq (s.take k) = T := ⟨_, rfl⟩
      rw [hT] at hst hO hln
      have HO := Lib.hid hO
      have HST := Lib.hid hst
      clear HIX hO hst hT
      cases hb : blank c with
      | true =>
        have he : sq [c] = [] := sq_blank hb
        have hor : c = 32 ∨ c = 9 ∨ c = 10 ∨ c = 13 := by simpa [blank, or_assoc] using hb
        rcases hor with rfl | rfl | rfl | rfl
        all_goals
          first
            | have hv : v8 32 = 32 := rfl
            | skip
          have hv9 : v8 9 = 9 := rfl
          have hv10 : v8 10 = 10 := rfl
          have hv13 : v8 13 = 13 := rfl
          go_wp2
          go_roundw
          case rel => exact ⟨k + 1, by rw [HN.out]; omega, by go_num, by rw [HST.out, he, List.append_nil]; exact HO.out⟩
          case measure => simp [intOf]; omega
      | false =>
        have he : sq [c] = [c] := by simp [sq, hb]
        have h32 : ¬ v8 c = 32 := fun e => by rw [v8_inj.1 (e.trans (show (32 : Int) = v8 32 from rfl))] at hb; cases hb
        have h9 : ¬ v8 c = 9 := fun e => by rw [v8_inj.1 (e.trans (show (9 : Int) = v8 9 from rfl))] at hb; cases hb
        have h10 : ¬ v8 c = 10 := fun e => by rw [v8_inj.1 (e.trans (show (10 : Int) = v8 10 from rfl))] at hb; cases hb
        have h13 : ¬ v8 c = 13 := fun e => by rw [v8_inj.1 (e.trans (show (13 : Int) = v8 13 from rfl))] at hb; cases hb
        have b32 : (v8 c != 32) = true := by simpa using h32
        have b9 : (v8 c != 9) = true := by simpa using h9
        have b10 : (v8 c != 10) = true := by simpa using h10
        have b13 : (v8 c != 13) = true := by simpa using h13
        have hln2 : T.length + 1 ≤ 1000000000000 := by omega
        go_wp2_with (at_builtin; refine app_byteO rfl _ _ rfl w T u3 rfl HO.out c _ rfl rfl hln2 ?_; intro v3 w3 hO3)
        go_roundw
        case rel => exact ⟨k + 1, by rw [HN.out]; omega, by go_num, by rw [HST.out, he]; exact hO3⟩
        case measure => simp [intOf]; omega
    · have hkz : ¬ (k : Int) < (N : Int) := by omega
      have hkz1 := decide_eq_false hkz
      rw [List.take_of_length_le (by rw [HN.out]; omega)] at hO
      obtain ⟨A', cap', hv, hcl, hcm, hnil, hli⟩ := own_full hO.own rfl
      have hcv := conv_lies cap' hli
      have hbl := hO.bl
      subst hv
      clear hO hli
      go_wp2
      go_ret
      exact ⟨rfl, hbl⟩
end Go.Proofs.Ythadagnebnakhaa
