/-
  What utf8.Valid's walk stands on: bytes as cells, tails, words, the two tables. Conditions: none.
-/
import Derived.Test.YtalcmhngebobnaaDoorWord
import Derived.Lib.ValidAsc
import Derived.Laws.BitsAllLaws
import Derived.Lib.Hide
namespace Go.Proofs.YtalcmhngebobnaaDoor
open Go.RowKit
def u8c (bs : List UInt8) : List Value := bs.map fun b => .int .u8 (b.toNat : Int)
theorem u8c_length (bs : List UInt8) : (u8c bs).length = bs.length := by simp [u8c]
/-- The two tables of unicode/utf8. -/
def Tabs (w : World) : Prop :=
  (∀ c, c < 256 → w.cell? ⟨5, c, none⟩ = some (.int .u8 (Lib.firstT c))) ∧
  (∀ i, i < 16 → w.cell? ⟨6, 2 * i, none⟩ = some (.int .u8 (Lib.accLo i)) ∧ w.cell? ⟨6, 2 * i + 1, none⟩ = some (.int .u8 (Lib.accHi i)))
theorem Tabs.two {w : World} (h : Tabs w) : 5 < w.heap.size ∧ 6 < w.heap.size := by
  constructor
  · have := h.1 0 (by omega)
    rcases Nat.lt_or_ge 5 w.heap.size with hlt | hge
    · exact hlt
    · rw [World.cell?, Array.getElem?_eq_none hge] at this; cases this
  · have := (h.2 0 (by omega)).1
    rcases Nat.lt_or_ge 6 w.heap.size with hlt | hge
    · exact hlt
    · rw [World.cell?, Array.getElem?_eq_none hge] at this; cases this
theorem Tabs.below {w w' : World} {B : Nat} (h : Tabs w) (hB : 5 < B ∧ 6 < B) (hb : Below B w w') : Tabs w' :=
  ⟨fun c hc => (hb.cell (p := ⟨5, c, none⟩) hB.1).trans (h.1 c hc),
   fun i hi => ⟨(hb.cell (p := ⟨6, 2 * i, none⟩) hB.2).trans (h.2 i hi).1, (hb.cell (p := ⟨6, 2 * i + 1, none⟩) hB.2).trans (h.2 i hi).2⟩⟩
theorem drewN_below {B : Nat} {a w : World} (h : Below B a w) : ∀ q, Below B a (w.drewN q)
  | 0 => h
  | q + 1 => (drewN_below h q).drew
theorem lies_cells {w : World} {B : Nat} {A : Option Addr} {ts : List UInt8} (h : Lies w B A (u8c ts)) (h0 : 0 < ts.length) :
    ∃ b o, A = some ⟨b, o, none⟩ ∧ b < B ∧ ∀ j (hj : j < ts.length), w.cell? ⟨b, o + j, none⟩ = some (.int .u8 (ts[j].toNat : Int)) := by
  obtain ⟨b, o, e, hb, hc⟩ := h (by intro e; have := congrArg List.length e; rw [u8c_length, List.length_nil] at this; omega)
  refine ⟨b, o, e, hb, fun j hj => ?_⟩
  have := hc j (by rw [u8c_length]; exact hj)
  simpa [u8c] using this
theorem lies_of {w : World} {B b o : Nat} {ts : List UInt8} (hb : b < B) (hc : ∀ j (hj : j < ts.length), w.cell? ⟨b, o + j, none⟩ = some (.int .u8 (ts[j].toNat : Int))) : Lies w B (some ⟨b, o, none⟩) (u8c ts) := fun _ =>
  ⟨b, o, rfl, hb, fun j hj => by
    rw [u8c_length] at hj
    simpa [u8c] using hc j hj⟩
theorem cells_drop {w : World} {b o : Nat} {ts : List UInt8} (k : Nat) (hc : ∀ j (hj : j < ts.length), w.cell? ⟨b, o + j, none⟩ = some (.int .u8 (ts[j].toNat : Int))) :
    ∀ j (hj : j < (ts.drop k).length), w.cell? ⟨b, o + k + j, none⟩ = some (.int .u8 ((ts.drop k)[j].toNat : Int)) := fun j hj => by
  have := hc (k + j) (by simp at hj; omega)
  rw [Nat.add_assoc]
  simpa using this
theorem word_lies (b o n c : Nat) (ts : List UInt8) (w : World) (h8 : 8 ≤ ts.length) (hn : ts.length = n) (hm : n ≤ 9223372036854775807)
    (hc : ∀ j (hj : j < ts.length), w.cell? ⟨b, o + j, none⟩ = some (.int .u8 (ts[j].toNat : Int))) :
    Calls Tryd.prog 67 #[.slice (some ⟨b, o, none⟩) n c] w fun e w' => e = .returned (.int .u64 (Lib.leNat (ts.take 8))) ∧ ∃ q, w' = w.drewN q := by
  match ts, h8, hc, hn with
  | x0 :: x1 :: x2 :: x3 :: x4 :: x5 :: x6 :: x7 :: r, h8, hc, hn =>
    have := word_at b o n c x0 x1 x2 x3 x4 x5 x6 x7 w (by rw [← hn]; exact h8) hm (hc 0 (by simp)) (hc 1 (by simp)) (hc 2 (by simp)) (hc 3 (by simp)) (hc 4 (by simp)) (hc 5 (by simp)) (hc 6 (by simp)) (hc 7 (by simp))
    simpa using this
theorem word_lt8 (ts : List UInt8) : Lib.leNat (ts.take 8) < 18446744073709551616 := by
  have h := Lib.leNat_lt (ts.take 8)
  have h2 : (ts.take 8).length ≤ 8 := List.length_take_le _ _
  have h3 : 256 ^ (ts.take 8).length ≤ 256 ^ 8 := Nat.pow_le_pow_right (by omega) h2
  have h4 : 256 ^ 8 = 18446744073709551616 := by decide
  omega
theorem word_asc8 (ts : List UInt8) (h : 8 ≤ ts.length) : (Lib.leNat (ts.take 8) &&& 9259542123273814144 = 0) ↔ ∀ b ∈ ts.take 8, b.toNat < 128 := by
  have h8 : (ts.take 8).length = 8 := by rw [List.length_take]; omega
  have := Lib.leNat_mask (ts.take 8)
  rw [h8, Lib.maskN8] at this
  exact this
theorem asc_join (ts : List UInt8) (a b : Nat) (ha : ∀ x ∈ ts.take a, x.toNat < 128) (hb : ∀ x ∈ (ts.drop a).take b, x.toNat < 128) : ∀ x ∈ ts.take (a + b), x.toNat < 128 := by
  rw [List.take_add]
  intro x hx
  rcases List.mem_append.1 hx with h | h
  · exact ha x h
  · exact hb x h
/-- What holds at each round's head of utf8.Valid. -/
def VRel (w : World) (N : Nat) (ANS : Bool) (gk : Nat) (s0 : Value) (wx : World) : Prop :=
  Below w.heap.size w wx ∧ ∃ (A : Option Addr) (ts : List UInt8), s0 = .slice A ts.length ts.length ∧ Lies wx w.heap.size A (u8c ts) ∧ Lib.validD ts = ANS ∧ ts.length < gk ∧ ts.length ≤ N
/-- One word: what is returned, and what its mask tells. -/
theorem pack1 (b o n c : Nat) (us : List UInt8) (wq : World) (h8 : 8 ≤ us.length) (hn : us.length = n) (hm : n ≤ 9223372036854775807)
    (hc : ∀ j (hj : j < us.length), wq.cell? ⟨b, o + j, none⟩ = some (.int .u8 (us[j].toNat : Int))) :
    ∃ A Z : Nat, (∀ q, Calls Tryd.prog 67 #[.slice (some ⟨b, o, none⟩) n c] (wq.drewN q) fun e w' => e = .returned (.int .u64 A) ∧ ∃ m, w' = (wq.drewN q).drewN m) ∧
      bits .and .u64 (A : Int) 9259542123273814144 = (Z : Int) ∧ (Z = 0 → ∀ x ∈ us.take 8, x.toNat < 128) :=
  ⟨_, _, fun q => word_lies b o n c us (wq.drewN q) h8 hn hm hc, u64_and_nat _ 9259542123273814144 (word_lt8 us) (by omega), (word_asc8 us h8).1⟩
theorem pack2 (b o n c n' c' : Nat) (us : List UInt8) (wq : World) (h8 : 16 ≤ us.length) (hn : us.length = n) (hn' : n' + 8 = n) (hm : n ≤ 9223372036854775807)
    (hc : ∀ j (hj : j < us.length), wq.cell? ⟨b, o + j, none⟩ = some (.int .u8 (us[j].toNat : Int))) :
    ∃ A A' O Z : Nat, (∀ q, Calls Tryd.prog 67 #[.slice (some ⟨b, o, none⟩) n c] (wq.drewN q) fun e w' => e = .returned (.int .u64 A) ∧ ∃ m, w' = (wq.drewN q).drewN m) ∧
      (∀ q, Calls Tryd.prog 67 #[.slice (some ⟨b, o + 8, none⟩) n' c'] (wq.drewN q) fun e w' => e = .returned (.int .u64 A') ∧ ∃ m, w' = (wq.drewN q).drewN m) ∧
      bits .or .u64 (A : Int) (A' : Int) = (O : Int) ∧ O < 18446744073709551616 ∧ bits .and .u64 (O : Int) 9259542123273814144 = (Z : Int) ∧ (Z = 0 → ∀ x ∈ us.take 16, x.toNat < 128) := by
  have l1 := word_lt8 us
  have l2 := word_lt8 (us.drop 8)
  have lo : Lib.leNat (us.take 8) ||| Lib.leNat ((us.drop 8).take 8) < 18446744073709551616 := Nat.or_lt_two_pow (n := 64) l1 l2
  refine ⟨_, _, _, _, fun q => word_lies b o n c us (wq.drewN q) (by omega) hn hm hc, fun q => word_lies b (o + 8) n' c' (us.drop 8) (wq.drewN q) (by simp; omega) (by simp; omega) (by omega) (cells_drop 8 hc),
    u64_or_nat _ _ l1 l2, lo, u64_and_nat _ 9259542123273814144 lo (by omega), fun h0 => ?_⟩
  obtain ⟨e1, e2⟩ := (Lib.or_mask _ _ _).1 h0
  exact asc_join us 8 8 ((word_asc8 us (by omega)).1 e1) ((word_asc8 (us.drop 8) (by simp; omega)).1 e2)
theorem pack4 (b o n c n1 c1 n2 c2 n3 c3 : Nat) (us : List UInt8) (wq : World) (h8 : 32 ≤ us.length) (hn : us.length = n) (hn1 : n1 + 8 = n) (hn2 : n2 + 16 = n) (hn3 : n3 + 24 = n) (hm : n ≤ 9223372036854775807)
    (hc : ∀ j (hj : j < us.length), wq.cell? ⟨b, o + j, none⟩ = some (.int .u8 (us[j].toNat : Int))) :
    ∃ A0 A1 A2 A3 P1 P2 P3 Z : Nat, (∀ q, Calls Tryd.prog 67 #[.slice (some ⟨b, o, none⟩) n c] (wq.drewN q) fun e w' => e = .returned (.int .u64 A0) ∧ ∃ m, w' = (wq.drewN q).drewN m) ∧
      (∀ q, Calls Tryd.prog 67 #[.slice (some ⟨b, o + 8, none⟩) n1 c1] (wq.drewN q) fun e w' => e = .returned (.int .u64 A1) ∧ ∃ m, w' = (wq.drewN q).drewN m) ∧
      (∀ q, Calls Tryd.prog 67 #[.slice (some ⟨b, o + 16, none⟩) n2 c2] (wq.drewN q) fun e w' => e = .returned (.int .u64 A2) ∧ ∃ m, w' = (wq.drewN q).drewN m) ∧
      (∀ q, Calls Tryd.prog 67 #[.slice (some ⟨b, o + 24, none⟩) n3 c3] (wq.drewN q) fun e w' => e = .returned (.int .u64 A3) ∧ ∃ m, w' = (wq.drewN q).drewN m) ∧
      bits .or .u64 (A0 : Int) (A1 : Int) = (P1 : Int) ∧ bits .or .u64 (A2 : Int) (A3 : Int) = (P2 : Int) ∧ bits .or .u64 (P1 : Int) (P2 : Int) = (P3 : Int) ∧
      bits .and .u64 (P3 : Int) 9259542123273814144 = (Z : Int) ∧ (Z = 0 → ∀ x ∈ us.take 32, x.toNat < 128) := by
  obtain ⟨A0, A1, O, Z, k0, k1, ho, lo, _, hz⟩ := pack2 b o n c n1 c1 us wq (by omega) hn hn1 hm hc
  obtain ⟨A2, A3, O', Z', k2, k3, ho', lo', _, hz'⟩ := pack2 b (o + 16) n2 c2 n3 c3 (us.drop 16) wq (by simp; omega) (by simp; omega) (by omega) (by omega) (cells_drop 16 hc)
  have lp : O ||| O' < 18446744073709551616 := Nat.or_lt_two_pow (n := 64) lo lo'
  refine ⟨A0, A1, A2, A3, O, O', _, _, k0, k1, k2, fun q => by simpa [Nat.add_assoc] using k3 q, ho, ho', u64_or_nat _ _ lo lo', u64_and_nat _ 9259542123273814144 lp (by omega), fun h0 => ?_⟩
  obtain ⟨e1, e2⟩ := (Lib.or_mask _ _ _).1 h0
  have m1 : bits .and .u64 (O : Int) 9259542123273814144 = ((O &&& 9259542123273814144 : Nat) : Int) := u64_and_nat O 9259542123273814144 lo (by omega)
  have m2 : bits .and .u64 (O' : Int) 9259542123273814144 = ((O' &&& 9259542123273814144 : Nat) : Int) := u64_and_nat O' 9259542123273814144 lo' (by omega)
  rename_i hand hand'
  rw [hand, e1] at m1
  rw [hand', e2] at m2
  exact asc_join us 16 16 (hz (by omega)) (hz' (by omega))
theorem valid_drop {ts : List UInt8} {ANS : Bool} (hv : Lib.validD ts = ANS) (k : Nat) (ha : ∀ x ∈ ts.take k, x.toNat < 128) : Lib.validD (ts.drop k) = ANS := by
  rw [← hv]
  exact (Lib.validD_ascii k ts ha).symm
theorem and7 : ∀ X : Fin 256, bits .and .u8 ((X.val : Nat) : Int) 7 = ((X.val % 8 : Nat) : Int) := by decide +kernel
/-- The relation behind ASCII bytes. -/
theorem vrel_drop {w wx : World} {N g n k b o : Nat} {ANS : Bool} {ts : List UInt8} {A : Option Addr} (hb : Below w.heap.size w wx) (hbB : b < w.heap.size) (hn : ts.length = n)
    (hc : ∀ j (hj : j < ts.length), wx.cell? ⟨b, o + j, none⟩ = some (.int .u8 (ts[j].toNat : Int))) (hv : Lib.validD (ts.drop k) = ANS) (hA : k < n → A = some ⟨b, o + k, none⟩) (hg : n < g + k) (hk : k ≤ n) (hN : n ≤ N) :
    VRel w N ANS g (.slice A (n - k) (n - k)) wx := by
  have hl : (ts.drop k).length = n - k := by rw [List.length_drop, hn]
  refine ⟨hb, A, ts.drop k, by rw [hl], ?_, hv, by rw [hl]; omega, by rw [hl]; omega⟩
  by_cases h : k < n
  · rw [hA h]
    exact lies_of hbB (cells_drop k hc)
  · intro hne
    have : ts.drop k = [] := List.eq_nil_of_length_eq_zero (by rw [hl]; omega)
    rw [this] at hne
    exact absurd rfl hne
theorem cell_getD {w : World} {b o : Nat} {ts : List UInt8} (hc : ∀ j (hj : j < ts.length), w.cell? ⟨b, o + j, none⟩ = some (.int .u8 (ts[j].toNat : Int))) (j : Nat) (hj : j < ts.length) :
    w.cell? ⟨b, o + j, none⟩ = some (.int .u8 ((ts.getD j 0).toNat : Int)) := by
  rw [hc j hj, List.getD_eq_getElem?_getD, List.getElem?_eq_getElem hj]; rfl
theorem take_one {ts : List UInt8} (h : 0 < ts.length) : ts.take 1 = [ts.getD 0 0] := by
  match ts, h with
  | a :: r, _ => rfl
theorem vrel_here {w wx : World} {N g n b o : Nat} {ANS : Bool} {ts : List UInt8} (hb : Below w.heap.size w wx) (hbB : b < w.heap.size) (hn : ts.length = n)
    (hc : ∀ j (hj : j < ts.length), wx.cell? ⟨b, o + j, none⟩ = some (.int .u8 (ts[j].toNat : Int))) (hv : Lib.validD ts = ANS) (hg : n < g) (hN : n ≤ N) :
    VRel w N ANS g (.slice (some ⟨b, o, none⟩) n n) wx :=
  ⟨hb, _, ts, by rw [hn], lies_of hbB hc, hv, by omega, by omega⟩
theorem VRel.mono {w wx : World} {N N' g g' : Nat} {ANS : Bool} {v : Value} (h : VRel w N ANS g v wx) (hg : N < g') (hN : N ≤ N') : VRel w N' ANS g' v wx := by
  obtain ⟨hb, A, ts, e, hl, hv, h1, h2⟩ := h
  exact ⟨hb, A, ts, e, hl, hv, by omega, by omega⟩
end Go.Proofs.YtalcmhngebobnaaDoor
