/-
  SHA-256 as plain functions on words and bytes. Conditions: none.
-/
import Derived.Below
namespace Go.Proofs.YtlndjmpopoihnaaDoor
/-- A word as a number. -/
def u (x : UInt32) : Int := (x.toNat : Int)
/-- A byte as a number. -/
def v8 (b : UInt8) : Int := (b.toNat : Int)
/-- Eight words. -/
structure S8 where
  a : UInt32
  b : UInt32
  c : UInt32
  d : UInt32
  e : UInt32
  f : UInt32
  g : UInt32
  h : UInt32
def rotr (x : UInt32) (n : UInt32) : UInt32 := (x >>> n) ||| (x <<< (32 - n))
def ch (e f g : UInt32) : UInt32 := (e &&& f) ^^^ (~~~e &&& g)
def maj (a b c : UInt32) : UInt32 := (a &&& b) ^^^ (a &&& c) ^^^ (b &&& c)
def bs0 (a : UInt32) : UInt32 := rotr a 2 ^^^ rotr a 13 ^^^ rotr a 22
def bs1 (e : UInt32) : UInt32 := rotr e 6 ^^^ rotr e 11 ^^^ rotr e 25
def ss0 (x : UInt32) : UInt32 := rotr x 7 ^^^ rotr x 18 ^^^ (x >>> 3)
def ss1 (x : UInt32) : UInt32 := rotr x 17 ^^^ rotr x 19 ^^^ (x >>> 10)
def t1 (s : S8) (k w : UInt32) : UInt32 := s.h + bs1 s.e + ch s.e s.f s.g + k + w
def t2 (s : S8) : UInt32 := bs0 s.a + maj s.a s.b s.c
def step (s : S8) (k w : UInt32) : S8 := ⟨t1 s k w + t2 s, s.a, s.b, s.c, s.d + t1 s k w, s.e, s.f, s.g⟩
/-- The first so many rounds. -/
def rnds (k w : Nat → UInt32) (s : S8) : Nat → S8
  | 0 => s
  | n + 1 => step (rnds k w s n) (k n) (w n)
/-- The word of four bytes. -/
def word (b : List UInt8) (t : Nat) : UInt32 := ((b.getD (4 * t) 0).toUInt32 <<< 24) ||| ((b.getD (4 * t + 1) 0).toUInt32 <<< 16) ||| ((b.getD (4 * t + 2) 0).toUInt32 <<< 8) ||| (b.getD (4 * t + 3) 0).toUInt32
def nextW (b : List UInt8) (n : Nat) (l : List UInt32) : UInt32 :=
  if n < 16 then word b n else ss1 (l.getD (n - 2) 0) + l.getD (n - 7) 0 + ss0 (l.getD (n - 15) 0) + l.getD (n - 16) 0
/-- The first so many words of a block. -/
def wl (b : List UInt8) : Nat → List UInt32
  | 0 => []
  | n + 1 => wl b n ++ [nextW b n (wl b n)]
def W (b : List UInt8) (n : Nat) : UInt32 := nextW b n (wl b n)
def kl : List UInt32 := [
  0x428a2f98, 0x71374491, 0xb5c0fbcf, 0xe9b5dba5, 0x3956c25b, 0x59f111f1, 0x923f82a4, 0xab1c5ed5,
  0xd807aa98, 0x12835b01, 0x243185be, 0x550c7dc3, 0x72be5d74, 0x80deb1fe, 0x9bdc06a7, 0xc19bf174,
  0xe49b69c1, 0xefbe4786, 0x0fc19dc6, 0x240ca1cc, 0x2de92c6f, 0x4a7484aa, 0x5cb0a9dc, 0x76f988da,
  0x983e5152, 0xa831c66d, 0xb00327c8, 0xbf597fc7, 0xc6e00bf3, 0xd5a79147, 0x06ca6351, 0x14292967,
  0x27b70a85, 0x2e1b2138, 0x4d2c6dfc, 0x53380d13, 0x650a7354, 0x766a0abb, 0x81c2c92e, 0x92722c85,
  0xa2bfe8a1, 0xa81a664b, 0xc24b8b70, 0xc76c51a3, 0xd192e819, 0xd6990624, 0xf40e3585, 0x106aa070,
  0x19a4c116, 0x1e376c08, 0x2748774c, 0x34b0bcb5, 0x391c0cb3, 0x4ed8aa4a, 0x5b9cca4f, 0x682e6ff3,
  0x748f82ee, 0x78a5636f, 0x84c87814, 0x8cc70208, 0x90befffa, 0xa4506ceb, 0xbef9a3f7, 0xc67178f2]
def K (n : Nat) : UInt32 := kl.getD n 0
def h0 : S8 := ⟨0x6a09e667, 0xbb67ae85, 0x3c6ef372, 0xa54ff53a, 0x510e527f, 0x9b05688c, 0x1f83d9ab, 0x5be0cd19⟩
def add8 (x y : S8) : S8 := ⟨x.a + y.a, x.b + y.b, x.c + y.c, x.d + y.d, x.e + y.e, x.f + y.f, x.g + y.g, x.h + y.h⟩
/-- What a block makes of what was summed. -/
def blk (s : S8) (b : List UInt8) : S8 := add8 s (rnds K (W b) s 64)
/-- Behind the first so many blocks. -/
def blks (l : List UInt8) : Nat → S8
  | 0 => h0
  | n + 1 => blk (blks l n) ((l.drop (64 * n)).take 64)
def be (n : Nat) (i : Nat) : UInt8 := (n / 2 ^ (56 - 8 * i)).toUInt8
/-- What follows the bytes. -/
def padd (n : Nat) : List UInt8 := 128 :: (List.replicate ((119 - n % 64) % 64) 0 ++ (List.range 8).map (be (8 * n)))
def lst (s : S8) : List UInt32 := [s.a, s.b, s.c, s.d, s.e, s.f, s.g, s.h]
def bytes4 (x : UInt32) : List UInt8 := [(x >>> 24).toUInt8, (x >>> 16).toUInt8, (x >>> 8).toUInt8, x.toUInt8]
def out (s : S8) : List UInt8 := (lst s).flatMap bytes4
/-- The sum. -/
def sha (l : List UInt8) : List UInt8 := out (blks (l ++ padd l.length) ((l ++ padd l.length).length / 64))
end Go.Proofs.YtlndjmpopoihnaaDoor
