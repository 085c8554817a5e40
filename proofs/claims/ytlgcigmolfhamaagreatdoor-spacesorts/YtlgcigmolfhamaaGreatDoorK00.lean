/-
  Plain functions on numbers: which numbers are characters, and which of them may stand in a document. Conditions: none.
  Characters' bytes, there and back, in plain numbers: bytes are valid just if they are the bytes of some list of characters. Conditions: none.
  The plain test on numbers: which are characters. Conditions: none.
  utf8.word of a slice of bytes: the number that its first eight bytes spell. Conditions: there are eight bytes.
  What utf8.Valid's walk stands on: bytes as cells, tails, words, the two tables. Conditions: none.
  A row of bytes that a call owns, read as bytes; bytes turned into a string. Conditions: none.
  The document's own answer for one character's bytes, and how long a character is by its first byte. Conditions: the number is a character.
-/
import Derived.Deep.WholeRow
import Derived.Below
import Derived.Lib.ValidAsc
import Derived.Lib.MapLaws
import Derived.Test.YtlgcigmolfhamaaGreatDoorProg
import Derived.WalkKit
import Derived.Deep.QuietTactic
import Derived.BigQuiet
import Derived.Lib.Endian
import Derived.Lib.EndianBits
import Derived.Deep.Draws
import Derived.Laws.BitsAllLaws
import Derived.Lib.Hide
import Derived.Laws.IdiomStrings
namespace Go.Proofs.YtlgcigmolfhamaaGreatDoor
open Go.RowKit
set_option maxHeartbeats 4000000
set_option maxRecDepth 100000
abbrev a8:=@Lib.hid
abbrev b8:=@Below.refl
abbrev c9:=@Nat.le_refl
abbrev d8:=@Nat.le_trans
abbrev d9:=@cell_of_row
abbrev e8:=@List.length_append
abbrev e9:=@beq_eq_false_iff_ne
abbrev f5:=@Option.some.injEq
abbrev f6:=@if_neg
abbrev f7:=@Below.heap_setCell
abbrev f8:=@decide_eq_false
abbrev f9:=@Lib.toList_data
abbrev g8:=@if_pos
abbrev g9:=@heap_alloc_last
abbrev i4:=@Bool.and_eq_true
abbrev i5:=@List.getElem?_eq_getElem
abbrev i6:=@decide_eq_true
abbrev i8:=@List.length_cons
abbrev i9:=@List.cons_append
abbrev j0:=@List.length_singleton
abbrev j8:=@List.eq_nil_of_length_eq_zero
abbrev l7:=@List.nil_append
abbrev l8:=@List.take_succ_eq_append_getElem
abbrev o0:=@List.getElem_mem
abbrev o4:=@Nat.zero_le
abbrev o5:=@Value.slice.injEq
abbrev o9:=@List.all_eq_true
abbrev q8:=@List.mem_cons
abbrev r5:=@World.ownsRow_nil
abbrev r7:=@List.cons.injEq
abbrev r8:=@List.mem_singleton
abbrev r9:=@Array.getElem?_eq_getElem
abbrev t7:=@List.length_nil
abbrev t8:=@decide_eq_true_eq
abbrev u0:=@List.length_take
abbrev x8:=@beq_iff_eq
abbrev x9:=@Nat.lt_of_lt_of_le
abbrev z8:=@List.getElem?_eq_some_iff
abbrev A6:=@Nat.le_of_lt
abbrev A7:=@List.append_nil
abbrev A8:=@Bool.eq_iff_iff
abbrev A9:=@Array.getElem?_toList
abbrev B0:=@World.cell?_alloc_lt
abbrev B6:=@List.length_drop
abbrev B8:=@List.drop_eq_getElem_cons
abbrev B9:=@Nat.eq_zero_or_pos
abbrev C0:=@List.take_of_length_le
abbrev C5:=@List.not_mem_nil
abbrev C7:=@List.getElem?_cons_succ
abbrev C9:=@List.length_map
abbrev D4:=@Array.getElem?_eq_none
abbrev D5:=@And.intro
abbrev D6:=@List.mem_append
abbrev D7:=@List.length_pos_iff
abbrev D8:=@List.flatMap_append
abbrev E9:=@Nat.lt_or_eq_of_le
abbrev F0:=@List.isPrefixOf_iff_prefix
abbrev F1:=@UInt8.toNat_inj
abbrev F4:=@decide_eq_false_iff_not
abbrev F5:=@Nat.zero_add
abbrev F8:=@List.prefix_append
abbrev F9:=@List.drop_of_length_le
abbrev G2:=@Nat.le_of_eq
abbrev G3:=@List.getElem?_cons_zero
abbrev I1:=@List.take_length
abbrev I2:=@Nat.le_of_lt_succ
abbrev I5:=@List.take_append_drop
abbrev J0:=@Int.toNat_natCast
def R7(r:Int):Bool:=decide (0<=r/\r<=1114111/\(r<55296∨57343<r))
def P9(r:Int):Bool:=decide (r=9∨r=10∨r=13∨(32<=r/\r<=55295)∨(57344<=r/\r<=65533)∨(65536<=r/\r<=1114111))
def N6(r:Int):List Int :=
 if r<=127 then[r]
 else if r<=2047 then[192+r/64,128+r%64]
 else if r<=65535 then[224+r/4096,128+r/64%64,128+r%64]
 else[240+r/262144,128+r/4096%64,128+r/64%64,128+r%64]
theorem a9p(r:Int):1<=(N6 r).length/\(N6 r).length<=4:=by
 unfold N6
 split
 ·simp
 ·split
  ·simp
  ·split<;>simp
def a2n(l:List Int):List Int:=l.flatMap N6
theorem b48(l:List Int)(r:Int):a2n (l++[r])=a2n l++N6 r:=by simp[a2n]
theorem b8Y(l:List Int):(a2n l).length<=4*l.length:=by
 induction l with
 |nil=>simp[a2n]
 |cons a r ih =>
  have:=a9p a;simp only[a2n,List.flatMap_cons,e8,i8]at ih ⊢;omega
def u8s(l:List Int):List Value:=l.map (Value.int .u8)
def W6(l:List Int):List Value:=l.map (Value.int .i32)
theorem a6d(a b:List Int):u8s (a++b)=u8s a++u8s b:=by simp[u8s]
def Q3(w:World)(B:Nat)(A:Option Addr)(xs:List Value):Prop :=
 xs≠[]->∃b o,A=some ⟨b,o,none⟩/\b<B/\∀j (h:j<xs.length),w.cell? ⟨b,o+j,none⟩=some xs[j]
theorem Q3.below{w w':World}{B:Nat}{A:Option Addr}{xs:List Value}(h:Q3 w B A xs)(hb:Below B w w'):Q3 w' B A xs:=fun hn=>by
 obtain⟨b,o,e,D0,hc⟩:=h hn;exact⟨b,o,e,D0,fun j hj=>(hb.cell (p:=⟨b,o+j,none⟩) D0).trans (hc j hj)⟩
theorem Q3.mono{w:World}{B B':Nat}{A:Option Addr}{xs:List Value}(h:Q3 w B A xs)(hb:B<=B'):Q3 w B' A xs:=fun hn=>by
 obtain⟨b,o,e,D0,hc⟩:=h hn;exact⟨b,o,e,by omega,hc⟩
theorem N5{a b:Bool}(h:a=b):Ending.returned (.bool a)=.returned (.bool b):=by rw[h]
def C3(r:Int):List UInt8:=(N6 r).map fun x=>x.toNat.toUInt8
def y9(l:List Int):List UInt8:=l.flatMap C3
theorem a2O(r:Int):(C3 r).length=(N6 r).length:=by simp[C3]
theorem P7(r:Int):1<=(C3 r).length:=by rw[a2O];exact(a9p r).1
theorem S6{r:Int}:R7 r=true↔0<=r/\r<=1114111/\(r<55296∨57343<r):=by simp[R7]
theorem b5a{r:Int}(h:R7 r=true):C3 r=Lib.encodeRune r:=by
 rw[S6]at h;unfold C3 Lib.encodeRune
 congr 1
 rcases(show r<=127∨(128<=r/\r<=2047)∨(2048<=r/\r<=65535)∨65536<=r from by omega)with e|e|e|e
 ·rw[Lib.encodeRuneZ_one (by omega) e];simp only[N6];rw[g8 e]
 ·rw[Lib.encodeRuneZ_two (by omega) (by omega)];simp only[N6];rw[f6 (by omega),g8 (by omega)]
 ·rw[Lib.encodeRuneZ_three (by omega)];simp only[N6];rw[f6 (by omega),f6 (by omega),g8 (by omega)]
 ·rw[Lib.encodeRuneZ_four (by omega) (by omega)];simp only[N6];rw[f6 (by omega),f6 (by omega),f6 (by omega)]
theorem b49{r:Int}(h:R7 r=true):∀x∈N6 r,0<=x/\x<256:=by
 rw[S6]at h;intro x hx;unfold N6 at hx
 split at hx
 ·simp at hx;omega
 ·split at hx
  ·simp at hx;omega
  ·split at hx<;>(simp at hx;omega)
theorem G1{n:Int}(h0:0<=n)(h1:n<256):(n.toNat.toUInt8).toNat=n.toNat:=by
 have:n.toNat<256:=by omega
 simp;omega
theorem a5S{r:Int}(hc:R7 r=true)(rest:List UInt8):Lib.decodeL (C3 r++rest)=(r.toNat,(C3 r).length):=by
 rw[S6]at hc;rw[Lib.decodeL_N];rcases(show r<=127∨(128<=r/\r<=2047)∨(2048<=r/\r<=65535)∨65536<=r from by omega)with e|e|e|e
 ·have he:C3 r=[r.toNat.toUInt8]:=by simp only[C3,N6];rw[g8 e];rfl
  rw[he];simp only[i9,l7,List.getD_cons_zero,i8,G1 hc.1 (show r<256 by omega)]
  unfold Lib.decodeN;rw[g8 (by omega)]
  simp
 ·have he:C3 r=[(192+r/64).toNat.toUInt8,(128+r%64).toNat.toUInt8]:=by simp only[C3,N6];rw[f6 (by omega),g8 (by omega)];rfl
  rw[he];simp only[i9,l7,List.getD_cons_zero,List.getD_cons_succ,i8,G1 (show 0<=192+r/64 by omega) (show 192+r/64<256 by omega),G1 (show 0<=128+r%64 by omega) (show 128+r%64<256 by omega)]
  rcases Lib.decodeN_shape (rest.length+1+1) (192+r/64).toNat (128+r%64).toNat (rest.getD 0 0).toNat (rest.getD 1 0).toNat with h|h|h|h|h
  ·omega
  ·rw[h.2.2.2.2];simp;omega
  ·omega
  ·omega
  ·exfalso
   unfold Lib.decodeN at h;rw[f6 (by omega),g8 (by omega),g8 (by omega)]at h
   simp at h
 ·have he:C3 r=[(224+r/4096).toNat.toUInt8,(128+r/64%64).toNat.toUInt8,(128+r%64).toNat.toUInt8]:=by simp only[C3,N6];rw[f6 (by omega),f6 (by omega),g8 (by omega)];rfl
  rw[he];simp only[i9,l7,List.getD_cons_zero,List.getD_cons_succ,i8,G1 (show 0<=224+r/4096 by omega) (show 224+r/4096<256 by omega),G1 (show 0<=128+r/64%64 by omega) (show 128+r/64%64<256 by omega),G1 (show 0<=128+r%64 by omega) (show 128+r%64<256 by omega)]
  unfold Lib.decodeN;rw[f6 (by omega),f6 (by omega),g8 (by omega),g8 (by omega)]
  simp;omega
 ·have he:C3 r=[(240+r/262144).toNat.toUInt8,(128+r/4096%64).toNat.toUInt8,(128+r/64%64).toNat.toUInt8,(128+r%64).toNat.toUInt8]:=by simp only[C3,N6];rw[f6 (by omega),f6 (by omega),f6 (by omega)];rfl
  rw[he];simp only[i9,l7,List.getD_cons_zero,List.getD_cons_succ,i8,G1 (show 0<=240+r/262144 by omega) (show 240+r/262144<256 by omega),G1 (show 0<=128+r/4096%64 by omega) (show 128+r/4096%64<256 by omega),G1 (show 0<=128+r/64%64 by omega) (show 128+r/64%64<256 by omega),G1 (show 0<=128+r%64 by omega) (show 128+r%64<256 by omega)]
  unfold Lib.decodeN;rw[f6 (by omega),f6 (by omega),f6 (by omega),g8 (by omega),g8 (by omega)]
  simp;omega
theorem b62{r:Int}(hc:R7 r=true):¬(r.toNat=65533/\(C3 r).length=1):=by
 rw[S6]at hc;rintro⟨h1,h2⟩;have:r=65533:=by omega
 subst this;simp[C3,N6]at h2
theorem b33{r:Int}(hc:R7 r=true)(rest:List UInt8):Lib.validD (C3 r++rest)=Lib.validD rest:=by
 have hp:=P7 r;rw[Lib.validD_step _ (by intro h;have:=congrArg List.length h;simp at this;rw[this.1]at hp;simp at hp),a5S hc rest]
 dsimp only;rw[f6 (b62 hc),List.drop_left]
theorem a3D:∀(l:List Int),l.all R7=true->∀rest,Lib.validD (y9 l++rest)=Lib.validD rest
 | [],_,rest=>by simp[y9]
 |r::l,h,rest=>by
  rw[List.all_cons,i4]at h;have:y9 (r::l)++rest=C3 r++(y9 l++rest):=by simp[y9]
  rw[this,b33 h.1,a3D l h.2]
theorem a9X:∀(n:Nat) (bs:List UInt8),bs.length<=n->Lib.validD bs=true->∃l:List Int,l.all R7=true/\bs=y9 l
 |0,bs,hn,_=>⟨[],rfl,by have:bs=[]:=j8 (by omega);subst this;rfl⟩
 |n+1,bs,hn,hv=>by
  by_cases D0:bs=[]
  ·exact⟨[],rfl,by subst D0;rfl⟩
  ·rw[Lib.validD_step bs D0]at hv
   by_cases hb:(Lib.decodeL bs).1=65533/\(Lib.decodeL bs).2=1
   ·rw[g8 hb]at hv;cases hv
   ·rw[f6 hb]at hv
    have he:=Lib.encode_decode bs D0 hb
    have D1:R7 ((Lib.decodeL bs).1:Int)=true/\1<=(Lib.decodeL bs).2:=by
     rw[S6];rw[Lib.decodeL_N]at hb ⊢;have k0:=(bs.getD 0 0).toNat_lt;rcases Lib.decodeN_shape bs.length (bs.getD 0 0).toNat (bs.getD 1 0).toNat (bs.getD 2 0).toNat (bs.getD 3 0).toNat with h|h|h|h|h
     ·rw[h.2];dsimp only;omega
     ·rw[h.2.2.2.2];dsimp only;omega
     ·rw[h.2.2.2.2.2.2];dsimp only;omega
     ·rw[h.2.2.2.2.2.2.2];dsimp only;omega
     ·exact absurd (by rw[h];exact⟨rfl,rfl⟩) hb
    obtain⟨l,hl,e⟩:=a9X n (bs.drop (Lib.decodeL bs).2) (by rw[B6];omega) hv
    refine⟨((Lib.decodeL bs).1:Int)::l,by simp[D1.1];simpa using hl,?_⟩
    show bs=C3 _++y9 l
    rw[b5a D1.1,he,<-e,I5]
theorem a1L(bs:List UInt8):Lib.validD bs=true↔∃l:List Int,l.all R7=true/\bs=y9 l :=
 ⟨a9X bs.length bs (c9 _),fun⟨l,hl,e⟩=>by rw[e,<-A7 (y9 l),a3D l hl];rfl⟩
theorem a64{r s:Int}(hr:R7 r=true)(hs:R7 s=true){x y:List UInt8}(h:C3 r++x=C3 s++y):r=s/\x=y:=by
 have h1:=a5S hr x;rw[h,a5S hs y]at h1;have e:=congrArg Prod.fst h1;dsimp only at e;rw[S6]at hr hs;have:r=s:=by omega
 subst this;exact⟨rfl,List.append_cancel_left h⟩
theorem a45:∀{l k:List Int},l.all R7=true->k.all R7=true->y9 l=y9 k->l=k
 | [],[],_,_,_=>rfl
 | [],s::k,_,_,h=>by
  have:=congrArg List.length h;have hp:=P7 s;simp[y9]at this;omega
 |r::l,[],_,_,h=>by
  have:=congrArg List.length h;have hp:=P7 r;simp[y9]at this;rw[this.1]at hp;simp at hp
 |r::l,s::k,hl,hk,h=>by
  rw[List.all_cons,i4]at hl hk;obtain⟨e1,e2⟩:=a64 hl.1 hk.1 (show C3 r++y9 l=C3 s++y9 k from h);rw[e1,a45 hl.2 hk.2 e2]
theorem K7(l k:List Int):y9 (l++k)=y9 l++y9 k:=by simp[y9]
theorem J4(r:Int)(k:List Int):y9 (r::k)=C3 r++y9 k:=rfl
theorem a16(r:Int)(w:World):Calls Tryz.prog 127 #[.int .i32 r] w fun e w'=>e=.returned (.bool (R7 r))/\w=w':=by
 go_enter Tryz.func127,Tryz.ntmps127;go_wp2
 all_goals
  go_ret;refine⟨N5 ?_,rfl⟩;rw[A8];simp[R7]
  try omega
theorem b7V(b o n c:Nat)(x0 x1 x2 x3 x4 x5 x6 x7:UInt8)(w:World)(hn:8<=n)(hm:n<=9223372036854775807)
 (c0:w.cell? ⟨b,o,none⟩=some (.int .u8 x0.toNat)) (c1:w.cell? ⟨b,o+1,none⟩=some (.int .u8 x1.toNat)) (c2:w.cell? ⟨b,o+2,none⟩=some (.int .u8 x2.toNat)) (c3:w.cell? ⟨b,o+3,none⟩=some (.int .u8 x3.toNat)) (c4:w.cell? ⟨b,o+4,none⟩=some (.int .u8 x4.toNat)) (c5:w.cell? ⟨b,o+5,none⟩=some (.int .u8 x5.toNat)) (c6:w.cell? ⟨b,o+6,none⟩=some (.int .u8 x6.toNat)) (c7:w.cell? ⟨b,o+7,none⟩=some (.int .u8 x7.toNat)) :
 Calls Tryz.prog 149 #[.slice (some ⟨b,o,none⟩) n c] w fun e w'=>e=.returned (.int .u64 (Lib.leNat [x0,x1,x2,x3,x4,x5,x6,x7]))/\∃q,w'=w.drewN q:=by
 have h0:x0.toNat<256:=x0.toNat_lt;have h1:x1.toNat<256:=x1.toNat_lt;have h2:x2.toNat<256:=x2.toNat_lt;have h3:x3.toNat<256:=x3.toNat_lt;have h4:x4.toNat<256:=x4.toNat_lt;have h5:x5.toNat<256:=x5.toNat_lt;have h6:x6.toNat<256:=x6.toNat_lt;have h7:x7.toNat<256:=x7.toNat_lt
 have hv:((Lib.leNat [x0,x1,x2,x3,x4,x5,x6,x7] : Nat):Int)=(x0.toNat:Int)+(x1.toNat:Int)*256+(x2.toNat:Int)*65536+(x3.toNat:Int)*16777216+(x4.toNat:Int)*4294967296+(x5.toNat:Int)*1099511627776+(x6.toNat:Int)*281474976710656+(x7.toNat:Int)*72057594037927936:=by
  simp only[Lib.leNat]
  push_cast
  omega
 rw[hv];clear hv;have q0:(0:Int)<(n:Int):=by omega
 have p0:0<n:=by omega
 have q1:(1:Int)<(n:Int):=by omega
 have p1:1<n:=by omega
 have q2:(2:Int)<(n:Int):=by omega
 have p2:2<n:=by omega
 have q3:(3:Int)<(n:Int):=by omega
 have p3:3<n:=by omega
 have q4:(4:Int)<(n:Int):=by omega
 have p4:4<n:=by omega
 have q5:(5:Int)<(n:Int):=by omega
 have p5:5<n:=by omega
 have q6:(6:Int)<(n:Int):=by omega
 have p6:6<n:=by omega
 have q7:(7:Int)<(n:Int):=by omega
 have p7:7<n:=by omega
 go_enter Tryz.func149,Tryz.ntmps149;go_wp2
 go_quiet (fail)
 go_wp2;go_ret;refine⟨?_,_,rfl⟩;simp (disch:=omega) only [u64_or8,u64_or16,u64_or24,u64_or32,u64_or40,u64_or48,u64_or56]
 rfl
def P6(bs:List UInt8):List Value:=bs.map fun b => .int .u8 (b.toNat:Int)
theorem F7(bs:List UInt8):(P6 bs).length=bs.length:=by simp[P6]
def a7k(w:World):Prop :=
 (∀c,c<256->w.cell? ⟨0,c,none⟩=some (.int .u8 (Lib.firstT c))) /\
 (∀i,i<16->w.cell? ⟨1,2*i,none⟩=some (.int .u8 (Lib.accLo i))/\w.cell? ⟨1,2*i+1,none⟩=some (.int .u8 (Lib.accHi i)))
theorem a7k.two{w:World}(h:a7k w) : 0 < w.heap.size/\1 < w.heap.size:=by
 constructor
 ·have:=h.1 0 (by omega)
  rcases Nat.lt_or_ge 0 w.heap.size with hlt|hge
  ·exact hlt
  ·rw[World.cell?,D4 hge]at this;cases this
 ·have:=(h.2 0 (by omega)).1
  rcases Nat.lt_or_ge 1 w.heap.size with hlt|hge
  ·exact hlt
  ·rw[World.cell?,D4 hge]at this;cases this
theorem a7k.below{w w':World}{B:Nat}(h:a7k w)(hB : 0 < B/\1 < B)(hb:Below B w w'):a7k w' :=
 ⟨fun c hc=>(hb.cell (p:=⟨0,c,none⟩) hB.1).trans (h.1 c hc),
  fun i hi=>⟨(hb.cell (p:=⟨1,2*i,none⟩) hB.2).trans (h.2 i hi).1,(hb.cell (p:=⟨1,2*i+1,none⟩) hB.2).trans (h.2 i hi).2⟩⟩
theorem i7{B:Nat}{a w:World}(h:Below B a w):∀q,Below B a (w.drewN q)
 |0=>h
 |q+1=>(i7 h q).drew
theorem a2l{w:World}{B:Nat}{A:Option Addr}{ts:List UInt8}(h:Q3 w B A (P6 ts))(h0:0<ts.length) :
 ∃b o,A=some ⟨b,o,none⟩/\b<B/\∀j (hj:j<ts.length),w.cell? ⟨b,o+j,none⟩=some (.int .u8 (ts[j].toNat:Int)):=by
 obtain⟨b,o,e,hb,hc⟩:=h (by intro e;have:=congrArg List.length e;rw[F7,t7]at this;omega)
 refine⟨b,o,e,hb,fun j hj => ?_⟩;have:=hc j (by rw[F7];exact hj)
 simpa [P6]using this
theorem Y1{w:World}{B b o:Nat}{ts:List UInt8}(hb:b<B)(hc:∀j (hj:j<ts.length),w.cell? ⟨b,o+j,none⟩=some (.int .u8 (ts[j].toNat:Int))):Q3 w B (some ⟨b,o,none⟩) (P6 ts):=fun _ =>
 ⟨b,o,rfl,hb,fun j hj=>by
  rw[F7]at hj;simpa [P6]using hc j hj⟩
theorem V9{w:World}{b o:Nat}{ts:List UInt8}(k:Nat)(hc:∀j (hj:j<ts.length),w.cell? ⟨b,o+j,none⟩=some (.int .u8 (ts[j].toNat:Int))) :
 ∀j (hj:j<(ts.drop k).length),w.cell? ⟨b,o+k+j,none⟩=some (.int .u8 ((ts.drop k)[j].toNat:Int)):=fun j hj=>by
 have:=hc (k+j) (by simp at hj;omega)
 rw[Nat.add_assoc];simpa using this
theorem a4L(b o n c:Nat)(ts:List UInt8)(w:World)(h8:8<=ts.length)(hn:ts.length=n)(hm:n<=9223372036854775807)
 (hc:∀j (hj:j<ts.length),w.cell? ⟨b,o+j,none⟩=some (.int .u8 (ts[j].toNat:Int))) :
 Calls Tryz.prog 149 #[.slice (some ⟨b,o,none⟩) n c] w fun e w'=>e=.returned (.int .u64 (Lib.leNat (ts.take 8)))/\∃q,w'=w.drewN q:=by
 match ts,h8,hc,hn with
 |x0::x1::x2::x3::x4::x5::x6::x7::r,h8,hc,hn =>
  have:=b7V b o n c x0 x1 x2 x3 x4 x5 x6 x7 w (by rw[<-hn];exact h8) hm (hc 0 (by simp)) (hc 1 (by simp)) (hc 2 (by simp)) (hc 3 (by simp)) (hc 4 (by simp)) (hc 5 (by simp)) (hc 6 (by simp)) (hc 7 (by simp))
  simpa using this
theorem a56(ts:List UInt8):Lib.leNat (ts.take 8)<18446744073709551616:=by
 have h:=Lib.leNat_lt (ts.take 8);have h2:(ts.take 8).length<=8:=List.length_take_le _ _;have h3:256 ^ (ts.take 8).length<=256 ^ 8:=Nat.pow_le_pow_right (by omega) h2
 have h4:256 ^ 8=18446744073709551616:=by decide
 omega
theorem a4M(ts:List UInt8)(h:8<=ts.length):(Lib.leNat (ts.take 8) &&& 9259542123273814144=0)↔∀b∈ts.take 8,b.toNat<128:=by
 have h8:(ts.take 8).length=8:=by rw[u0];omega
 have:=Lib.leNat_mask (ts.take 8);rw[h8,Lib.maskN8]at this;exact this
theorem b1x(ts:List UInt8)(a b:Nat)(ha:∀x∈ts.take a,x.toNat<128)(hb:∀x∈(ts.drop a).take b,x.toNat<128):∀x∈ts.take (a+b),x.toNat<128:=by
 rw[List.take_add];intro x hx;rcases D6.1 hx with h|h
 ·exact ha x h
 ·exact hb x h
def b2U(w:World)(N:Nat)(ANS:Bool)(gk:Nat)(s0:Value)(wx:World):Prop :=
 Below w.heap.size w wx/\∃(A:Option Addr) (ts:List UInt8),s0=.slice A ts.length ts.length/\Q3 wx w.heap.size A (P6 ts)/\Lib.validD ts=ANS/\ts.length<gk/\ts.length<=N
theorem c0W(b o n c:Nat)(us:List UInt8)(wq:World)(h8:8<=us.length)(hn:us.length=n)(hm:n<=9223372036854775807)
 (hc:∀j (hj:j<us.length),wq.cell? ⟨b,o+j,none⟩=some (.int .u8 (us[j].toNat:Int))) :
 ∃A Z:Nat,(∀q,Calls Tryz.prog 149 #[.slice (some ⟨b,o,none⟩) n c] (wq.drewN q) fun e w'=>e=.returned (.int .u64 A)/\∃m,w'=(wq.drewN q).drewN m) /\
  bits .and .u64 (A:Int) 9259542123273814144=(Z:Int)/\(Z=0->∀x∈us.take 8,x.toNat<128) :=
 ⟨_,_,fun q=>a4L b o n c us (wq.drewN q) h8 hn hm hc,u64_and_nat _ 9259542123273814144 (a56 us) (by omega),(a4M us h8).1⟩
theorem b6f(b o n c n' c':Nat)(us:List UInt8)(wq:World)(h8:16<=us.length)(hn:us.length=n)(hn':n'+8=n)(hm:n<=9223372036854775807)
 (hc:∀j (hj:j<us.length),wq.cell? ⟨b,o+j,none⟩=some (.int .u8 (us[j].toNat:Int))) :
 ∃A A' O Z:Nat,(∀q,Calls Tryz.prog 149 #[.slice (some ⟨b,o,none⟩) n c] (wq.drewN q) fun e w'=>e=.returned (.int .u64 A)/\∃m,w'=(wq.drewN q).drewN m) /\
  (∀q,Calls Tryz.prog 149 #[.slice (some ⟨b,o+8,none⟩) n' c'] (wq.drewN q) fun e w'=>e=.returned (.int .u64 A')/\∃m,w'=(wq.drewN q).drewN m) /\
  bits .or .u64 (A:Int) (A':Int)=(O:Int)/\O<18446744073709551616/\bits .and .u64 (O:Int) 9259542123273814144=(Z:Int)/\(Z=0->∀x∈us.take 16,x.toNat<128):=by
 have l1:=a56 us;have l2:=a56 (us.drop 8);have lo:Lib.leNat (us.take 8) ||| Lib.leNat ((us.drop 8).take 8)<18446744073709551616:=Nat.or_lt_two_pow (n:=64) l1 l2
 refine⟨_,_,_,_,fun q=>a4L b o n c us (wq.drewN q) (by omega) hn hm hc,fun q=>a4L b (o+8) n' c' (us.drop 8) (wq.drewN q) (by simp;omega) (by simp;omega) (by omega) (V9 8 hc),
  u64_or_nat _ _ l1 l2,lo,u64_and_nat _ 9259542123273814144 lo (by omega),fun h0 => ?_⟩
 obtain⟨e1,e2⟩:=(Lib.or_mask _ _ _).1 h0;exact b1x us 8 8 ((a4M us (by omega)).1 e1) ((a4M (us.drop 8) (by simp;omega)).1 e2)
theorem c0V(b o n c n1 c1 n2 c2 n3 c3:Nat)(us:List UInt8)(wq:World)(h8:32<=us.length)(hn:us.length=n)(D2:n1+8=n)(D3:n2+16=n)(D9:n3+24=n)(hm:n<=9223372036854775807)
 (hc:∀j (hj:j<us.length),wq.cell? ⟨b,o+j,none⟩=some (.int .u8 (us[j].toNat:Int))) :
 ∃A0 A1 A2 A3 P1 P2 P3 Z:Nat,(∀q,Calls Tryz.prog 149 #[.slice (some ⟨b,o,none⟩) n c] (wq.drewN q) fun e w'=>e=.returned (.int .u64 A0)/\∃m,w'=(wq.drewN q).drewN m) /\
  (∀q,Calls Tryz.prog 149 #[.slice (some ⟨b,o+8,none⟩) n1 c1] (wq.drewN q) fun e w'=>e=.returned (.int .u64 A1)/\∃m,w'=(wq.drewN q).drewN m) /\
  (∀q,Calls Tryz.prog 149 #[.slice (some ⟨b,o+16,none⟩) n2 c2] (wq.drewN q) fun e w'=>e=.returned (.int .u64 A2)/\∃m,w'=(wq.drewN q).drewN m) /\
  (∀q,Calls Tryz.prog 149 #[.slice (some ⟨b,o+24,none⟩) n3 c3] (wq.drewN q) fun e w'=>e=.returned (.int .u64 A3)/\∃m,w'=(wq.drewN q).drewN m) /\
  bits .or .u64 (A0:Int) (A1:Int)=(P1:Int)/\bits .or .u64 (A2:Int) (A3:Int)=(P2:Int)/\bits .or .u64 (P1:Int) (P2:Int)=(P3:Int) /\
  bits .and .u64 (P3:Int) 9259542123273814144=(Z:Int)/\(Z=0->∀x∈us.take 32,x.toNat<128):=by
 obtain⟨A0,A1,O,Z,k0,k1,ho,lo,_,hz⟩:=b6f b o n c n1 c1 us wq (by omega) hn D2 hm hc
 obtain⟨A2,A3,O',Z',k2,k3,ho',lo',_,hz'⟩:=b6f b (o+16) n2 c2 n3 c3 (us.drop 16) wq (by simp;omega) (by simp;omega) (by omega) (by omega) (V9 16 hc)
 have lp:O ||| O'<18446744073709551616:=Nat.or_lt_two_pow (n:=64) lo lo';refine⟨A0,A1,A2,A3,O,O',_,_,k0,k1,k2,fun q=>by simpa [Nat.add_assoc]using k3 q,ho,ho',u64_or_nat _ _ lo lo',u64_and_nat _ 9259542123273814144 lp (by omega),fun h0 => ?_⟩
 obtain⟨e1,e2⟩:=(Lib.or_mask _ _ _).1 h0;have m1:bits .and .u64 (O:Int) 9259542123273814144=((O &&& 9259542123273814144:Nat):Int):=u64_and_nat O 9259542123273814144 lo (by omega)
 have m2:bits .and .u64 (O':Int) 9259542123273814144=((O' &&& 9259542123273814144:Nat):Int):=u64_and_nat O' 9259542123273814144 lo' (by omega)
 rename_i D1 D0;rw[D1,e1]at m1;rw[D0,e2]at m2;exact b1x us 16 16 (hz (by omega)) (hz' (by omega))
theorem a2a{ts:List UInt8}{ANS:Bool}(hv:Lib.validD ts=ANS)(k:Nat)(ha:∀x∈ts.take k,x.toNat<128):Lib.validD (ts.drop k)=ANS:=by
 rw[<-hv];exact(Lib.validD_ascii k ts ha).symm
theorem c1B:∀X:Fin 256,bits .and .u8 ((X.val:Nat):Int) 7=((X.val%8:Nat):Int):=by decide +kernel
theorem U9{w wx:World}{N g n k b o:Nat}{ANS:Bool}{ts:List UInt8}{A:Option Addr}(hb:Below w.heap.size w wx)(D1:b<w.heap.size)(hn:ts.length=n)
 (hc:∀j (hj:j<ts.length),wx.cell? ⟨b,o+j,none⟩=some (.int .u8 (ts[j].toNat:Int))) (hv:Lib.validD (ts.drop k)=ANS) (hA:k<n->A=some ⟨b,o+k,none⟩) (hg:n<g+k) (hk:k<=n) (hN:n<=N) :
 b2U w N ANS g (.slice A (n-k) (n-k)) wx:=by
 have hl:(ts.drop k).length=n-k:=by rw[B6,hn]
 refine⟨hb,A,ts.drop k,by rw[hl],?_,hv,by rw[hl];omega,by rw[hl];omega⟩
 by_cases h:k<n
 ·rw[hA h]
  exact Y1 D1 (V9 k hc)
 ·intro D0
  have:ts.drop k=[]:=j8 (by rw[hl];omega)
  rw[this]at D0;exact absurd rfl D0
theorem a8o{w:World}{b o:Nat}{ts:List UInt8}(hc:∀j (hj:j<ts.length),w.cell? ⟨b,o+j,none⟩=some (.int .u8 (ts[j].toNat:Int)))(j:Nat)(hj:j<ts.length) :
 w.cell? ⟨b,o+j,none⟩=some (.int .u8 ((ts.getD j 0).toNat:Int)):=by
 rw[hc j hj,List.getD_eq_getElem?_getD,i5 hj];rfl
theorem b5M{ts:List UInt8}(h:0<ts.length):ts.take 1=[ts.getD 0 0]:=by
 match ts,h with
 |a::r,_=>rfl
theorem a25{w wx:World}{N g n b o:Nat}{ANS:Bool}{ts:List UInt8}(hb:Below w.heap.size w wx)(D0:b<w.heap.size)(hn:ts.length=n)
 (hc:∀j (hj:j<ts.length),wx.cell? ⟨b,o+j,none⟩=some (.int .u8 (ts[j].toNat:Int))) (hv:Lib.validD ts=ANS) (hg:n<g) (hN:n<=N) :
 b2U w N ANS g (.slice (some ⟨b,o,none⟩) n n) wx :=
 ⟨hb,_,ts,by rw[hn],Y1 D0 hc,hv,by omega,by omega⟩
theorem b2U.mono{w wx:World}{N N' g g':Nat}{ANS:Bool}{v:Value}(h:b2U w N ANS g v wx)(hg:N<g')(hN:N<=N'):b2U w N' ANS g' v wx:=by
 obtain⟨hb,A,ts,e,hl,hv,h1,h2⟩:=h;exact⟨hb,A,ts,e,hl,hv,by omega,by omega⟩
theorem b2V{r:Int}(h:R7 r=true):u8s (N6 r)=P6 (C3 r):=by
 unfold u8s P6 C3;rw[List.map_map]
 apply List.map_congr_left
 intro x hx;obtain⟨h0,h1⟩:=b49 h x hx;simp only[Function.comp];rw[G1 h0 h1,Int.toNat_of_nonneg h0]
theorem a2c(a b:List UInt8):P6 (a++b)=P6 a++P6 b:=by simp[P6]
theorem a9Y:∀{l:List Int},l.all R7=true->u8s (a2n l)=P6 (y9 l)
 | [],_=>rfl
 |r::l,h=>by
  rw[List.all_cons,i4]at h;have e1:a2n (r::l)=N6 r++a2n l:=by simp[a2n]
  rw[e1,J4,a6d,a2c,b2V h.1,a9Y h.2]
theorem a6x{w:World}{B e n:Nat}{v:Value}{xs:List Value}(h:w.ownsRow B e 1 v n xs) :
 ∃A cap,v=.slice A n cap/\n<=cap/\cap<=9223372036854775807/\Q3 w w.heap.size A xs/\(∀g,v.ownBlock=some g->B<=g/\g<w.heap.size):=by
 obtain⟨hl,h |⟨g,cap,cur,rfl,hg,hh,hn,hc,hs,ht⟩⟩:=h
 ·obtain⟨rfl,rfl⟩:=h
  refine⟨none,0,rfl,c9 _,by omega,fun D1 => ?_,fun g hg=>by simp[Value.ownBlock]at hg⟩
  exact absurd (j8 (by simpa using hl)) D1
 ·have D0:g<w.heap.size:=by
   rcases Nat.lt_or_ge g w.heap.size with D0|hge
   ·exact D0
   ·rw[D4 hge]at hh;cases hh
  refine⟨some ⟨g,0,none⟩,cap,rfl,hn,by unfold maxLen at hc;exact hc,fun _=>⟨g,0,rfl,D0,fun j hj => ?_⟩,fun g' hg'=>by simp[Value.ownBlock]at hg';omega⟩
  rw[F5,d9 w g j cur e (0,0) hh]
  have:cur.toList[j]? = xs[j]?:=by
   rw[<-ht,List.getElem?_take_of_lt (by rw[hl]at hj;exact hj)]
  rw[A9]at this;rw[this,i5 hj]
theorem I4{w:World}{B:Nat}{A:Option Addr}{bs:List UInt8}(c:Nat)(h:Q3 w B A (P6 bs)):(convert 22 9 (.slice A bs.length c)).run Tryz.prog w=.ok (.string ⟨bs.toArray⟩) w:=by
 rcases B9 bs.length with h0|h0
 ·have:bs=[]:=j8 h0
  subst this;rw[run_convert_bytes_string w 22 9 5 _ _ c Tryz.underlying22 Tryz.underlying5 Tryz.underlying9];cases A<;>simp[Conv.bytesToString,loadCells]
  all_goals rfl
 ·obtain⟨b,o,rfl,_,hc⟩:=a2l h h0
  exact run_convert_bytes_back w 22 9 5 ⟨b,o,none⟩ c bs Tryz.underlying22 Tryz.underlying5 Tryz.underlying9 (fun j hj=>by
   have:=hc j hj;rcases B9 j with h|h
   ·subst h;simpa [Addr.add]using this
   ·simp only[Addr.add];rw[f6 (by omega)];exact this)
theorem b17(r:Int)(h0:0<=r)(h1:r<=127)(w:World):Calls Tryz.prog 177 #[.int .i32 r] w fun e w'=>e=.returned (.slice (some ⟨w.heap.size,0,none⟩) 1 1)/\w.alloc (.cells #[.int .u8 (r)] 5)=w':=by
 go_enter Tryz.func177,Tryz.ntmps177;go_wp2;go_ret;exact⟨rfl,rfl⟩
theorem b16(r:Int)(h0:128<=r)(h1:r<=2047)(w:World):Calls Tryz.prog 177 #[.int .i32 r] w fun e w'=>e=.returned (.slice (some ⟨w.heap.size,0,none⟩) 2 2)/\w.alloc (.cells #[.int .u8 (192+r/64),.int .u8 (128+r%64)] 5)=w':=by
 go_enter Tryz.func177,Tryz.ntmps177;go_wp2;go_ret;exact⟨rfl,rfl⟩
theorem a8M(r:Int)(h0:2048<=r)(h1:r<=65535)(w:World):Calls Tryz.prog 177 #[.int .i32 r] w fun e w'=>e=.returned (.slice (some ⟨w.heap.size,0,none⟩) 3 3)/\w.alloc (.cells #[.int .u8 (224+r/4096),.int .u8 (128+r/64%64),.int .u8 (128+r%64)] 5)=w':=by
 go_enter Tryz.func177,Tryz.ntmps177;go_wp2;go_ret;exact⟨rfl,rfl⟩
theorem b0m(r:Int)(h0:65536<=r)(h1:r<=1114111)(w:World):Calls Tryz.prog 177 #[.int .i32 r] w fun e w'=>e=.returned (.slice (some ⟨w.heap.size,0,none⟩) 4 4)/\w.alloc (.cells #[.int .u8 (240+r/262144),.int .u8 (128+r/4096%64),.int .u8 (128+r/64%64),.int .u8 (128+r%64)] 5)=w':=by
 go_enter Tryz.func177,Tryz.ntmps177;go_wp2;go_ret;exact⟨rfl,rfl⟩
theorem a0B(r:Int)(hc:R7 r=true)(w:World):Calls Tryz.prog 177 #[.int .i32 r] w fun e w'=>e=.returned (.slice (some ⟨w.heap.size,0,none⟩) (C3 r).length (C3 r).length)/\w.alloc (.cells (P6 (C3 r)).toArray 5)=w':=by
 rw[<-b2V hc,a2O];rw[S6]at hc;rcases(show r<=127∨(128<=r/\r<=2047)∨(2048<=r/\r<=65535)∨65536<=r from by omega)with e|e|e|e
 ·have he:N6 r=[r]:=by simp only[N6];rw[g8 e]
  rw[he];exact b17 r hc.1 e w
 ·have he:N6 r=[192+r/64,128+r%64]:=by simp only[N6];rw[f6 (by omega),g8 (by omega)]
  rw[he];exact b16 r e.1 e.2 w
 ·have he:N6 r=[224+r/4096,128+r/64%64,128+r%64]:=by simp only[N6];rw[f6 (by omega),f6 (by omega),g8 (by omega)]
  rw[he];exact a8M r e.1 e.2 w
 ·have he:N6 r=[240+r/262144,128+r/4096%64,128+r/64%64,128+r%64]:=by simp only[N6];rw[f6 (by omega),f6 (by omega),f6 (by omega)]
  rw[he];exact b0m r e hc.2.1 w
theorem a4A{r:Int}{B:Bool}(h:R7 r=B)(w:World):Calls Tryz.prog 127 #[.int .i32 r] w fun e w'=>e=.returned (.bool B)/\w'=w :=
 (a16 r w).mono fun _ _ ⟨he,hw⟩=>⟨by rw[he,h],hw.symm⟩
def O9(b:Nat):Nat:=if b<128 then 1 else if 192<=b/\b<224 then 2 else if 224<=b/\b<240 then 3 else 4
theorem a0m(b:UInt8)(w:World):Calls Tryz.prog 176 #[.int .u8 b.toNat] w fun e w'=>e=.returned (.int .i64 (O9 b.toNat))/\w=w':=by
 have hb:=b.toNat_lt;generalize b.toNat=n at hb;rcases(show n<128∨(128<=n/\n<192)∨(192<=n/\n<224)∨(224<=n/\n<240)∨240<=n from by omega)with h|h|h|h|h
 ·have e:O9 n=1:=by simp only[O9];rw[g8 h]
  rw[e];have hz:(n:Int)<128:=by omega
  go_enter Tryz.func176,Tryz.ntmps176;go_wp2;go_ret;exact⟨rfl,rfl⟩
 ·have e:O9 n=4:=by simp only[O9];rw[f6 (by omega),f6 (by omega),f6 (by omega)]
  rw[e];obtain⟨h1,h2⟩:=h;have hz:¬(n:Int)<128:=by omega
  have hy:¬(192:Int)<=n:=by omega
  have D0:¬(224:Int)<=n:=by omega
  go_enter Tryz.func176,Tryz.ntmps176;go_wp2;go_ret;exact⟨rfl,rfl⟩
 ·have e:O9 n=2:=by simp only[O9];rw[f6 (by omega),g8 (by omega)]
  rw[e];obtain⟨h1,h2⟩:=h;have hz:¬(n:Int)<128:=by omega
  have hy:(192:Int)<=n:=by omega
  have D0:(n:Int)<224:=by omega
  go_enter Tryz.func176,Tryz.ntmps176;go_wp2;go_ret;exact⟨rfl,rfl⟩
 ·have e:O9 n=3:=by simp only[O9];rw[f6 (by omega),f6 (by omega),g8 (by omega)]
  rw[e];obtain⟨h1,h2⟩:=h;have hz:¬(n:Int)<128:=by omega
  have hy:(192:Int)<=n:=by omega
  have D0:¬(n:Int)<224:=by omega
  have D1:(224:Int)<=n:=by omega
  have D2:(n:Int)<240:=by omega
  go_enter Tryz.func176,Tryz.ntmps176;go_wp2;go_ret;exact⟨rfl,rfl⟩
 ·have e:O9 n=4:=by simp only[O9];rw[f6 (by omega),f6 (by omega),f6 (by omega)]
  rw[e];have hz:¬(n:Int)<128:=by omega
  have hy:(192:Int)<=n:=by omega
  have D0:¬(n:Int)<224:=by omega
  have D1:(224:Int)<=n:=by omega
  have D2:¬(n:Int)<240:=by omega
  go_enter Tryz.func176,Tryz.ntmps176;go_wp2;go_ret;exact⟨rfl,rfl⟩
end Go.Proofs.YtlgcigmolfhamaaGreatDoor
