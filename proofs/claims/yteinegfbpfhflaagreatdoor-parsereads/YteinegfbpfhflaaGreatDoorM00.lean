/-
  Plain functions on numbers: which numbers are characters, and which of them may stand in a document. Conditions: none.
  Characters' bytes, there and back, in plain numbers: bytes are valid just if they are the bytes of some list of characters. Conditions: none.
  The plain test on numbers: which are characters. Conditions: none.
  utf8.word of a slice of bytes: the number that its first eight bytes spell. Conditions: there are eight bytes.
  What utf8.Valid's walk stands on: bytes as cells, tails, words, the two tables. Conditions: none.
  A row of bytes that a call owns, read as bytes; bytes turned into a string. Conditions: none.
  The document's own answer for one character's bytes, and how long a character is by its first byte. Conditions: the number is a character.
-/
import Derived.Deep.WholeRow
import Derived.Below
import Derived.Lib.ValidAsc
import Derived.Lib.MapLaws
import Derived.Test.YteinegfbpfhflaaGreatDoorProg
import Derived.WalkKit
import Derived.Deep.QuietTactic
import Derived.BigQuiet
import Derived.Lib.Endian
import Derived.Lib.EndianBits
import Derived.Deep.Draws
import Derived.Laws.BitsAllLaws
import Derived.Lib.Hide
import Derived.Laws.IdiomStrings
namespace Go.Proofs.YteinegfbpfhflaaGreatDoor
open Go.RowKit
set_option maxHeartbeats 4000000
set_option maxRecDepth 100000
abbrev aa:=@Lib.hid
abbrev ae:=@Below.refl
abbrev af:=@Nat.le_refl
abbrev ag:=@Nat.le_trans
abbrev ai:=@cell_of_row
abbrev aj:=@List.length_append
abbrev ak:=@beq_eq_false_iff_ne
abbrev al:=@Option.some.injEq
abbrev am:=@if_neg
abbrev ao:=@Below.heap_setCell
abbrev ap:=@decide_eq_false
abbrev aq:=@Lib.toList_data
abbrev ar:=@heap_alloc_last
abbrev av:=@if_pos
abbrev aw:=@List.getElem?_eq_getElem
abbrev ax:=@decide_eq_true
abbrev az:=@List.length_cons
abbrev aA:=@List.cons_append
abbrev aB:=@List.length_singleton
abbrev aD:=@List.eq_nil_of_length_eq_zero
abbrev aE:=@List.nil_append
abbrev aJ:=@List.getElem_mem
abbrev aK:=@Value.slice.injEq
abbrev aM:=@Nat.zero_le
abbrev aN:=@List.take_succ_eq_append_getElem
abbrev aO:=@Bool.and_eq_true
abbrev aQ:=@World.ownsRow_nil
abbrev aU:=@List.mem_cons
abbrev aV:=@List.cons.injEq
abbrev aW:=@List.mem_singleton
abbrev aX:=@Array.getElem?_eq_getElem
abbrev aY:=@List.length_take
abbrev a8:=@Nat.lt_of_lt_of_le
abbrev bb:=@List.length_nil
abbrev bc:=@beq_iff_eq
abbrev be:=@Nat.le_of_lt
abbrev bh:=@List.getElem?_eq_some_iff
abbrev bi:=@Array.getElem?_toList
abbrev bj:=@decide_eq_true_eq
abbrev bk:=@World.cell?_alloc_lt
abbrev bm:=@Bool.eq_iff_iff
abbrev bo:=@List.append_nil
abbrev bq:=@List.length_drop
abbrev bv:=@List.drop_eq_getElem_cons
abbrev bw:=@Nat.eq_zero_or_pos
abbrev bC:=@List.take_of_length_le
abbrev bE:=@List.not_mem_nil
abbrev bH:=@List.getElem?_cons_succ
abbrev bK:=@List.all_eq_true
abbrev bL:=@Array.getElem?_eq_none
abbrev bM:=@And.intro
abbrev bN:=@List.length_map
abbrev bO:=@List.length_pos_iff
abbrev bS:=@List.mem_append
abbrev bT:=@decide_eq_false_iff_not
abbrev bU:=@Nat.lt_or_eq_of_le
abbrev bV:=@List.isPrefixOf_iff_prefix
abbrev ce:=@List.prefix_append
abbrev ch:=@List.flatMap_append
abbrev ci:=@Nat.zero_add
abbrev cj:=@List.drop_of_length_le
abbrev cu:=@Nat.le_of_eq
abbrev cw:=@List.getElem?_cons_zero
abbrev cC:=@Nat.le_of_lt_succ
abbrev cG:=@List.take_append_drop
abbrev cK:=@UInt8.toNat_inj
abbrev cL:=@List.take_length
abbrev cN:=@Int.toNat_natCast
def eA(r:Int):Bool:=decide (0<=r/\r<=1114111/\(r<55296∨57343<r))
def ep(r:Int):Bool:=decide (r=9∨r=10∨r=13∨(32<=r/\r<=55295)∨(57344<=r/\r<=65533)∨(65536<=r/\r<=1114111))
def dJ(r:Int):List Int :=
 if r<=127 then[r]
 else if r<=2047 then[192+r/64,128+r%64]
 else if r<=65535 then[224+r/4096,128+r/64%64,128+r%64]
 else[240+r/262144,128+r/4096%64,128+r/64%64,128+r%64]
theorem tD(r:Int):1<=(dJ r).length/\(dJ r).length<=4:=by
 unfold dJ
 split
 ·simp
 ·split
  ·simp
  ·split<;>simp
def jI(l:List Int):List Int:=l.flatMap dJ
theorem A6(l:List Int)(r:Int):jI (l++[r])=jI l++dJ r:=by simp[jI]
theorem Fq(l:List Int):(jI l).length<=4*l.length:=by
 induction l with
 |nil=>simp[jI]
 |cons a r ih =>
  have:=tD a;simp only[jI,List.flatMap_cons,aj,az]at ih ⊢;omega
def wJ(l:List Int):List Value:=l.map (Value.int .u8)
def fo(l:List Int):List Value:=l.map (Value.int .i32)
theorem o9(a b:List Int):wJ (a++b)=wJ a++wJ b:=by simp[wJ]
def en(w:World)(B:Nat)(A:Option Addr)(xs:List Value):Prop :=
 xs≠[]->∃b o,A=some ⟨b,o,none⟩/\b<B/\∀j (h:j<xs.length),w.cell? ⟨b,o+j,none⟩=some xs[j]
theorem en.below{w w':World}{B:Nat}{A:Option Addr}{xs:List Value}(h:en w B A xs)(hb:Below B w w'):en w' B A xs:=fun hn=>by
 obtain⟨b,o,e,hlt,hc⟩:=h hn;exact⟨b,o,e,hlt,fun j hj=>(hb.cell (p:=⟨b,o+j,none⟩) hlt).trans (hc j hj)⟩
theorem en.mono{w:World}{B B':Nat}{A:Option Addr}{xs:List Value}(h:en w B A xs)(hb:B<=B'):en w B' A xs:=fun hn=>by
 obtain⟨b,o,e,hlt,hc⟩:=h hn;exact⟨b,o,e,by omega,hc⟩
theorem dH{a b:Bool}(h:a=b):Ending.returned (.bool a)=.returned (.bool b):=by rw[h]
def bD(r:Int):List UInt8:=(dJ r).map fun x=>x.toNat.toUInt8
def bg(l:List Int):List UInt8:=l.flatMap bD
theorem kp(r:Int):(bD r).length=(dJ r).length:=by simp[bD]
theorem dY(r:Int):1<=(bD r).length:=by rw[kp];exact(tD r).1
theorem eG{r:Int}:eA r=true↔0<=r/\r<=1114111/\(r<55296∨57343<r):=by simp[eA]
theorem A8{r:Int}(h:eA r=true):bD r=Lib.encodeRune r:=by
 rw[eG]at h;unfold bD Lib.encodeRune
 congr 1
 rcases(show r<=127∨(128<=r/\r<=2047)∨(2048<=r/\r<=65535)∨65536<=r from by omega)with e|e|e|e
 ·rw[Lib.encodeRuneZ_one (by omega) e];simp only[dJ];rw[av e]
 ·rw[Lib.encodeRuneZ_two (by omega) (by omega)];simp only[dJ];rw[am (by omega),av (by omega)]
 ·rw[Lib.encodeRuneZ_three (by omega)];simp only[dJ];rw[am (by omega),am (by omega),av (by omega)]
 ·rw[Lib.encodeRuneZ_four (by omega) (by omega)];simp only[dJ];rw[am (by omega),am (by omega),am (by omega)]
theorem A7{r:Int}(h:eA r=true):∀x∈dJ r,0<=x/\x<256:=by
 rw[eG]at h;intro x hx;unfold dJ at hx
 split at hx
 ·simp at hx;omega
 ·split at hx
  ·simp at hx;omega
  ·split at hx<;>(simp at hx;omega)
theorem cq{n:Int}(h0:0<=n)(h1:n<256):(n.toNat.toUInt8).toNat=n.toNat:=by
 have:n.toNat<256:=by omega
 simp;omega
theorem oG{r:Int}(hc:eA r=true)(rest:List UInt8):Lib.decodeL (bD r++rest)=(r.toNat,(bD r).length):=by
 rw[eG]at hc;rw[Lib.decodeL_N];rcases(show r<=127∨(128<=r/\r<=2047)∨(2048<=r/\r<=65535)∨65536<=r from by omega)with e|e|e|e
 ·have he:bD r=[r.toNat.toUInt8]:=by simp only[bD,dJ];rw[av e];rfl
  rw[he];simp only[aA,aE,List.getD_cons_zero,az,cq hc.1 (show r<256 by omega)]
  unfold Lib.decodeN;rw[av (by omega)]
  simp
 ·have he:bD r=[(192+r/64).toNat.toUInt8,(128+r%64).toNat.toUInt8]:=by simp only[bD,dJ];rw[am (by omega),av (by omega)];rfl
  rw[he];simp only[aA,aE,List.getD_cons_zero,List.getD_cons_succ,az,cq (show 0<=192+r/64 by omega) (show 192+r/64<256 by omega),cq (show 0<=128+r%64 by omega) (show 128+r%64<256 by omega)]
  rcases Lib.decodeN_shape (rest.length+1+1) (192+r/64).toNat (128+r%64).toNat (rest.getD 0 0).toNat (rest.getD 1 0).toNat with h|h|h|h|h
  ·omega
  ·rw[h.2.2.2.2];simp;omega
  ·omega
  ·omega
  ·exfalso
   unfold Lib.decodeN at h;rw[am (by omega),av (by omega),av (by omega)]at h
   simp at h
 ·have he:bD r=[(224+r/4096).toNat.toUInt8,(128+r/64%64).toNat.toUInt8,(128+r%64).toNat.toUInt8]:=by simp only[bD,dJ];rw[am (by omega),am (by omega),av (by omega)];rfl
  rw[he];simp only[aA,aE,List.getD_cons_zero,List.getD_cons_succ,az,cq (show 0<=224+r/4096 by omega) (show 224+r/4096<256 by omega),cq (show 0<=128+r/64%64 by omega) (show 128+r/64%64<256 by omega),cq (show 0<=128+r%64 by omega) (show 128+r%64<256 by omega)]
  unfold Lib.decodeN;rw[am (by omega),am (by omega),av (by omega),av (by omega)]
  simp;omega
 ·have he:bD r=[(240+r/262144).toNat.toUInt8,(128+r/4096%64).toNat.toUInt8,(128+r/64%64).toNat.toUInt8,(128+r%64).toNat.toUInt8]:=by simp only[bD,dJ];rw[am (by omega),am (by omega),am (by omega)];rfl
  rw[he];simp only[aA,aE,List.getD_cons_zero,List.getD_cons_succ,az,cq (show 0<=240+r/262144 by omega) (show 240+r/262144<256 by omega),cq (show 0<=128+r/4096%64 by omega) (show 128+r/4096%64<256 by omega),cq (show 0<=128+r/64%64 by omega) (show 128+r/64%64<256 by omega),cq (show 0<=128+r%64 by omega) (show 128+r%64<256 by omega)]
  unfold Lib.decodeN;rw[am (by omega),am (by omega),am (by omega),av (by omega),av (by omega)]
  simp;omega
theorem Dl{r:Int}(hc:eA r=true):¬(r.toNat=65533/\(bD r).length=1):=by
 rw[eG]at hc;rintro⟨h1,h2⟩;have:r=65533:=by omega
 subst this;simp[bD,dJ]at h2
theorem zA{r:Int}(hc:eA r=true)(rest:List UInt8):Lib.validD (bD r++rest)=Lib.validD rest:=by
 have hp:=dY r;rw[Lib.validD_step _ (by intro h;have:=congrArg List.length h;simp at this;rw[this.1]at hp;simp at hp),oG hc rest]
 dsimp only;rw[am (Dl hc),List.drop_left]
theorem lm:∀(l:List Int),l.all eA=true->∀rest,Lib.validD (bg l++rest)=Lib.validD rest
 | [],_,rest=>by simp[bg]
 |r::l,h,rest=>by
  rw[List.all_cons,aO]at h;have:bg (r::l)++rest=bD r++(bg l++rest):=by simp[bg]
  rw[this,zA h.1,lm l h.2]
theorem uj:∀(n:Nat) (bs:List UInt8),bs.length<=n->Lib.validD bs=true->∃l:List Int,l.all eA=true/\bs=bg l
 |0,bs,hn,_=>⟨[],rfl,by have:bs=[]:=aD (by omega);subst this;rfl⟩
 |n+1,bs,hn,hv=>by
  by_cases hne:bs=[]
  ·exact⟨[],rfl,by subst hne;rfl⟩
  ·rw[Lib.validD_step bs hne]at hv
   by_cases hb:(Lib.decodeL bs).1=65533/\(Lib.decodeL bs).2=1
   ·rw[av hb]at hv;cases hv
   ·rw[am hb]at hv
    have he:=Lib.encode_decode bs hne hb
    have hch:eA ((Lib.decodeL bs).1:Int)=true/\1<=(Lib.decodeL bs).2:=by
     rw[eG];rw[Lib.decodeL_N]at hb ⊢;have k0:=(bs.getD 0 0).toNat_lt;rcases Lib.decodeN_shape bs.length (bs.getD 0 0).toNat (bs.getD 1 0).toNat (bs.getD 2 0).toNat (bs.getD 3 0).toNat with h|h|h|h|h
     ·rw[h.2];dsimp only;omega
     ·rw[h.2.2.2.2];dsimp only;omega
     ·rw[h.2.2.2.2.2.2];dsimp only;omega
     ·rw[h.2.2.2.2.2.2.2];dsimp only;omega
     ·exact absurd (by rw[h];exact⟨rfl,rfl⟩) hb
    obtain⟨l,hl,e⟩:=uj n (bs.drop (Lib.decodeL bs).2) (by rw[bq];omega) hv
    refine⟨((Lib.decodeL bs).1:Int)::l,by simp[hch.1];simpa using hl,?_⟩
    show bs=bD _++bg l
    rw[A8 hch.1,he,<-e,cG]
theorem iX(bs:List UInt8):Lib.validD bs=true↔∃l:List Int,l.all eA=true/\bs=bg l :=
 ⟨uj bs.length bs (af _),fun⟨l,hl,e⟩=>by rw[e,<-bo (bg l),lm l hl];rfl⟩
theorem mx{r s:Int}(hr:eA r=true)(hs:eA s=true){x y:List UInt8}(h:bD r++x=bD s++y):r=s/\x=y:=by
 have h1:=oG hr x;rw[h,oG hs y]at h1;have e:=congrArg Prod.fst h1;dsimp only at e;rw[eG]at hr hs;have:r=s:=by omega
 subst this;exact⟨rfl,List.append_cancel_left h⟩
theorem nv:∀{l k:List Int},l.all eA=true->k.all eA=true->bg l=bg k->l=k
 | [],[],_,_,_=>rfl
 | [],s::k,_,_,h=>by
  have:=congrArg List.length h;have hp:=dY s;simp[bg]at this;omega
 |r::l,[],_,_,h=>by
  have:=congrArg List.length h;have hp:=dY r;simp[bg]at this;rw[this.1]at hp;simp at hp
 |r::l,s::k,hl,hk,h=>by
  rw[List.all_cons,aO]at hl hk;obtain⟨e1,e2⟩:=mx hl.1 hk.1 (show bD r++bg l=bD s++bg k from h);rw[e1,nv hl.2 hk.2 e2]
theorem de(l k:List Int):bg (l++k)=bg l++bg k:=by simp[bg]
theorem cZ(r:Int)(k:List Int):bg (r::k)=bD r++bg k:=rfl
theorem jo(r:Int)(w:World):Calls Tryz.prog 99 #[.int .i32 r] w fun e w'=>e=.returned (.bool (eA r))/\w=w':=by
 go_enter Tryz.func99,Tryz.ntmps99;go_wp2
 all_goals
  go_ret;refine⟨dH ?_,rfl⟩;rw[bm];simp[eA]
  try omega
theorem Ei(b o n c:Nat)(x0 x1 x2 x3 x4 x5 x6 x7:UInt8)(w:World)(hn:8<=n)(hm:n<=9223372036854775807)
 (c0:w.cell? ⟨b,o,none⟩=some (.int .u8 x0.toNat)) (c1:w.cell? ⟨b,o+1,none⟩=some (.int .u8 x1.toNat)) (c2:w.cell? ⟨b,o+2,none⟩=some (.int .u8 x2.toNat)) (c3:w.cell? ⟨b,o+3,none⟩=some (.int .u8 x3.toNat)) (c4:w.cell? ⟨b,o+4,none⟩=some (.int .u8 x4.toNat)) (c5:w.cell? ⟨b,o+5,none⟩=some (.int .u8 x5.toNat)) (c6:w.cell? ⟨b,o+6,none⟩=some (.int .u8 x6.toNat)) (c7:w.cell? ⟨b,o+7,none⟩=some (.int .u8 x7.toNat)) :
 Calls Tryz.prog 121 #[.slice (some ⟨b,o,none⟩) n c] w fun e w'=>e=.returned (.int .u64 (Lib.leNat [x0,x1,x2,x3,x4,x5,x6,x7]))/\∃q,w'=w.drewN q:=by
 have h0:x0.toNat<256:=x0.toNat_lt;have h1:x1.toNat<256:=x1.toNat_lt;have h2:x2.toNat<256:=x2.toNat_lt;have h3:x3.toNat<256:=x3.toNat_lt;have h4:x4.toNat<256:=x4.toNat_lt;have h5:x5.toNat<256:=x5.toNat_lt;have h6:x6.toNat<256:=x6.toNat_lt;have h7:x7.toNat<256:=x7.toNat_lt
 have hv:((Lib.leNat [x0,x1,x2,x3,x4,x5,x6,x7] : Nat):Int)=(x0.toNat:Int)+(x1.toNat:Int)*256+(x2.toNat:Int)*65536+(x3.toNat:Int)*16777216+(x4.toNat:Int)*4294967296+(x5.toNat:Int)*1099511627776+(x6.toNat:Int)*281474976710656+(x7.toNat:Int)*72057594037927936:=by
  simp only[Lib.leNat]
  push_cast
  omega
 rw[hv];clear hv;have q0:(0:Int)<(n:Int):=by omega
 have p0:0<n:=by omega
 have q1:(1:Int)<(n:Int):=by omega
 have p1:1<n:=by omega
 have q2:(2:Int)<(n:Int):=by omega
 have p2:2<n:=by omega
 have q3:(3:Int)<(n:Int):=by omega
 have p3:3<n:=by omega
 have q4:(4:Int)<(n:Int):=by omega
 have p4:4<n:=by omega
 have q5:(5:Int)<(n:Int):=by omega
 have p5:5<n:=by omega
 have q6:(6:Int)<(n:Int):=by omega
 have p6:6<n:=by omega
 have q7:(7:Int)<(n:Int):=by omega
 have p7:7<n:=by omega
 go_enter Tryz.func121,Tryz.ntmps121;go_wp2
 go_quiet (fail)
 go_wp2;go_ret;refine⟨?_,_,rfl⟩;simp (disch:=omega) only [u64_or8,u64_or16,u64_or24,u64_or32,u64_or40,u64_or48,u64_or56]
 rfl
def ec(bs:List UInt8):List Value:=bs.map fun b => .int .u8 (b.toNat:Int)
theorem b8(bs:List UInt8):(ec bs).length=bs.length:=by simp[ec]
def qw(w:World):Prop :=
 (∀c,c<256->w.cell? ⟨0,c,none⟩=some (.int .u8 (Lib.firstT c))) /\
 (∀i,i<16->w.cell? ⟨1,2*i,none⟩=some (.int .u8 (Lib.accLo i))/\w.cell? ⟨1,2*i+1,none⟩=some (.int .u8 (Lib.accHi i)))
theorem qw.two{w:World}(h:qw w) : 0 < w.heap.size/\1 < w.heap.size:=by
 constructor
 ·have:=h.1 0 (by omega)
  rcases Nat.lt_or_ge 0 w.heap.size with hlt|hge
  ·exact hlt
  ·rw[World.cell?,bL hge]at this;cases this
 ·have:=(h.2 0 (by omega)).1
  rcases Nat.lt_or_ge 1 w.heap.size with hlt|hge
  ·exact hlt
  ·rw[World.cell?,bL hge]at this;cases this
theorem qw.below{w w':World}{B:Nat}(h:qw w)(hB : 0 < B/\1 < B)(hb:Below B w w'):qw w' :=
 ⟨fun c hc=>(hb.cell (p:=⟨0,c,none⟩) hB.1).trans (h.1 c hc),
  fun i hi=>⟨(hb.cell (p:=⟨1,2*i,none⟩) hB.2).trans (h.2 i hi).1,(hb.cell (p:=⟨1,2*i+1,none⟩) hB.2).trans (h.2 i hi).2⟩⟩
theorem ay{B:Nat}{a w:World}(h:Below B a w):∀q,Below B a (w.drewN q)
 |0=>h
 |q+1=>(ay h q).drew
theorem jG{w:World}{B:Nat}{A:Option Addr}{ts:List UInt8}(h:en w B A (ec ts))(h0:0<ts.length) :
 ∃b o,A=some ⟨b,o,none⟩/\b<B/\∀j (hj:j<ts.length),w.cell? ⟨b,o+j,none⟩=some (.int .u8 (ts[j].toNat:Int)):=by
 obtain⟨b,o,e,hb,hc⟩:=h (by intro e;have:=congrArg List.length e;rw[b8,bb]at this;omega)
 refine⟨b,o,e,hb,fun j hj => ?_⟩;have:=hc j (by rw[b8];exact hj)
 simpa [ec]using this
theorem fI{w:World}{B b o:Nat}{ts:List UInt8}(hb:b<B)(hc:∀j (hj:j<ts.length),w.cell? ⟨b,o+j,none⟩=some (.int .u8 (ts[j].toNat:Int))):en w B (some ⟨b,o,none⟩) (ec ts):=fun _ =>
 ⟨b,o,rfl,hb,fun j hj=>by
  rw[b8]at hj;simpa [ec]using hc j hj⟩
theorem fi{w:World}{b o:Nat}{ts:List UInt8}(k:Nat)(hc:∀j (hj:j<ts.length),w.cell? ⟨b,o+j,none⟩=some (.int .u8 (ts[j].toNat:Int))) :
 ∀j (hj:j<(ts.drop k).length),w.cell? ⟨b,o+k+j,none⟩=some (.int .u8 ((ts.drop k)[j].toNat:Int)):=fun j hj=>by
 have:=hc (k+j) (by simp at hj;omega)
 rw[Nat.add_assoc];simpa using this
theorem mW(b o n c:Nat)(ts:List UInt8)(w:World)(h8:8<=ts.length)(hn:ts.length=n)(hm:n<=9223372036854775807)
 (hc:∀j (hj:j<ts.length),w.cell? ⟨b,o+j,none⟩=some (.int .u8 (ts[j].toNat:Int))) :
 Calls Tryz.prog 121 #[.slice (some ⟨b,o,none⟩) n c] w fun e w'=>e=.returned (.int .u64 (Lib.leNat (ts.take 8)))/\∃q,w'=w.drewN q:=by
 match ts,h8,hc,hn with
 |x0::x1::x2::x3::x4::x5::x6::x7::r,h8,hc,hn =>
  have:=Ei b o n c x0 x1 x2 x3 x4 x5 x6 x7 w (by rw[<-hn];exact h8) hm (hc 0 (by simp)) (hc 1 (by simp)) (hc 2 (by simp)) (hc 3 (by simp)) (hc 4 (by simp)) (hc 5 (by simp)) (hc 6 (by simp)) (hc 7 (by simp))
  simpa using this
theorem oX(ts:List UInt8):Lib.leNat (ts.take 8)<18446744073709551616:=by
 have h:=Lib.leNat_lt (ts.take 8);have h2:(ts.take 8).length<=8:=List.length_take_le _ _;have h3:256 ^ (ts.take 8).length<=256 ^ 8:=Nat.pow_le_pow_right (by omega) h2
 have h4:256 ^ 8=18446744073709551616:=by decide
 omega
theorem mX(ts:List UInt8)(h:8<=ts.length):(Lib.leNat (ts.take 8) &&& 9259542123273814144=0)↔∀b∈ts.take 8,b.toNat<128:=by
 have h8:(ts.take 8).length=8:=by rw[aY];omega
 have:=Lib.leNat_mask (ts.take 8);rw[h8,Lib.maskN8]at this;exact this
theorem wv(ts:List UInt8)(a b:Nat)(ha:∀x∈ts.take a,x.toNat<128)(hb:∀x∈(ts.drop a).take b,x.toNat<128):∀x∈ts.take (a+b),x.toNat<128:=by
 rw[List.take_add];intro x hx;rcases bS.1 hx with h|h
 ·exact ha x h
 ·exact hb x h
def yh(w:World)(N:Nat)(ANS:Bool)(gk:Nat)(s0:Value)(wx:World):Prop :=
 Below w.heap.size w wx/\∃(A:Option Addr) (ts:List UInt8),s0=.slice A ts.length ts.length/\en wx w.heap.size A (ec ts)/\Lib.validD ts=ANS/\ts.length<gk/\ts.length<=N
theorem Hw(b o n c:Nat)(us:List UInt8)(wq:World)(h8:8<=us.length)(hn:us.length=n)(hm:n<=9223372036854775807)
 (hc:∀j (hj:j<us.length),wq.cell? ⟨b,o+j,none⟩=some (.int .u8 (us[j].toNat:Int))) :
 ∃A Z:Nat,(∀q,Calls Tryz.prog 121 #[.slice (some ⟨b,o,none⟩) n c] (wq.drewN q) fun e w'=>e=.returned (.int .u64 A)/\∃m,w'=(wq.drewN q).drewN m) /\
  bits .and .u64 (A:Int) 9259542123273814144=(Z:Int)/\(Z=0->∀x∈us.take 8,x.toNat<128) :=
 ⟨_,_,fun q=>mW b o n c us (wq.drewN q) h8 hn hm hc,u64_and_nat _ 9259542123273814144 (oX us) (by omega),(mX us h8).1⟩
theorem CB(b o n c n' c':Nat)(us:List UInt8)(wq:World)(h8:16<=us.length)(hn:us.length=n)(hn':n'+8=n)(hm:n<=9223372036854775807)
 (hc:∀j (hj:j<us.length),wq.cell? ⟨b,o+j,none⟩=some (.int .u8 (us[j].toNat:Int))) :
 ∃A A' O Z:Nat,(∀q,Calls Tryz.prog 121 #[.slice (some ⟨b,o,none⟩) n c] (wq.drewN q) fun e w'=>e=.returned (.int .u64 A)/\∃m,w'=(wq.drewN q).drewN m) /\
  (∀q,Calls Tryz.prog 121 #[.slice (some ⟨b,o+8,none⟩) n' c'] (wq.drewN q) fun e w'=>e=.returned (.int .u64 A')/\∃m,w'=(wq.drewN q).drewN m) /\
  bits .or .u64 (A:Int) (A':Int)=(O:Int)/\O<18446744073709551616/\bits .and .u64 (O:Int) 9259542123273814144=(Z:Int)/\(Z=0->∀x∈us.take 16,x.toNat<128):=by
 have l1:=oX us;have l2:=oX (us.drop 8);have lo:Lib.leNat (us.take 8) ||| Lib.leNat ((us.drop 8).take 8)<18446744073709551616:=Nat.or_lt_two_pow (n:=64) l1 l2
 refine⟨_,_,_,_,fun q=>mW b o n c us (wq.drewN q) (by omega) hn hm hc,fun q=>mW b (o+8) n' c' (us.drop 8) (wq.drewN q) (by simp;omega) (by simp;omega) (by omega) (fi 8 hc),
  u64_or_nat _ _ l1 l2,lo,u64_and_nat _ 9259542123273814144 lo (by omega),fun h0 => ?_⟩
 obtain⟨e1,e2⟩:=(Lib.or_mask _ _ _).1 h0;exact wv us 8 8 ((mX us (by omega)).1 e1) ((mX (us.drop 8) (by simp;omega)).1 e2)
theorem Hv(b o n c n1 c1 n2 c2 n3 c3:Nat)(us:List UInt8)(wq:World)(h8:32<=us.length)(hn:us.length=n)(hn1:n1+8=n)(hn2:n2+16=n)(hn3:n3+24=n)(hm:n<=9223372036854775807)
 (hc:∀j (hj:j<us.length),wq.cell? ⟨b,o+j,none⟩=some (.int .u8 (us[j].toNat:Int))) :
 ∃A0 A1 A2 A3 P1 P2 P3 Z:Nat,(∀q,Calls Tryz.prog 121 #[.slice (some ⟨b,o,none⟩) n c] (wq.drewN q) fun e w'=>e=.returned (.int .u64 A0)/\∃m,w'=(wq.drewN q).drewN m) /\
  (∀q,Calls Tryz.prog 121 #[.slice (some ⟨b,o+8,none⟩) n1 c1] (wq.drewN q) fun e w'=>e=.returned (.int .u64 A1)/\∃m,w'=(wq.drewN q).drewN m) /\
  (∀q,Calls Tryz.prog 121 #[.slice (some ⟨b,o+16,none⟩) n2 c2] (wq.drewN q) fun e w'=>e=.returned (.int .u64 A2)/\∃m,w'=(wq.drewN q).drewN m) /\
  (∀q,Calls Tryz.prog 121 #[.slice (some ⟨b,o+24,none⟩) n3 c3] (wq.drewN q) fun e w'=>e=.returned (.int .u64 A3)/\∃m,w'=(wq.drewN q).drewN m) /\
  bits .or .u64 (A0:Int) (A1:Int)=(P1:Int)/\bits .or .u64 (A2:Int) (A3:Int)=(P2:Int)/\bits .or .u64 (P1:Int) (P2:Int)=(P3:Int) /\
  bits .and .u64 (P3:Int) 9259542123273814144=(Z:Int)/\(Z=0->∀x∈us.take 32,x.toNat<128):=by
 obtain⟨A0,A1,O,Z,k0,k1,ho,lo,_,hz⟩:=CB b o n c n1 c1 us wq (by omega) hn hn1 hm hc
 obtain⟨A2,A3,O',Z',k2,k3,ho',lo',_,hz'⟩:=CB b (o+16) n2 c2 n3 c3 (us.drop 16) wq (by simp;omega) (by simp;omega) (by omega) (by omega) (fi 16 hc)
 have lp:O ||| O'<18446744073709551616:=Nat.or_lt_two_pow (n:=64) lo lo';refine⟨A0,A1,A2,A3,O,O',_,_,k0,k1,k2,fun q=>by simpa [Nat.add_assoc]using k3 q,ho,ho',u64_or_nat _ _ lo lo',u64_and_nat _ 9259542123273814144 lp (by omega),fun h0 => ?_⟩
 obtain⟨e1,e2⟩:=(Lib.or_mask _ _ _).1 h0;have m1:bits .and .u64 (O:Int) 9259542123273814144=((O &&& 9259542123273814144:Nat):Int):=u64_and_nat O 9259542123273814144 lo (by omega)
 have m2:bits .and .u64 (O':Int) 9259542123273814144=((O' &&& 9259542123273814144:Nat):Int):=u64_and_nat O' 9259542123273814144 lo' (by omega)
 rename_i hand hand';rw[hand,e1]at m1;rw[hand',e2]at m2;exact wv us 16 16 (hz (by omega)) (hz' (by omega))
theorem jv{ts:List UInt8}{ANS:Bool}(hv:Lib.validD ts=ANS)(k:Nat)(ha:∀x∈ts.take k,x.toNat<128):Lib.validD (ts.drop k)=ANS:=by
 rw[<-hv];exact(Lib.validD_ascii k ts ha).symm
theorem Ji:∀X:Fin 256,bits .and .u8 ((X.val:Nat):Int) 7=((X.val%8:Nat):Int):=by decide +kernel
theorem eX{w wx:World}{N g n k b o:Nat}{ANS:Bool}{ts:List UInt8}{A:Option Addr}(hb:Below w.heap.size w wx)(hbB:b<w.heap.size)(hn:ts.length=n)
 (hc:∀j (hj:j<ts.length),wx.cell? ⟨b,o+j,none⟩=some (.int .u8 (ts[j].toNat:Int))) (hv:Lib.validD (ts.drop k)=ANS) (hA:k<n->A=some ⟨b,o+k,none⟩) (hg:n<g+k) (hk:k<=n) (hN:n<=N) :
 yh w N ANS g (.slice A (n-k) (n-k)) wx:=by
 have hl:(ts.drop k).length=n-k:=by rw[bq,hn]
 refine⟨hb,A,ts.drop k,by rw[hl],?_,hv,by rw[hl];omega,by rw[hl];omega⟩
 by_cases h:k<n
 ·rw[hA h]
  exact fI hbB (fi k hc)
 ·intro hne
  have:ts.drop k=[]:=aD (by rw[hl];omega)
  rw[this]at hne;exact absurd rfl hne
theorem rZ{w:World}{b o:Nat}{ts:List UInt8}(hc:∀j (hj:j<ts.length),w.cell? ⟨b,o+j,none⟩=some (.int .u8 (ts[j].toNat:Int)))(j:Nat)(hj:j<ts.length) :
 w.cell? ⟨b,o+j,none⟩=some (.int .u8 ((ts.getD j 0).toNat:Int)):=by
 rw[hc j hj,List.getD_eq_getElem?_getD,aw hj];rfl
theorem Ca{ts:List UInt8}(h:0<ts.length):ts.take 1=[ts.getD 0 0]:=by
 match ts,h with
 |a::r,_=>rfl
theorem kF{w wx:World}{N g n b o:Nat}{ANS:Bool}{ts:List UInt8}(hb:Below w.heap.size w wx)(hbB:b<w.heap.size)(hn:ts.length=n)
 (hc:∀j (hj:j<ts.length),wx.cell? ⟨b,o+j,none⟩=some (.int .u8 (ts[j].toNat:Int))) (hv:Lib.validD ts=ANS) (hg:n<g) (hN:n<=N) :
 yh w N ANS g (.slice (some ⟨b,o,none⟩) n n) wx :=
 ⟨hb,_,ts,by rw[hn],fI hbB hc,hv,by omega,by omega⟩
theorem yh.mono{w wx:World}{N N' g g':Nat}{ANS:Bool}{v:Value}(h:yh w N ANS g v wx)(hg:N<g')(hN:N<=N'):yh w N' ANS g' v wx:=by
 obtain⟨hb,A,ts,e,hl,hv,h1,h2⟩:=h;exact⟨hb,A,ts,e,hl,hv,by omega,by omega⟩
theorem yk{r:Int}(h:eA r=true):wJ (dJ r)=ec (bD r):=by
 unfold wJ ec bD;rw[List.map_map]
 apply List.map_congr_left
 intro x hx;obtain⟨h0,h1⟩:=A7 h x hx;simp only[Function.comp];rw[cq h0 h1,Int.toNat_of_nonneg h0]
theorem jx(a b:List UInt8):ec (a++b)=ec a++ec b:=by simp[ec]
theorem uk:∀{l:List Int},l.all eA=true->wJ (jI l)=ec (bg l)
 | [],_=>rfl
 |r::l,h=>by
  rw[List.all_cons,aO]at h;have e1:jI (r::l)=dJ r++jI l:=by simp[jI]
  rw[e1,cZ,o9,jx,yk h.1,uk h.2]
theorem pE{w:World}{B e n:Nat}{v:Value}{xs:List Value}(h:w.ownsRow B e 1 v n xs) :
 ∃A cap,v=.slice A n cap/\n<=cap/\cap<=9223372036854775807/\en w w.heap.size A xs/\(∀g,v.ownBlock=some g->B<=g/\g<w.heap.size):=by
 obtain⟨hl,h |⟨g,cap,cur,rfl,hg,hh,hn,hc,hs,ht⟩⟩:=h
 ·obtain⟨rfl,rfl⟩:=h
  refine⟨none,0,rfl,af _,by omega,fun hne => ?_,fun g hg=>by simp[Value.ownBlock]at hg⟩
  exact absurd (aD (by simpa using hl)) hne
 ·have hlt:g<w.heap.size:=by
   rcases Nat.lt_or_ge g w.heap.size with hlt|hge
   ·exact hlt
   ·rw[bL hge]at hh;cases hh
  refine⟨some ⟨g,0,none⟩,cap,rfl,hn,by unfold maxLen at hc;exact hc,fun _=>⟨g,0,rfl,hlt,fun j hj => ?_⟩,fun g' hg'=>by simp[Value.ownBlock]at hg';omega⟩
  rw[ci,ai w g j cur e (0,0) hh]
  have:cur.toList[j]? = xs[j]?:=by
   rw[<-ht,List.getElem?_take_of_lt (by rw[hl]at hj;exact hj)]
  rw[bi]at this;rw[this,aw hj]
theorem cF{w:World}{B:Nat}{A:Option Addr}{bs:List UInt8}(c:Nat)(h:en w B A (ec bs)):(convert 22 9 (.slice A bs.length c)).run Tryz.prog w=.ok (.string ⟨bs.toArray⟩) w:=by
 rcases bw bs.length with h0|h0
 ·have:bs=[]:=aD h0
  subst this;rw[run_convert_bytes_string w 22 9 5 _ _ c Tryz.underlying22 Tryz.underlying5 Tryz.underlying9];cases A<;>simp[Conv.bytesToString,loadCells]
  all_goals rfl
 ·obtain⟨b,o,rfl,_,hc⟩:=jG h h0
  exact run_convert_bytes_back w 22 9 5 ⟨b,o,none⟩ c bs Tryz.underlying22 Tryz.underlying5 Tryz.underlying9 (fun j hj=>by
   have:=hc j hj;rcases bw j with h|h
   ·subst h;simpa [Addr.add]using this
   ·simp only[Addr.add];rw[am (by omega)];exact this)
theorem xh(r:Int)(h0:0<=r)(h1:r<=127)(w:World):Calls Tryz.prog 149 #[.int .i32 r] w fun e w'=>e=.returned (.slice (some ⟨w.heap.size,0,none⟩) 1 1)/\w.alloc (.cells #[.int .u8 (r)] 5)=w':=by
 go_enter Tryz.func149,Tryz.ntmps149;go_wp2;go_ret;exact⟨rfl,rfl⟩
theorem xg(r:Int)(h0:128<=r)(h1:r<=2047)(w:World):Calls Tryz.prog 149 #[.int .i32 r] w fun e w'=>e=.returned (.slice (some ⟨w.heap.size,0,none⟩) 2 2)/\w.alloc (.cells #[.int .u8 (192+r/64),.int .u8 (128+r%64)] 5)=w':=by
 go_enter Tryz.func149,Tryz.ntmps149;go_wp2;go_ret;exact⟨rfl,rfl⟩
theorem sG(r:Int)(h0:2048<=r)(h1:r<=65535)(w:World):Calls Tryz.prog 149 #[.int .i32 r] w fun e w'=>e=.returned (.slice (some ⟨w.heap.size,0,none⟩) 3 3)/\w.alloc (.cells #[.int .u8 (224+r/4096),.int .u8 (128+r/64%64),.int .u8 (128+r%64)] 5)=w':=by
 go_enter Tryz.func149,Tryz.ntmps149;go_wp2;go_ret;exact⟨rfl,rfl⟩
theorem uJ(r:Int)(h0:65536<=r)(h1:r<=1114111)(w:World):Calls Tryz.prog 149 #[.int .i32 r] w fun e w'=>e=.returned (.slice (some ⟨w.heap.size,0,none⟩) 4 4)/\w.alloc (.cells #[.int .u8 (240+r/262144),.int .u8 (128+r/4096%64),.int .u8 (128+r/64%64),.int .u8 (128+r%64)] 5)=w':=by
 go_enter Tryz.func149,Tryz.ntmps149;go_wp2;go_ret;exact⟨rfl,rfl⟩
theorem gy(r:Int)(hc:eA r=true)(w:World):Calls Tryz.prog 149 #[.int .i32 r] w fun e w'=>e=.returned (.slice (some ⟨w.heap.size,0,none⟩) (bD r).length (bD r).length)/\w.alloc (.cells (ec (bD r)).toArray 5)=w':=by
 rw[<-yk hc,kp];rw[eG]at hc;rcases(show r<=127∨(128<=r/\r<=2047)∨(2048<=r/\r<=65535)∨65536<=r from by omega)with e|e|e|e
 ·have he:dJ r=[r]:=by simp only[dJ];rw[av e]
  rw[he];exact xh r hc.1 e w
 ·have he:dJ r=[192+r/64,128+r%64]:=by simp only[dJ];rw[am (by omega),av (by omega)]
  rw[he];exact xg r e.1 e.2 w
 ·have he:dJ r=[224+r/4096,128+r/64%64,128+r%64]:=by simp only[dJ];rw[am (by omega),am (by omega),av (by omega)]
  rw[he];exact sG r e.1 e.2 w
 ·have he:dJ r=[240+r/262144,128+r/4096%64,128+r/64%64,128+r%64]:=by simp only[dJ];rw[am (by omega),am (by omega),am (by omega)]
  rw[he];exact uJ r e hc.2.1 w
theorem mH{r:Int}{B:Bool}(h:eA r=B)(w:World):Calls Tryz.prog 99 #[.int .i32 r] w fun e w'=>e=.returned (.bool B)/\w'=w :=
 (jo r w).mono fun _ _ ⟨he,hw⟩=>⟨by rw[he,h],hw.symm⟩
def dU(b:Nat):Nat:=if b<128 then 1 else if 192<=b/\b<224 then 2 else if 224<=b/\b<240 then 3 else 4
theorem f9(b:UInt8)(w:World):Calls Tryz.prog 148 #[.int .u8 b.toNat] w fun e w'=>e=.returned (.int .i64 (dU b.toNat))/\w=w':=by
 have hb:=b.toNat_lt;generalize b.toNat=n at hb;rcases(show n<128∨(128<=n/\n<192)∨(192<=n/\n<224)∨(224<=n/\n<240)∨240<=n from by omega)with h|h|h|h|h
 ·have e:dU n=1:=by simp only[dU];rw[av h]
  rw[e];have hz:(n:Int)<128:=by omega
  go_enter Tryz.func148,Tryz.ntmps148;go_wp2;go_ret;exact⟨rfl,rfl⟩
 ·have e:dU n=4:=by simp only[dU];rw[am (by omega),am (by omega),am (by omega)]
  rw[e];obtain⟨h1,h2⟩:=h;have hz:¬(n:Int)<128:=by omega
  have hy:¬(192:Int)<=n:=by omega
  have hy2:¬(224:Int)<=n:=by omega
  go_enter Tryz.func148,Tryz.ntmps148;go_wp2;go_ret;exact⟨rfl,rfl⟩
 ·have e:dU n=2:=by simp only[dU];rw[am (by omega),av (by omega)]
  rw[e];obtain⟨h1,h2⟩:=h;have hz:¬(n:Int)<128:=by omega
  have hy:(192:Int)<=n:=by omega
  have hy2:(n:Int)<224:=by omega
  go_enter Tryz.func148,Tryz.ntmps148;go_wp2;go_ret;exact⟨rfl,rfl⟩
 ·have e:dU n=3:=by simp only[dU];rw[am (by omega),am (by omega),av (by omega)]
  rw[e];obtain⟨h1,h2⟩:=h;have hz:¬(n:Int)<128:=by omega
  have hy:(192:Int)<=n:=by omega
  have hy2:¬(n:Int)<224:=by omega
  have hy3:(224:Int)<=n:=by omega
  have hy4:(n:Int)<240:=by omega
  go_enter Tryz.func148,Tryz.ntmps148;go_wp2;go_ret;exact⟨rfl,rfl⟩
 ·have e:dU n=4:=by simp only[dU];rw[am (by omega),am (by omega),am (by omega)]
  rw[e];have hz:¬(n:Int)<128:=by omega
  have hy:(192:Int)<=n:=by omega
  have hy2:¬(n:Int)<224:=by omega
  have hy3:(224:Int)<=n:=by omega
  have hy4:¬(n:Int)<240:=by omega
  go_enter Tryz.func148,Tryz.ntmps148;go_wp2;go_ret;exact⟨rfl,rfl⟩
end Go.Proofs.YteinegfbpfhflaaGreatDoor
