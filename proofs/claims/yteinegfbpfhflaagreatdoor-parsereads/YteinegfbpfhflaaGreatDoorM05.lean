/-
  The document's own answer for the character that bytes begin with, whatever the bytes. Conditions: the bytes lie where the slice says.
  The document's own answer for all characters of bytes. Conditions: the bytes lie where the slice says; there are not too many.
-/
import Derived.Test.YteinegfbpfhflaaGreatDoorFirst2
import Derived.Test.YteinegfbpfhflaaGreatDoorFirst4
import Derived.Deep.LoopGhost
namespace Go.Proofs.YteinegfbpfhflaaGreatDoor
open Go.RowKit
set_option linter.unusedVariables false
set_option maxHeartbeats 2000000
theorem vE(b o n c L:Nat)(x0:UInt8)(w:World)(h0:1<=n)(hn:n<L)(hnc:n<=c)(hcm:c<=9223372036854775807)(hl:dU x0.toNat=L)
 (c0:w.cell? ⟨b,o,none⟩=some (.int .u8 (x0.toNat:Int))) :
 Calls Tryz.prog 98 #[.slice (some ⟨b,o,none⟩) n c] w fun e w'=>e=.returned (.tuple #[.int .i32 0,.int .i64 0])/\Below w.heap.size w w':=by
 have l0:=x0.toNat_lt;have hn0:((n:Int)==0)=false:=by rw[ak];omega
 have hn2:(n:Int)<(L:Int):=by omega
 go_enter Tryz.func98,Tryz.ntmps98
 go_wp2_with (go_at_call 148;refine(f9 _ _).mono ?_;rintro e w' ⟨rfl,rfl⟩;rw[hl])
 go_ret2
 exact⟨rfl,ae _ _⟩
def uc(bs:List UInt8):Prop:=∃r rest,eA r=true/\bs=bD r++rest
def wH(bs:List UInt8)(e:Ending):Prop :=
 (∃r rest,eA r=true/\bs=bD r++rest/\e=.returned (.tuple #[.int .i32 r,.int .i64 (bD r).length]))∨(¬uc bs/\e=.returned (.tuple #[.int .i32 0,.int .i64 0]))
theorem ve(b:Nat):dU b=1∨dU b=2∨dU b=3∨dU b=4:=by
 unfold dU
 repeat' split
 all_goals simp
theorem fp{r:Int}(hc:eA r=true) :
 (∃x0,bD r=[x0]/\dU x0.toNat=1/\(x0.toNat:Int)=r) ∨
 (∃x0 x1,bD r=[x0,x1]/\dU x0.toNat=2/\(((x0.toNat:Int)-192)*64+(x1.toNat:Int)-128)=r) ∨
 (∃x0 x1 x2,bD r=[x0,x1,x2]/\dU x0.toNat=3/\((((x0.toNat:Int)-224)*64+(x1.toNat:Int)-128)*64+(x2.toNat:Int)-128)=r) ∨
 (∃x0 x1 x2 x3,bD r=[x0,x1,x2,x3]/\dU x0.toNat=4/\(((((x0.toNat:Int)-240)*64+(x1.toNat:Int)-128)*64+(x2.toNat:Int)-128)*64+(x3.toNat:Int)-128)=r):=by
 rw[eG]at hc;rcases(show r<=127∨(128<=r/\r<=2047)∨(2048<=r/\r<=65535)∨65536<=r from by omega)with e|e|e|e
 ·have he:bD r=[(r).toNat.toUInt8]:=by simp only[bD,dJ];rw[av e];rfl
  rw[he];refine .inl ⟨_,rfl,?_,?_⟩
  ·rw[cq (show 0<=r by omega) (show r<256 by omega)]
   unfold dU
   repeat' split
   all_goals omega
  ·rw[cq (show 0<=r by omega) (show r<256 by omega)];omega
 ·have he:bD r=[(192+r/64).toNat.toUInt8,(128+r%64).toNat.toUInt8]:=by simp only[bD,dJ];rw[am (by omega),av (by omega)];rfl
  rw[he];refine .inr (.inl ⟨_,_,rfl,?_,?_⟩)
  ·rw[cq (show 0<=192+r/64 by omega) (show 192+r/64<256 by omega)]
   unfold dU
   repeat' split
   all_goals omega
  ·rw[cq (show 0<=192+r/64 by omega) (show 192+r/64<256 by omega),cq (show 0<=128+r%64 by omega) (show 128+r%64<256 by omega)];omega
 ·have he:bD r=[(224+r/4096).toNat.toUInt8,(128+r/64%64).toNat.toUInt8,(128+r%64).toNat.toUInt8]:=by simp only[bD,dJ];rw[am (by omega),am (by omega),av (by omega)];rfl
  rw[he];refine .inr (.inr (.inl ⟨_,_,_,rfl,?_,?_⟩))
  ·rw[cq (show 0<=224+r/4096 by omega) (show 224+r/4096<256 by omega)]
   unfold dU
   repeat' split
   all_goals omega
  ·rw[cq (show 0<=224+r/4096 by omega) (show 224+r/4096<256 by omega),cq (show 0<=128+r/64%64 by omega) (show 128+r/64%64<256 by omega),cq (show 0<=128+r%64 by omega) (show 128+r%64<256 by omega)];omega
 ·have he:bD r=[(240+r/262144).toNat.toUInt8,(128+r/4096%64).toNat.toUInt8,(128+r/64%64).toNat.toUInt8,(128+r%64).toNat.toUInt8]:=by simp only[bD,dJ];rw[am (by omega),am (by omega),am (by omega)];rfl
  rw[he];refine .inr (.inr (.inr ⟨_,_,_,_,rfl,?_,?_⟩))
  ·rw[cq (show 0<=240+r/262144 by omega) (show 240+r/262144<256 by omega)]
   unfold dU
   repeat' split
   all_goals omega
  ·rw[cq (show 0<=240+r/262144 by omega) (show 240+r/262144<256 by omega),cq (show 0<=128+r/4096%64 by omega) (show 128+r/4096%64<256 by omega),cq (show 0<=128+r/64%64 by omega) (show 128+r/64%64<256 by omega),cq (show 0<=128+r%64 by omega) (show 128+r%64<256 by omega)];omega
theorem rI(b o n c:Nat)(bs:List UInt8)(w:World)(hbn:bs.length=n)(h0:0<n)(hnc:n<=c)(hcm:c<=9223372036854775807)(hb:b<w.heap.size)
 (hc:∀j (hj:j<bs.length),w.cell? ⟨b,o+j,none⟩=some (.int .u8 (bs[j].toNat:Int))) :
 Calls Tryz.prog 98 #[.slice (some ⟨b,o,none⟩) n c] w fun e w'=>wH bs e/\Below w.heap.size w w':=by
 match bs,hbn,hc with
 | [],hbn,_=>simp at hbn;omega
 |x0::tl,hbn,hc =>
  have c0:=hc 0 (by simp)
  rw[Nat.add_zero]at c0;simp only[List.getElem_cons_zero]at c0;by_cases hs:n<dU x0.toNat
  ·refine(vE b o n c _ x0 w h0 hs hnc hcm rfl c0).mono fun e w' ⟨he,hw⟩=>⟨.inr ⟨?_,he⟩,hw⟩
   rintro⟨r,rest,hr,e⟩;have hlen:=congrArg List.length e;rw[hbn,aj]at hlen;rcases fp hr with⟨y0,e1,e2,_⟩|⟨y0,y1,e1,e2,_⟩|⟨y0,y1,y2,e1,e2,_⟩|⟨y0,y1,y2,y3,e1,e2,_⟩ <;>
   ·rw[e1]at e hlen
    simp only[aA,aV]at e;rw[<-e.1]at e2;simp at hlen;omega
  ·rcases ve x0.toNat with hl|hl|hl|hl
   ·rw[hl]at hs
    cases hch:eA (x0.toNat:Int)with
    |false =>
     refine(xN b o n c x0 w (by omega) hnc hcm hb hl c0 hch).mono fun e w' ⟨he,hw⟩=>⟨.inr ⟨?_,he⟩,hw⟩
     rintro⟨r,rest,hr,e⟩;rcases fp hr with⟨y0,e1,e2,e3⟩|⟨y0,y1,e1,e2,e3⟩|⟨y0,y1,y2,e1,e2,e3⟩|⟨y0,y1,y2,y3,e1,e2,e3⟩
     ·rw[e1]at e
      simp only[aA,aE,aV]at e;rw[<-e.1]at e3;rw[<-e3,hch]at hr;cases hr
     ·rw[e1]at e
      simp only[aA,aE,aV]at e;rw[<-e.1,hl]at e2;omega
     ·rw[e1]at e
      simp only[aA,aE,aV]at e;rw[<-e.1,hl]at e2;omega
     ·rw[e1]at e
      simp only[aA,aE,aV]at e;rw[<-e.1,hl]at e2;omega
    |true =>
     cases hE:(bD (x0.toNat:Int) == [x0])with
     |true =>
      rw[bc]at hE;refine(rH b o n c x0 w (by omega) hnc hcm hb hl c0 hch true (by rw[hE];simp)).mono fun e w' ⟨he,hw⟩=>⟨.inl ⟨_,tl,hch,by rw[hE];rfl,by rw[he,hE];rfl⟩,hw⟩
     |false =>
      refine(rH b o n c x0 w (by omega) hnc hcm hb hl c0 hch false hE).mono fun e w' ⟨he,hw⟩=>⟨.inr ⟨?_,he⟩,hw⟩
      rintro⟨r,rest,hr,e⟩;rcases fp hr with⟨y0,e1,e2,e3⟩|⟨y0,y1,e1,e2,e3⟩|⟨y0,y1,y2,e1,e2,e3⟩|⟨y0,y1,y2,y3,e1,e2,e3⟩
      ·rw[e1]at e
       simp only[aA,aE,aV]at e;rw[<-e.1]at e3 e1;rw[e3,e1]at hE;simp at hE
      ·rw[e1]at e
       simp only[aA,aE,aV]at e;rw[<-e.1,hl]at e2;omega
      ·rw[e1]at e
       simp only[aA,aE,aV]at e;rw[<-e.1,hl]at e2;omega
      ·rw[e1]at e
       simp only[aA,aE,aV]at e;rw[<-e.1,hl]at e2;omega
   ·rw[hl]at hs
    match tl,hbn,hc with
    | [],hbn,_=>simp at hbn;omega
    |x1::tl,hbn,hc =>
     have c1:=hc 1 (by simp)
     simp only[List.getElem_cons_succ,List.getElem_cons_zero]at c1;cases hch:eA (((x0.toNat:Int)-192)*64+(x1.toNat:Int)-128)with
     |false =>
      refine(xM b o n c x0 x1 w (by omega) hnc hcm hb hl c0 c1 _ rfl hch).mono fun e w' ⟨he,hw⟩=>⟨.inr ⟨?_,he⟩,hw⟩
      rintro⟨r,rest,hr,e⟩;rcases fp hr with⟨y0,e1,e2,e3⟩|⟨y0,y1,e1,e2,e3⟩|⟨y0,y1,y2,e1,e2,e3⟩|⟨y0,y1,y2,y3,e1,e2,e3⟩
      ·rw[e1]at e
       simp only[aA,aE,aV]at e;rw[<-e.1,hl]at e2;omega
      ·rw[e1]at e
       simp only[aA,aE,aV]at e;rw[<-e.1,<-e.2.1]at e3;rw[<-e3,hch]at hr;cases hr
      ·rw[e1]at e
       simp only[aA,aE,aV]at e;rw[<-e.1,hl]at e2;omega
      ·rw[e1]at e
       simp only[aA,aE,aV]at e;rw[<-e.1,hl]at e2;omega
     |true =>
      cases hE:(bD (((x0.toNat:Int)-192)*64+(x1.toNat:Int)-128) == [x0,x1])with
      |true =>
       rw[bc]at hE;refine(rG b o n c x0 x1 w (by omega) hnc hcm hb hl c0 c1 _ rfl hch true (by rw[hE];simp)).mono fun e w' ⟨he,hw⟩=>⟨.inl ⟨_,tl,hch,by rw[hE];rfl,by rw[he,hE];rfl⟩,hw⟩
      |false =>
       refine(rG b o n c x0 x1 w (by omega) hnc hcm hb hl c0 c1 _ rfl hch false hE).mono fun e w' ⟨he,hw⟩=>⟨.inr ⟨?_,he⟩,hw⟩
       rintro⟨r,rest,hr,e⟩;rcases fp hr with⟨y0,e1,e2,e3⟩|⟨y0,y1,e1,e2,e3⟩|⟨y0,y1,y2,e1,e2,e3⟩|⟨y0,y1,y2,y3,e1,e2,e3⟩
       ·rw[e1]at e
        simp only[aA,aE,aV]at e;rw[<-e.1,hl]at e2;omega
       ·rw[e1]at e
        simp only[aA,aE,aV]at e;rw[<-e.1,<-e.2.1]at e3 e1;rw[e3,e1]at hE;simp at hE
       ·rw[e1]at e
        simp only[aA,aE,aV]at e;rw[<-e.1,hl]at e2;omega
       ·rw[e1]at e
        simp only[aA,aE,aV]at e;rw[<-e.1,hl]at e2;omega
   ·rw[hl]at hs
    match tl,hbn,hc with
    | [],hbn,_=>simp at hbn;omega
    | [x1],hbn,_=>simp at hbn;omega
    |x1::x2::tl,hbn,hc =>
     have c1:=hc 1 (by simp)
     simp only[List.getElem_cons_succ,List.getElem_cons_zero]at c1;have c2:=hc 2 (by simp)
     simp only[List.getElem_cons_succ,List.getElem_cons_zero]at c2;cases hch:eA ((((x0.toNat:Int)-224)*64+(x1.toNat:Int)-128)*64+(x2.toNat:Int)-128)with
     |false =>
      refine(xL b o n c x0 x1 x2 w (by omega) hnc hcm hb hl c0 c1 c2 _ rfl hch).mono fun e w' ⟨he,hw⟩=>⟨.inr ⟨?_,he⟩,hw⟩
      rintro⟨r,rest,hr,e⟩;rcases fp hr with⟨y0,e1,e2,e3⟩|⟨y0,y1,e1,e2,e3⟩|⟨y0,y1,y2,e1,e2,e3⟩|⟨y0,y1,y2,y3,e1,e2,e3⟩
      ·rw[e1]at e
       simp only[aA,aE,aV]at e;rw[<-e.1,hl]at e2;omega
      ·rw[e1]at e
       simp only[aA,aE,aV]at e;rw[<-e.1,hl]at e2;omega
      ·rw[e1]at e
       simp only[aA,aE,aV]at e;rw[<-e.1,<-e.2.1,<-e.2.2.1]at e3;rw[<-e3,hch]at hr;cases hr
      ·rw[e1]at e
       simp only[aA,aE,aV]at e;rw[<-e.1,hl]at e2;omega
     |true =>
      cases hE:(bD ((((x0.toNat:Int)-224)*64+(x1.toNat:Int)-128)*64+(x2.toNat:Int)-128) == [x0,x1,x2])with
      |true =>
       rw[bc]at hE;refine(rF b o n c x0 x1 x2 w (by omega) hnc hcm hb hl c0 c1 c2 _ rfl hch true (by rw[hE];simp)).mono fun e w' ⟨he,hw⟩=>⟨.inl ⟨_,tl,hch,by rw[hE];rfl,by rw[he,hE];rfl⟩,hw⟩
      |false =>
       refine(rF b o n c x0 x1 x2 w (by omega) hnc hcm hb hl c0 c1 c2 _ rfl hch false hE).mono fun e w' ⟨he,hw⟩=>⟨.inr ⟨?_,he⟩,hw⟩
       rintro⟨r,rest,hr,e⟩;rcases fp hr with⟨y0,e1,e2,e3⟩|⟨y0,y1,e1,e2,e3⟩|⟨y0,y1,y2,e1,e2,e3⟩|⟨y0,y1,y2,y3,e1,e2,e3⟩
       ·rw[e1]at e
        simp only[aA,aE,aV]at e;rw[<-e.1,hl]at e2;omega
       ·rw[e1]at e
        simp only[aA,aE,aV]at e;rw[<-e.1,hl]at e2;omega
       ·rw[e1]at e
        simp only[aA,aE,aV]at e;rw[<-e.1,<-e.2.1,<-e.2.2.1]at e3 e1;rw[e3,e1]at hE;simp at hE
       ·rw[e1]at e
        simp only[aA,aE,aV]at e;rw[<-e.1,hl]at e2;omega
   ·rw[hl]at hs
    match tl,hbn,hc with
    | [],hbn,_=>simp at hbn;omega
    | [x1],hbn,_=>simp at hbn;omega
    | [x1,x2],hbn,_=>simp at hbn;omega
    |x1::x2::x3::tl,hbn,hc =>
     have c1:=hc 1 (by simp)
     simp only[List.getElem_cons_succ,List.getElem_cons_zero]at c1;have c2:=hc 2 (by simp)
     simp only[List.getElem_cons_succ,List.getElem_cons_zero]at c2;have c3:=hc 3 (by simp)
     simp only[List.getElem_cons_succ,List.getElem_cons_zero]at c3;cases hch:eA (((((x0.toNat:Int)-240)*64+(x1.toNat:Int)-128)*64+(x2.toNat:Int)-128)*64+(x3.toNat:Int)-128)with
     |false =>
      refine(xK b o n c x0 x1 x2 x3 w (by omega) hnc hcm hb hl c0 c1 c2 c3 _ rfl hch).mono fun e w' ⟨he,hw⟩=>⟨.inr ⟨?_,he⟩,hw⟩
      rintro⟨r,rest,hr,e⟩;rcases fp hr with⟨y0,e1,e2,e3⟩|⟨y0,y1,e1,e2,e3⟩|⟨y0,y1,y2,e1,e2,e3⟩|⟨y0,y1,y2,y3,e1,e2,e3⟩
      ·rw[e1]at e
       simp only[aA,aE,aV]at e;rw[<-e.1,hl]at e2;omega
      ·rw[e1]at e
       simp only[aA,aE,aV]at e;rw[<-e.1,hl]at e2;omega
      ·rw[e1]at e
       simp only[aA,aE,aV]at e;rw[<-e.1,hl]at e2;omega
      ·rw[e1]at e
       simp only[aA,aE,aV]at e;rw[<-e.1,<-e.2.1,<-e.2.2.1,<-e.2.2.2.1]at e3;rw[<-e3,hch]at hr;cases hr
     |true =>
      cases hE:(bD (((((x0.toNat:Int)-240)*64+(x1.toNat:Int)-128)*64+(x2.toNat:Int)-128)*64+(x3.toNat:Int)-128) == [x0,x1,x2,x3])with
      |true =>
       rw[bc]at hE;refine(rE b o n c x0 x1 x2 x3 w (by omega) hnc hcm hb hl c0 c1 c2 c3 _ rfl hch true (by rw[hE];simp)).mono fun e w' ⟨he,hw⟩=>⟨.inl ⟨_,tl,hch,by rw[hE];rfl,by rw[he,hE];rfl⟩,hw⟩
      |false =>
       refine(rE b o n c x0 x1 x2 x3 w (by omega) hnc hcm hb hl c0 c1 c2 c3 _ rfl hch false hE).mono fun e w' ⟨he,hw⟩=>⟨.inr ⟨?_,he⟩,hw⟩
       rintro⟨r,rest,hr,e⟩;rcases fp hr with⟨y0,e1,e2,e3⟩|⟨y0,y1,e1,e2,e3⟩|⟨y0,y1,y2,e1,e2,e3⟩|⟨y0,y1,y2,y3,e1,e2,e3⟩
       ·rw[e1]at e
        simp only[aA,aE,aV]at e;rw[<-e.1,hl]at e2;omega
       ·rw[e1]at e
        simp only[aA,aE,aV]at e;rw[<-e.1,hl]at e2;omega
       ·rw[e1]at e
        simp only[aA,aE,aV]at e;rw[<-e.1,hl]at e2;omega
       ·rw[e1]at e
        simp only[aA,aE,aV]at e;rw[<-e.1,<-e.2.1,<-e.2.2.1,<-e.2.2.2.1]at e3 e1;rw[e3,e1]at hE;simp at hE
theorem Cp:(Tryz.prog.info? 21).map (fun i=>(i.zero,i.size,i.bytes))=some (some (.int .i32 0),1,4):=by kernel_rfl
def Eb(bs:List UInt8)(B:Nat)(e:Ending)(w':World):Prop :=
 (∃l v,l.all eA=true/\bs=bg l/\e=.returned (.tuple #[v,.bool true])/\w'.ownsRow B 21 1 v l.length (fo l))∨(Lib.validD bs=false/\e=.returned (.tuple #[.slice none 0 0,.bool false]))
def RC(w:World)(bs:List UInt8)(gk:Nat)(s0 s4:Value)(wx:World):Prop :=
 Below w.heap.size w wx/\∃(A:Option Addr) (cap:Nat) (ts:List UInt8) (dn:List Int),s0=.slice A ts.length cap/\en wx w.heap.size A (ec ts)/\ts.length<=cap/\cap<=9223372036854775807 /\
  dn.all eA=true/\bs=bg dn++ts/\wx.ownsRow w.heap.size 21 1 s4 dn.length (fo dn)/\ts.length<gk
theorem zZ{w w':World}{B e n m:Nat}{v:Value}{xs:List Value}(h:w.ownsRow B e m v n xs)(hb:Below w.heap.size w w'):w'.ownsRow B e m v n xs:=by
 obtain⟨hl,h |⟨g,cap,cur,rfl,hg,hh,hn,hc,hs,ht⟩⟩:=h
 ·exact⟨hl,.inl h⟩
 ·refine⟨hl,.inr ⟨g,cap,cur,rfl,hg,?_,hn,hc,hs,ht⟩⟩
  have hlt:g<w.heap.size:=by
   rcases Nat.lt_or_ge g w.heap.size with hlt|hge
   ·exact hlt
   ·rw[bL hge]at hh;cases hh
  rw[hb.block g hlt];exact hh
theorem jJ(l:List Int):l.length<=(bg l).length:=by
 induction l with
 |nil=>simp
 |cons r l ih =>
  have:=dY r;rw[cZ,aj,az];omega
theorem Ae{bs ts:List UInt8}{dn:List Int}(hd:dn.all eA=true)(hb:bs=bg dn++ts)(hn:¬uc ts)(h0:0<ts.length):Lib.validD bs=false:=by
 rw[hb,lm dn hd];cases hv:Lib.validD ts with
 |false=>rfl
 |true =>
  obtain⟨l,hl,e⟩:=(iX ts).1 hv
  match l,hl,e with
  | [],_,e=>rw[e]at h0;simp[bg]at h0
  |r::l,hl,e =>
   rw[List.all_cons,aO]at hl;exact absurd ⟨r,bg l,hl.1,e⟩ hn
theorem yx{w wr w1:World}{bs ts rest:List UInt8}{dn:List Int}{g cap b o n:Nat}{r:Int}{v v1:Value}{O:Obj}{A:Option Addr}(hb:Below w.heap.size w wr)(hbB:b<w.heap.size)(hg:(wr.alloc O).grownBy w1 v.ownBlock)
 (hc:∀j (hj:j<ts.length),wr.cell? ⟨b,o+j,none⟩=some (.int .u8 (ts[j].toNat:Int))) (hd:dn.all eA=true) (hbs:bs=bg dn++ts) (hr:eA r=true) (hts:ts=bD r++rest)
 (hown:wr.ownsRow w.heap.size 21 1 v dn.length (fo dn)) (h1:w1.ownsRow w.heap.size 21 1 v1 (dn.length+1) (fo dn++[.int .i32 r])) (hk:(bD r).length=n) (hcap:ts.length<=cap) (hcm:cap<=9223372036854775807)
 (hA:n<cap->A=some ⟨b,o+n,none⟩) (hgk:ts.length<g+1) :
 RC w bs g (.slice A (ts.length-n) (cap-n)) v1 w1:=by
 have hbr:Below w.heap.size wr w1:=by
  refine((ae _ wr).alloc hb.size O).grown hg (by have:=hb.size;simp;omega) ?_
  intro g' hg';exact((pE hown).choose_spec.choose_spec.2.2.2.2 g' hg').1
 have hbe:Below w.heap.size w w1:=hb.trans hbr;have hl:ts.length=n+rest.length:=by rw[hts,aj,hk]
 have hp:=dY r;have hdrop:ts.drop n=rest:=by rw[hts,<-hk,List.drop_left]
 refine⟨hbe,A,cap-n,rest,dn++[r],by rw[hl];simp,?_,by omega,by omega,by rw[List.all_append,hd];simp[hr],by rw[hbs,hts,de];simp[bg],by rw[aj];simpa [fo]using h1,by omega⟩
 intro hne
 have hrl:0<rest.length:=by
  rcases bw rest.length with h|h
  ·rw[aD h]at hne;exact absurd rfl hne
  ·exact h
 rw[hA (by omega)]
 have:=fi n hc;rw[hdrop]at this;exact(fI (w:=wr) hbB this).below hbr hne
theorem sI(A:Option Addr)(c:Nat)(bs:List UInt8)(w:World)(hl:en w w.heap.size A (ec bs))(hc:bs.length<=c)(hcm:c<=9223372036854775807)(hn:bs.length<=2000000) :
 Calls Tryz.prog 55 #[.slice A bs.length c] w fun e w'=>Eb bs w.heap.size e w'/\Below w.heap.size w w':=by
 obtain⟨i0,hi,hz0,hz1,hz2⟩:=info_parts Cp;go_enter Tryz.func55,Tryz.ntmps55;go_wp2
 go_loopg [0,4] (bs.length+1) (RC w bs)
 case atStart=>exact⟨ae _ _,A,c,bs,[],rfl,hl,hc,hcm,rfl,rfl,aQ _ _ _ _,by omega⟩
 case round =>
  obtain⟨hb,A1,cap,ts,dn,rfl,hlt,htc,hcapm,hall,hbs,hown,hgk⟩:=hrel;clear hl hc;have HBS:=aa hbs
  have hdl:dn.length<=2000000:=by
   have h1:=congrArg List.length hbs;rw[aj]at h1;have:=jJ dn;omega
  have HALL:=aa hall;clear hbs hall;have hbsz:=hb.size;by_cases h0:0<ts.length
  ·obtain⟨g',rfl⟩ : ∃g',gk=g'+1:=⟨gk-1,by omega⟩
   obtain⟨b,o,rfl,hbB,hcell⟩:=jG hlt h0;have HC:=aa hcell;have HF:=aa (rI b o ts.length cap ts wr rfl h0 htc hcapm (by omega) hcell)
   clear hcell hlt
   go_wp2_with fail
   refine HF.out.mono ?_;rintro e w1⟨⟨r,rest,hr,hts,rfl⟩|⟨hnb,rfl⟩,hb1⟩
   ·obtain⟨K,hK⟩ : ∃K,(bD r).length=K:=⟨_,rfl⟩
    have hK1:1<=K:=by rw[<-hK];exact dY r
    have hK2:K<=ts.length:=by rw[hts,aj,hK];omega
    rw[hK];have HK:=aa hK;have HTS:=aa hts;clear hK hts HF;have hown1:=zZ hown hb1;have hb1':Below w.heap.size w w1:=hb.trans (hb1.mono hbsz);have hbsz1:=hb1'.size;have hc1:∀j (hj:j<ts.length),w1.cell? ⟨b,o+j,none⟩=some (.int .u8 (ts[j].toNat:Int)):=fun j hj=>(hb1.cell (p:=⟨b,o+j,none⟩) (by show b<_;omega)).trans (HC.out j hj)
    have HC1:=aa hc1;clear hc1;have hK0:((K:Int)==0)=false:=by rw[ak];omega
    by_cases hq:cap=K
    ·have hcv:(K:Int)<=(ts.length:Int):=by omega
     have hq2:ts.length=K:=by omega
     go_wp2_with (at_builtin;refine wpList_append_own _ rfl _ _ 92 rfl w.heap.size 21 i0 (.int .i32 0) 1 4 Tryz.underlying92 hi hz0 hz1 hz2 rfl (by decide) _ _ _ rfl (hown1.alloc _) ⟨w1.heap.size,0,none⟩ 1 1 [.int .i32 r] rfl rfl ?c1a ?c2a ?c3a ?c4a ?c5a ?_)
     case c1a =>
      intro j u hj
      match j,hj with
      |0,hj=>simp at hj;subst hj;simp[Addr.add]
      |(j+1),hj=>simp at hj
     case c2a=>intro u hu;simp at hu;subst hu;rfl
     case c3a=>unfold maxLen;omega
     case c4a=>omega
     case c5a=>simp;omega
     intro v' w2 hown2 hgrow _;go_wp2
     go_roundg g'
     case measure=>omega
     case rel =>
      have R:=yx (A:=some ⟨b,o,none⟩) hb1' hbB hgrow HC1.out HALL.out HBS.out hr HTS.out hown1 hown2 HK.out htc hcapm (fun h=>by omega) hgk
      rw[show ts.length-K=0 from by omega,show cap-K=0 from by omega]at R
      exact R
    ·have hcv:(K:Int)<=(ts.length:Int):=by omega
     have hq3:¬(cap:Int)=(K:Int):=by omega
     go_wp2_with (at_builtin;refine wpList_append_own _ rfl _ _ 92 rfl w.heap.size 21 i0 (.int .i32 0) 1 4 Tryz.underlying92 hi hz0 hz1 hz2 rfl (by decide) _ _ _ rfl (hown1.alloc _) ⟨w1.heap.size,0,none⟩ 1 1 [.int .i32 r] rfl rfl ?c1b ?c2b ?c3b ?c4b ?c5b ?_)
     case c1b =>
      intro j u hj
      match j,hj with
      |0,hj=>simp at hj;subst hj;simp[Addr.add]
      |(j+1),hj=>simp at hj
     case c2b=>intro u hu;simp at hu;subst hu;rfl
     case c3b=>unfold maxLen;omega
     case c4b=>omega
     case c5b=>simp;omega
     intro v' w2 hown2 hgrow _;go_wp2
     go_roundg g'
     case measure=>omega
     case rel=>exact yx hb1' hbB hgrow HC1.out HALL.out HBS.out hr HTS.out hown1 hown2 HK.out htc hcapm (fun _=>rfl) (by omega)
   ·go_wp2
    go_ret2
    exact⟨.inr ⟨Ae HALL.out HBS.out hnb h0,rfl⟩,hb.trans (hb1.mono hbsz)⟩
  ·have e0:ts=[]:=aD (by omega)
   subst e0;go_wp2
   go_ret2
   exact⟨.inl ⟨dn,_,HALL.out,by rw[HBS.out];simp,rfl,hown⟩,hb⟩
end Go.Proofs.YteinegfbpfhflaaGreatDoor
