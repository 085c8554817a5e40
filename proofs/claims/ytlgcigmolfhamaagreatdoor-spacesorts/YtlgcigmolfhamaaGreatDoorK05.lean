/-
  The document's own answer for the character that bytes begin with, whatever the bytes. Conditions: the bytes lie where the slice says.
  The document's own answer for all characters of bytes. Conditions: the bytes lie where the slice says; there are not too many.
-/
import Derived.Test.YtlgcigmolfhamaaGreatDoorKFirst2
import Derived.Test.YtlgcigmolfhamaaGreatDoorKFirst4
import Derived.Deep.LoopGhost
namespace Go.Proofs.YtlgcigmolfhamaaGreatDoor
open Go.RowKit
set_option linter.unusedVariables false
set_option maxHeartbeats 2000000
theorem b01(b o n c L:Nat)(x0:UInt8)(w:World)(h0:1<=n)(hn:n<L)(D0:n<=c)(D1:c<=9223372036854775807)(hl:O9 x0.toNat=L)
 (c0:w.cell? ⟨b,o,none⟩=some (.int .u8 (x0.toNat:Int))) :
 Calls Tryz.prog 126 #[.slice (some ⟨b,o,none⟩) n c] w fun e w'=>e=.returned (.tuple #[.int .i32 0,.int .i64 0])/\Below w.heap.size w w':=by
 have l0:=x0.toNat_lt;have D2:((n:Int)==0)=false:=by rw[e9];omega
 have D3:(n:Int)<(L:Int):=by omega
 go_enter Tryz.func126,Tryz.ntmps126
 go_wp2_with (go_at_call 176;refine(a0m _ _).mono ?_;rintro e w' ⟨rfl,rfl⟩;rw[hl])
 go_ret2
 exact⟨rfl,b8 _ _⟩
def a9Q(bs:List UInt8):Prop:=∃r rest,R7 r=true/\bs=C3 r++rest
def b1F(bs:List UInt8)(e:Ending):Prop :=
 (∃r rest,R7 r=true/\bs=C3 r++rest/\e=.returned (.tuple #[.int .i32 r,.int .i64 (C3 r).length]))∨(¬a9Q bs/\e=.returned (.tuple #[.int .i32 0,.int .i64 0]))
theorem b0I(b:Nat):O9 b=1∨O9 b=2∨O9 b=3∨O9 b=4:=by
 unfold O9
 repeat' split
 all_goals simp
theorem W7{r:Int}(hc:R7 r=true) :
 (∃x0,C3 r=[x0]/\O9 x0.toNat=1/\(x0.toNat:Int)=r) ∨
 (∃x0 x1,C3 r=[x0,x1]/\O9 x0.toNat=2/\(((x0.toNat:Int)-192)*64+(x1.toNat:Int)-128)=r) ∨
 (∃x0 x1 x2,C3 r=[x0,x1,x2]/\O9 x0.toNat=3/\((((x0.toNat:Int)-224)*64+(x1.toNat:Int)-128)*64+(x2.toNat:Int)-128)=r) ∨
 (∃x0 x1 x2 x3,C3 r=[x0,x1,x2,x3]/\O9 x0.toNat=4/\(((((x0.toNat:Int)-240)*64+(x1.toNat:Int)-128)*64+(x2.toNat:Int)-128)*64+(x3.toNat:Int)-128)=r):=by
 rw[S6]at hc;rcases(show r<=127∨(128<=r/\r<=2047)∨(2048<=r/\r<=65535)∨65536<=r from by omega)with e|e|e|e
 ·have he:C3 r=[(r).toNat.toUInt8]:=by simp only[C3,N6];rw[g8 e];rfl
  rw[he];refine .inl ⟨_,rfl,?_,?_⟩
  ·rw[G1 (show 0<=r by omega) (show r<256 by omega)]
   unfold O9
   repeat' split
   all_goals omega
  ·rw[G1 (show 0<=r by omega) (show r<256 by omega)];omega
 ·have he:C3 r=[(192+r/64).toNat.toUInt8,(128+r%64).toNat.toUInt8]:=by simp only[C3,N6];rw[f6 (by omega),g8 (by omega)];rfl
  rw[he];refine .inr (.inl ⟨_,_,rfl,?_,?_⟩)
  ·rw[G1 (show 0<=192+r/64 by omega) (show 192+r/64<256 by omega)]
   unfold O9
   repeat' split
   all_goals omega
  ·rw[G1 (show 0<=192+r/64 by omega) (show 192+r/64<256 by omega),G1 (show 0<=128+r%64 by omega) (show 128+r%64<256 by omega)];omega
 ·have he:C3 r=[(224+r/4096).toNat.toUInt8,(128+r/64%64).toNat.toUInt8,(128+r%64).toNat.toUInt8]:=by simp only[C3,N6];rw[f6 (by omega),f6 (by omega),g8 (by omega)];rfl
  rw[he];refine .inr (.inr (.inl ⟨_,_,_,rfl,?_,?_⟩))
  ·rw[G1 (show 0<=224+r/4096 by omega) (show 224+r/4096<256 by omega)]
   unfold O9
   repeat' split
   all_goals omega
  ·rw[G1 (show 0<=224+r/4096 by omega) (show 224+r/4096<256 by omega),G1 (show 0<=128+r/64%64 by omega) (show 128+r/64%64<256 by omega),G1 (show 0<=128+r%64 by omega) (show 128+r%64<256 by omega)];omega
 ·have he:C3 r=[(240+r/262144).toNat.toUInt8,(128+r/4096%64).toNat.toUInt8,(128+r/64%64).toNat.toUInt8,(128+r%64).toNat.toUInt8]:=by simp only[C3,N6];rw[f6 (by omega),f6 (by omega),f6 (by omega)];rfl
  rw[he];refine .inr (.inr (.inr ⟨_,_,_,_,rfl,?_,?_⟩))
  ·rw[G1 (show 0<=240+r/262144 by omega) (show 240+r/262144<256 by omega)]
   unfold O9
   repeat' split
   all_goals omega
  ·rw[G1 (show 0<=240+r/262144 by omega) (show 240+r/262144<256 by omega),G1 (show 0<=128+r/4096%64 by omega) (show 128+r/4096%64<256 by omega),G1 (show 0<=128+r/64%64 by omega) (show 128+r/64%64<256 by omega),G1 (show 0<=128+r%64 by omega) (show 128+r%64<256 by omega)];omega
theorem a78(b o n c:Nat)(bs:List UInt8)(w:World)(D0:bs.length=n)(h0:0<n)(D2:n<=c)(D3:c<=9223372036854775807)(hb:b<w.heap.size)
 (hc:∀j (hj:j<bs.length),w.cell? ⟨b,o+j,none⟩=some (.int .u8 (bs[j].toNat:Int))) :
 Calls Tryz.prog 126 #[.slice (some ⟨b,o,none⟩) n c] w fun e w'=>b1F bs e/\Below w.heap.size w w':=by
 match bs,D0,hc with
 | [],D0,_=>simp at D0;omega
 |x0::tl,D0,hc =>
  have c0:=hc 0 (by simp)
  rw[Nat.add_zero]at c0;simp only[List.getElem_cons_zero]at c0;by_cases hs:n<O9 x0.toNat
  ·refine(b01 b o n c _ x0 w h0 hs D2 D3 rfl c0).mono fun e w' ⟨he,hw⟩=>⟨.inr ⟨?_,he⟩,hw⟩
   rintro⟨r,rest,hr,e⟩;have D9:=congrArg List.length e;rw[D0,e8]at D9;rcases W7 hr with⟨y0,e1,e2,_⟩|⟨y0,y1,e1,e2,_⟩|⟨y0,y1,y2,e1,e2,_⟩|⟨y0,y1,y2,y3,e1,e2,_⟩ <;>
   ·rw[e1]at e D9
    simp only[i9,r7]at e;rw[<-e.1]at e2;simp at D9;omega
  ·rcases b0I x0.toNat with hl|hl|hl|hl
   ·rw[hl]at hs
    cases D1:R7 (x0.toNat:Int)with
    |false =>
     refine(b2B b o n c x0 w (by omega) D2 D3 hb hl c0 D1).mono fun e w' ⟨he,hw⟩=>⟨.inr ⟨?_,he⟩,hw⟩
     rintro⟨r,rest,hr,e⟩;rcases W7 hr with⟨y0,e1,e2,e3⟩|⟨y0,y1,e1,e2,e3⟩|⟨y0,y1,y2,e1,e2,e3⟩|⟨y0,y1,y2,y3,e1,e2,e3⟩
     ·rw[e1]at e
      simp only[i9,l7,r7]at e;rw[<-e.1]at e3;rw[<-e3,D1]at hr;cases hr
     ·rw[e1]at e
      simp only[i9,l7,r7]at e;rw[<-e.1,hl]at e2;omega
     ·rw[e1]at e
      simp only[i9,l7,r7]at e;rw[<-e.1,hl]at e2;omega
     ·rw[e1]at e
      simp only[i9,l7,r7]at e;rw[<-e.1,hl]at e2;omega
    |true =>
     cases hE:(C3 (x0.toNat:Int) == [x0])with
     |true =>
      rw[x8]at hE;refine(a77 b o n c x0 w (by omega) D2 D3 hb hl c0 D1 true (by rw[hE];simp)).mono fun e w' ⟨he,hw⟩=>⟨.inl ⟨_,tl,D1,by rw[hE];rfl,by rw[he,hE];rfl⟩,hw⟩
     |false =>
      refine(a77 b o n c x0 w (by omega) D2 D3 hb hl c0 D1 false hE).mono fun e w' ⟨he,hw⟩=>⟨.inr ⟨?_,he⟩,hw⟩
      rintro⟨r,rest,hr,e⟩;rcases W7 hr with⟨y0,e1,e2,e3⟩|⟨y0,y1,e1,e2,e3⟩|⟨y0,y1,y2,e1,e2,e3⟩|⟨y0,y1,y2,y3,e1,e2,e3⟩
      ·rw[e1]at e
       simp only[i9,l7,r7]at e;rw[<-e.1]at e3 e1;rw[e3,e1]at hE;simp at hE
      ·rw[e1]at e
       simp only[i9,l7,r7]at e;rw[<-e.1,hl]at e2;omega
      ·rw[e1]at e
       simp only[i9,l7,r7]at e;rw[<-e.1,hl]at e2;omega
      ·rw[e1]at e
       simp only[i9,l7,r7]at e;rw[<-e.1,hl]at e2;omega
   ·rw[hl]at hs
    match tl,D0,hc with
    | [],D0,_=>simp at D0;omega
    |x1::tl,D0,hc =>
     have c1:=hc 1 (by simp)
     simp only[List.getElem_cons_succ,List.getElem_cons_zero]at c1;cases D1:R7 (((x0.toNat:Int)-192)*64+(x1.toNat:Int)-128)with
     |false =>
      refine(b2A b o n c x0 x1 w (by omega) D2 D3 hb hl c0 c1 _ rfl D1).mono fun e w' ⟨he,hw⟩=>⟨.inr ⟨?_,he⟩,hw⟩
      rintro⟨r,rest,hr,e⟩;rcases W7 hr with⟨y0,e1,e2,e3⟩|⟨y0,y1,e1,e2,e3⟩|⟨y0,y1,y2,e1,e2,e3⟩|⟨y0,y1,y2,y3,e1,e2,e3⟩
      ·rw[e1]at e
       simp only[i9,l7,r7]at e;rw[<-e.1,hl]at e2;omega
      ·rw[e1]at e
       simp only[i9,l7,r7]at e;rw[<-e.1,<-e.2.1]at e3;rw[<-e3,D1]at hr;cases hr
      ·rw[e1]at e
       simp only[i9,l7,r7]at e;rw[<-e.1,hl]at e2;omega
      ·rw[e1]at e
       simp only[i9,l7,r7]at e;rw[<-e.1,hl]at e2;omega
     |true =>
      cases hE:(C3 (((x0.toNat:Int)-192)*64+(x1.toNat:Int)-128) == [x0,x1])with
      |true =>
       rw[x8]at hE;refine(a76 b o n c x0 x1 w (by omega) D2 D3 hb hl c0 c1 _ rfl D1 true (by rw[hE];simp)).mono fun e w' ⟨he,hw⟩=>⟨.inl ⟨_,tl,D1,by rw[hE];rfl,by rw[he,hE];rfl⟩,hw⟩
      |false =>
       refine(a76 b o n c x0 x1 w (by omega) D2 D3 hb hl c0 c1 _ rfl D1 false hE).mono fun e w' ⟨he,hw⟩=>⟨.inr ⟨?_,he⟩,hw⟩
       rintro⟨r,rest,hr,e⟩;rcases W7 hr with⟨y0,e1,e2,e3⟩|⟨y0,y1,e1,e2,e3⟩|⟨y0,y1,y2,e1,e2,e3⟩|⟨y0,y1,y2,y3,e1,e2,e3⟩
       ·rw[e1]at e
        simp only[i9,l7,r7]at e;rw[<-e.1,hl]at e2;omega
       ·rw[e1]at e
        simp only[i9,l7,r7]at e;rw[<-e.1,<-e.2.1]at e3 e1;rw[e3,e1]at hE;simp at hE
       ·rw[e1]at e
        simp only[i9,l7,r7]at e;rw[<-e.1,hl]at e2;omega
       ·rw[e1]at e
        simp only[i9,l7,r7]at e;rw[<-e.1,hl]at e2;omega
   ·rw[hl]at hs
    match tl,D0,hc with
    | [],D0,_=>simp at D0;omega
    | [x1],D0,_=>simp at D0;omega
    |x1::x2::tl,D0,hc =>
     have c1:=hc 1 (by simp)
     simp only[List.getElem_cons_succ,List.getElem_cons_zero]at c1;have c2:=hc 2 (by simp)
     simp only[List.getElem_cons_succ,List.getElem_cons_zero]at c2;cases D1:R7 ((((x0.toNat:Int)-224)*64+(x1.toNat:Int)-128)*64+(x2.toNat:Int)-128)with
     |false =>
      refine(b2z b o n c x0 x1 x2 w (by omega) D2 D3 hb hl c0 c1 c2 _ rfl D1).mono fun e w' ⟨he,hw⟩=>⟨.inr ⟨?_,he⟩,hw⟩
      rintro⟨r,rest,hr,e⟩;rcases W7 hr with⟨y0,e1,e2,e3⟩|⟨y0,y1,e1,e2,e3⟩|⟨y0,y1,y2,e1,e2,e3⟩|⟨y0,y1,y2,y3,e1,e2,e3⟩
      ·rw[e1]at e
       simp only[i9,l7,r7]at e;rw[<-e.1,hl]at e2;omega
      ·rw[e1]at e
       simp only[i9,l7,r7]at e;rw[<-e.1,hl]at e2;omega
      ·rw[e1]at e
       simp only[i9,l7,r7]at e;rw[<-e.1,<-e.2.1,<-e.2.2.1]at e3;rw[<-e3,D1]at hr;cases hr
      ·rw[e1]at e
       simp only[i9,l7,r7]at e;rw[<-e.1,hl]at e2;omega
     |true =>
      cases hE:(C3 ((((x0.toNat:Int)-224)*64+(x1.toNat:Int)-128)*64+(x2.toNat:Int)-128) == [x0,x1,x2])with
      |true =>
       rw[x8]at hE;refine(a75 b o n c x0 x1 x2 w (by omega) D2 D3 hb hl c0 c1 c2 _ rfl D1 true (by rw[hE];simp)).mono fun e w' ⟨he,hw⟩=>⟨.inl ⟨_,tl,D1,by rw[hE];rfl,by rw[he,hE];rfl⟩,hw⟩
      |false =>
       refine(a75 b o n c x0 x1 x2 w (by omega) D2 D3 hb hl c0 c1 c2 _ rfl D1 false hE).mono fun e w' ⟨he,hw⟩=>⟨.inr ⟨?_,he⟩,hw⟩
       rintro⟨r,rest,hr,e⟩;rcases W7 hr with⟨y0,e1,e2,e3⟩|⟨y0,y1,e1,e2,e3⟩|⟨y0,y1,y2,e1,e2,e3⟩|⟨y0,y1,y2,y3,e1,e2,e3⟩
       ·rw[e1]at e
        simp only[i9,l7,r7]at e;rw[<-e.1,hl]at e2;omega
       ·rw[e1]at e
        simp only[i9,l7,r7]at e;rw[<-e.1,hl]at e2;omega
       ·rw[e1]at e
        simp only[i9,l7,r7]at e;rw[<-e.1,<-e.2.1,<-e.2.2.1]at e3 e1;rw[e3,e1]at hE;simp at hE
       ·rw[e1]at e
        simp only[i9,l7,r7]at e;rw[<-e.1,hl]at e2;omega
   ·rw[hl]at hs
    match tl,D0,hc with
    | [],D0,_=>simp at D0;omega
    | [x1],D0,_=>simp at D0;omega
    | [x1,x2],D0,_=>simp at D0;omega
    |x1::x2::x3::tl,D0,hc =>
     have c1:=hc 1 (by simp)
     simp only[List.getElem_cons_succ,List.getElem_cons_zero]at c1;have c2:=hc 2 (by simp)
     simp only[List.getElem_cons_succ,List.getElem_cons_zero]at c2;have c3:=hc 3 (by simp)
     simp only[List.getElem_cons_succ,List.getElem_cons_zero]at c3;cases D1:R7 (((((x0.toNat:Int)-240)*64+(x1.toNat:Int)-128)*64+(x2.toNat:Int)-128)*64+(x3.toNat:Int)-128)with
     |false =>
      refine(b2y b o n c x0 x1 x2 x3 w (by omega) D2 D3 hb hl c0 c1 c2 c3 _ rfl D1).mono fun e w' ⟨he,hw⟩=>⟨.inr ⟨?_,he⟩,hw⟩
      rintro⟨r,rest,hr,e⟩;rcases W7 hr with⟨y0,e1,e2,e3⟩|⟨y0,y1,e1,e2,e3⟩|⟨y0,y1,y2,e1,e2,e3⟩|⟨y0,y1,y2,y3,e1,e2,e3⟩
      ·rw[e1]at e
       simp only[i9,l7,r7]at e;rw[<-e.1,hl]at e2;omega
      ·rw[e1]at e
       simp only[i9,l7,r7]at e;rw[<-e.1,hl]at e2;omega
      ·rw[e1]at e
       simp only[i9,l7,r7]at e;rw[<-e.1,hl]at e2;omega
      ·rw[e1]at e
       simp only[i9,l7,r7]at e;rw[<-e.1,<-e.2.1,<-e.2.2.1,<-e.2.2.2.1]at e3;rw[<-e3,D1]at hr;cases hr
     |true =>
      cases hE:(C3 (((((x0.toNat:Int)-240)*64+(x1.toNat:Int)-128)*64+(x2.toNat:Int)-128)*64+(x3.toNat:Int)-128) == [x0,x1,x2,x3])with
      |true =>
       rw[x8]at hE;refine(a74 b o n c x0 x1 x2 x3 w (by omega) D2 D3 hb hl c0 c1 c2 c3 _ rfl D1 true (by rw[hE];simp)).mono fun e w' ⟨he,hw⟩=>⟨.inl ⟨_,tl,D1,by rw[hE];rfl,by rw[he,hE];rfl⟩,hw⟩
      |false =>
       refine(a74 b o n c x0 x1 x2 x3 w (by omega) D2 D3 hb hl c0 c1 c2 c3 _ rfl D1 false hE).mono fun e w' ⟨he,hw⟩=>⟨.inr ⟨?_,he⟩,hw⟩
       rintro⟨r,rest,hr,e⟩;rcases W7 hr with⟨y0,e1,e2,e3⟩|⟨y0,y1,e1,e2,e3⟩|⟨y0,y1,y2,e1,e2,e3⟩|⟨y0,y1,y2,y3,e1,e2,e3⟩
       ·rw[e1]at e
        simp only[i9,l7,r7]at e;rw[<-e.1,hl]at e2;omega
       ·rw[e1]at e
        simp only[i9,l7,r7]at e;rw[<-e.1,hl]at e2;omega
       ·rw[e1]at e
        simp only[i9,l7,r7]at e;rw[<-e.1,hl]at e2;omega
       ·rw[e1]at e
        simp only[i9,l7,r7]at e;rw[<-e.1,<-e.2.1,<-e.2.2.1,<-e.2.2.2.1]at e3 e1;rw[e3,e1]at hE;simp at hE
theorem b51:(Tryz.prog.info? 21).map (fun i=>(i.zero,i.size,i.bytes))=some (some (.int .i32 0),1,4):=by kernel_rfl
def b7Q(bs:List UInt8)(B:Nat)(e:Ending)(w':World):Prop :=
 (∃l v,l.all R7=true/\bs=y9 l/\e=.returned (.tuple #[v,.bool true])/\w'.ownsRow B 21 1 v l.length (W6 l))∨(Lib.validD bs=false/\e=.returned (.tuple #[.slice none 0 0,.bool false]))
def RC(w:World)(bs:List UInt8)(gk:Nat)(s0 s4:Value)(wx:World):Prop :=
 Below w.heap.size w wx/\∃(A:Option Addr) (cap:Nat) (ts:List UInt8) (dn:List Int),s0=.slice A ts.length cap/\Q3 wx w.heap.size A (P6 ts)/\ts.length<=cap/\cap<=9223372036854775807 /\
  dn.all R7=true/\bs=y9 dn++ts/\wx.ownsRow w.heap.size 21 1 s4 dn.length (W6 dn)/\ts.length<gk
theorem b4u{w w':World}{B e n m:Nat}{v:Value}{xs:List Value}(h:w.ownsRow B e m v n xs)(hb:Below w.heap.size w w'):w'.ownsRow B e m v n xs:=by
 obtain⟨hl,h |⟨g,cap,cur,rfl,hg,hh,hn,hc,hs,ht⟩⟩:=h
 ·exact⟨hl,.inl h⟩
 ·refine⟨hl,.inr ⟨g,cap,cur,rfl,hg,?_,hn,hc,hs,ht⟩⟩
  have D0:g<w.heap.size:=by
   rcases Nat.lt_or_ge g w.heap.size with D0|hge
   ·exact D0
   ·rw[D4 hge]at hh;cases hh
  rw[hb.block g D0];exact hh
theorem a2o(l:List Int):l.length<=(y9 l).length:=by
 induction l with
 |nil=>simp
 |cons r l ih =>
  have:=P7 r;rw[J4,e8,i8];omega
theorem b4x{bs ts:List UInt8}{dn:List Int}(hd:dn.all R7=true)(hb:bs=y9 dn++ts)(hn:¬a9Q ts)(h0:0<ts.length):Lib.validD bs=false:=by
 rw[hb,a3D dn hd];cases hv:Lib.validD ts with
 |false=>rfl
 |true =>
  obtain⟨l,hl,e⟩:=(a1L ts).1 hv
  match l,hl,e with
  | [],_,e=>rw[e]at h0;simp[y9]at h0
  |r::l,hl,e =>
   rw[List.all_cons,i4]at hl;exact absurd ⟨r,y9 l,hl.1,e⟩ hn
theorem b3a{w wr w1:World}{bs ts rest:List UInt8}{dn:List Int}{g cap b o n:Nat}{r:Int}{v v1:Value}{O:Obj}{A:Option Addr}(hb:Below w.heap.size w wr)(E0:b<w.heap.size)(hg:(wr.alloc O).grownBy w1 v.ownBlock)
 (hc:∀j (hj:j<ts.length),wr.cell? ⟨b,o+j,none⟩=some (.int .u8 (ts[j].toNat:Int))) (hd:dn.all R7=true) (E1:bs=y9 dn++ts) (hr:R7 r=true) (D1:ts=C3 r++rest)
 (D2:wr.ownsRow w.heap.size 21 1 v dn.length (W6 dn)) (h1:w1.ownsRow w.heap.size 21 1 v1 (dn.length+1) (W6 dn++[.int .i32 r])) (hk:(C3 r).length=n) (E2:ts.length<=cap) (E4:cap<=9223372036854775807)
 (hA:n<cap->A=some ⟨b,o+n,none⟩) (E5:ts.length<g+1) :
 RC w bs g (.slice A (ts.length-n) (cap-n)) v1 w1:=by
 have D9:Below w.heap.size wr w1:=by
  refine((b8 _ wr).alloc hb.size O).grown hg (by have:=hb.size;simp;omega) ?_
  intro g' hg';exact((a6x D2).choose_spec.choose_spec.2.2.2.2 g' hg').1
 have E3:Below w.heap.size w w1:=hb.trans D9;have hl:ts.length=n+rest.length:=by rw[D1,e8,hk]
 have hp:=P7 r;have D0:ts.drop n=rest:=by rw[D1,<-hk,List.drop_left]
 refine⟨E3,A,cap-n,rest,dn++[r],by rw[hl];simp,?_,by omega,by omega,by rw[List.all_append,hd];simp[hr],by rw[E1,D1,K7];simp[y9],by rw[e8];simpa [W6]using h1,by omega⟩
 intro D3
 have E6:0<rest.length:=by
  rcases B9 rest.length with h|h
  ·rw[j8 h]at D3;exact absurd rfl D3
  ·exact h
 rw[hA (by omega)]
 have:=V9 n hc;rw[D0]at this;exact(Y1 (w:=wr) E0 this).below D9 D3
theorem a8O(A:Option Addr)(c:Nat)(bs:List UInt8)(w:World)(hl:Q3 w w.heap.size A (P6 bs))(hc:bs.length<=c)(J3:c<=9223372036854775807)(hn:bs.length<=2000000) :
 Calls Tryz.prog 81 #[.slice A bs.length c] w fun e w'=>b7Q bs w.heap.size e w'/\Below w.heap.size w w':=by
 obtain⟨i0,hi,G1,G4,G5⟩:=info_parts b51;go_enter Tryz.func81,Tryz.ntmps81;go_wp2
 go_loopg [0,4] (bs.length+1) (RC w bs)
 case atStart=>exact⟨b8 _ _,A,c,bs,[],rfl,hl,hc,J3,rfl,rfl,r5 _ _ _ _,by omega⟩
 case round =>
  obtain⟨hb,A1,cap,ts,dn,rfl,G6,E7,D1,E2,E8,E3,J4⟩:=hrel;clear hl hc;have E5:=a8 E8
  have J7:dn.length<=2000000:=by
   have h1:=congrArg List.length E8;rw[e8]at h1;have:=a2o dn;omega
  have E0:=a8 E2;clear E8 E2;have E4:=hb.size;by_cases h0:0<ts.length
  ·obtain⟨g',rfl⟩ : ∃g',gk=g'+1:=⟨gk-1,by omega⟩
   obtain⟨b,o,rfl,G7,D2⟩:=a2l G6 h0;have HC:=a8 D2;have HF:=a8 (a78 b o ts.length cap ts wr rfl h0 E7 D1 (by omega) D2)
   clear D2 G6
   go_wp2_with fail
   refine HF.out.mono ?_;rintro e w1⟨⟨r,rest,hr,G0,rfl⟩|⟨J5,rfl⟩,E6⟩
   ·obtain⟨K,hK⟩ : ∃K,(C3 r).length=K:=⟨_,rfl⟩
    have J8:1<=K:=by rw[<-hK];exact P7 r
    have J9:K<=ts.length:=by rw[G0,e8,hK];omega
    rw[hK];have HK:=a8 hK;have G8:=a8 G0;clear hK G0 HF;have D0:=b4u E3 E6;have E1:Below w.heap.size w w1:=hb.trans (E6.mono E4);have G9:=E1.size;have J1:∀j (hj:j<ts.length),w1.cell? ⟨b,o+j,none⟩=some (.int .u8 (ts[j].toNat:Int)):=fun j hj=>(E6.cell (p:=⟨b,o+j,none⟩) (by show b<_;omega)).trans (HC.out j hj)
    have J2:=a8 J1;clear J1;have L0:((K:Int)==0)=false:=by rw[e9];omega
    by_cases hq:cap=K
    ·have J6:(K:Int)<=(ts.length:Int):=by omega
     have L1:ts.length=K:=by omega
     go_wp2_with (at_builtin;refine wpList_append_own _ rfl _ _ 122 rfl w.heap.size 21 i0 (.int .i32 0) 1 4 Tryz.underlying122 hi G1 G4 G5 rfl (by decide) _ _ _ rfl (D0.alloc _) ⟨w1.heap.size,0,none⟩ 1 1 [.int .i32 r] rfl rfl ?c1a ?c2a ?c3a ?c4a ?c5a ?_)
     case c1a =>
      intro j u hj
      match j,hj with
      |0,hj=>simp at hj;subst hj;simp[Addr.add]
      |(j+1),hj=>simp at hj
     case c2a=>intro u hu;simp at hu;subst hu;rfl
     case c3a=>unfold maxLen;omega
     case c4a=>omega
     case c5a=>simp;omega
     intro v' w2 D3 D9 _;go_wp2
     go_roundg g'
     case measure=>omega
     case rel =>
      have R:=b3a (A:=some ⟨b,o,none⟩) E1 G7 D9 J2.out E0.out E5.out hr G8.out D0 D3 HK.out E7 D1 (fun h=>by omega) J4
      rw[show ts.length-K=0 from by omega,show cap-K=0 from by omega]at R
      exact R
    ·have J6:(K:Int)<=(ts.length:Int):=by omega
     have L2:¬(cap:Int)=(K:Int):=by omega
     go_wp2_with (at_builtin;refine wpList_append_own _ rfl _ _ 122 rfl w.heap.size 21 i0 (.int .i32 0) 1 4 Tryz.underlying122 hi G1 G4 G5 rfl (by decide) _ _ _ rfl (D0.alloc _) ⟨w1.heap.size,0,none⟩ 1 1 [.int .i32 r] rfl rfl ?c1b ?c2b ?c3b ?c4b ?c5b ?_)
     case c1b =>
      intro j u hj
      match j,hj with
      |0,hj=>simp at hj;subst hj;simp[Addr.add]
      |(j+1),hj=>simp at hj
     case c2b=>intro u hu;simp at hu;subst hu;rfl
     case c3b=>unfold maxLen;omega
     case c4b=>omega
     case c5b=>simp;omega
     intro v' w2 D3 D9 _;go_wp2
     go_roundg g'
     case measure=>omega
     case rel=>exact b3a E1 G7 D9 J2.out E0.out E5.out hr G8.out D0 D3 HK.out E7 D1 (fun _=>rfl) (by omega)
   ·go_wp2
    go_ret2
    exact⟨.inr ⟨b4x E0.out E5.out J5 h0,rfl⟩,hb.trans (E6.mono E4)⟩
  ·have e0:ts=[]:=j8 (by omega)
   subst e0;go_wp2
   go_ret2
   exact⟨.inl ⟨dn,_,E0.out,by rw[E5.out];simp,rfl,E3⟩,hb⟩
end Go.Proofs.YtlgcigmolfhamaaGreatDoor
