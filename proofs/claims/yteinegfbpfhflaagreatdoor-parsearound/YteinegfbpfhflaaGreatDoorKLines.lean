/-
  apostillelaw08.ParseLines. Conditions: the tables lie as they are laid; awake answers as it is to.
-/
import Derived.Test.YteinegfbpfhflaaGreatDoorK56
import Derived.Test.YteinegfbpfhflaaGreatDoorKROne
import Derived.Test.YteinegfbpfhflaaGreatDoorKLimits
namespace Go.Proofs.YteinegfbpfhflaaGreatDoor
open Go.RowKit
set_option linter.unusedVariables false
set_option maxRecDepth 100000
set_option maxHeartbeats 32000000
theorem a73{f:UInt8->List UInt8}:∀{s:List UInt8},(∀c∈s,f c=[c])->s.flatMap f=s
 | [],_=>rfl
 |c::s,h=>by rw[List.flatMap_cons,h c (by simp),a73 (s:=s) (fun d hd=>h d (by simp[hd]))];rfl
theorem b1a(f:UInt8->List UInt8)(F:Int->List Int)(D1:∀c:UInt8,128<=c.toNat->f c=[c])(hF:∀r:Int,128<=r->F r=[r])(D2:∀c:UInt8,c.toNat<128->y9 (F (c.toNat:Int))=f c) :
 ∀{l:List Int},l.all R7=true->(y9 l).flatMap f=y9 (l.flatMap F)
 | [],_=>rfl
 |r::l,h=>by
  simp only[List.all_cons,i4]at h;rw[J4,D8,List.flatMap_cons,K7,b1a f F D1 hF D2 h.2]
  congr 1
  by_cases D0:r<128
  ·have h0:0<=r:=by
    have:=h.1;simp only[R7,t8]at this;omega
   have hc:((r.toNat.toUInt8).toNat:Int)=r:=by simp;omega
   have:=D2 r.toNat.toUInt8 (by omega)
   rw[hc]at this;rw[a3o D0,this];simp
  ·rw[hF r (by omega)]
   have:(C3 r).flatMap f=C3 r:=a73 fun c hc=>D1 c (by
    rcases Nat.lt_or_ge c.toNat 128 with h1|h1
    ·have:=(a63 h.1 hc h1).2;omega
    ·exact h1)
   rw[this];simp[y9]
theorem b2Y(f:UInt8->List UInt8)(F:Int->List Int)(D0:∀c:UInt8,128<=c.toNat->f c=[c])(hF:∀r:Int,128<=r->F r=[r])(D1:∀c:UInt8,c.toNat<128->y9 (F (c.toNat:Int))=f c)
 (hx:∀r,P9 r=true->(F r).all P9=true) {s:List UInt8} (h:txt s):txt (s.flatMap f):=by
 obtain⟨l,h1,h2,rfl⟩:=h
 have h3:(l.flatMap F).all P9=true:=o9.2 fun r hr=>by
  obtain⟨z,hz,hr⟩:=List.mem_flatMap.1 hr;exact o9.1 (hx z (o9.1 h2 z hz)) r hr
 exact⟨l.flatMap F,o9.2 fun r hr=>a3C (o9.1 h3 r hr),h3,b1a f F D0 hF D1 h1⟩
def flB(bo:Bool)(c:UInt8):List UInt8:=if c=10 then(bif bo then[13,10]else[13])else[c]
def flZ(bo:Bool)(r:Int):List Int:=if r=10 then(bif bo then[13,10]else[13])else[r]
def glB(bo:Bool)(c:UInt8):List UInt8:=if c=13 then(bif bo then[]else[10])else[c]
def glZ(bo:Bool)(r:Int):List Int:=if r=13 then(bif bo then[]else[10])else[r]
def lfL(bo:Bool)(s:List UInt8):List UInt8:=s.flatMap (flB bo)
theorem c0t(bo:Bool)(c:UInt8)(h:c.toNat<128):y9 (flZ bo (c.toNat:Int))=flB bo c:=by
 unfold flZ flB;by_cases hc:c=10
 ·subst hc;rw[g8 rfl,g8 (by decide)];cases bo<;>decide
 ·have:¬(c.toNat:Int)=10:=fun e=>hc (F1.1 (by have:(10:UInt8).toNat=10:=rfl;omega))
  rw[f6 hc,f6 this]
  show C3 _++[]=_
  rw[a62 h];rfl
theorem c0n(bo:Bool)(c:UInt8)(h:c.toNat<128):y9 (glZ bo (c.toNat:Int))=glB bo c:=by
 unfold glZ glB;by_cases hc:c=13
 ·subst hc;rw[g8 rfl,g8 (by decide)];cases bo<;>decide
 ·have:¬(c.toNat:Int)=13:=fun e=>hc (F1.1 (by have:(13:UInt8).toNat=13:=rfl;omega))
  rw[f6 hc,f6 this]
  show C3 _++[]=_
  rw[a62 h];rfl
theorem c0e{s:List UInt8}(bo:Bool)(h:txt s):txt (lfL bo s):=b2Y (flB bo) (flZ bo)
 (fun c hc=>f6 fun e=>by subst e;exact absurd hc (by decide)) (fun r hr=>f6 fun e=>by subst e;exact absurd hr (by decide)) (c0t bo)
 (fun r hr=>by
   unfold flZ
   split
   ·cases bo<;>decide
   ·simp[hr]) h
theorem c0m{s:List UInt8}(bo:Bool)(h:txt s):txt (s.flatMap (glB bo)):=b2Y (glB bo) (glZ bo)
 (fun c hc=>f6 fun e=>by subst e;exact absurd hc (by decide)) (fun r hr=>f6 fun e=>by subst e;exact absurd hr (by decide)) (c0n bo)
 (fun r hr=>by
   unfold glZ
   split
   ·cases bo<;>decide
   ·simp[hr]) h
theorem b3l(bo:Bool):∀{s:List UInt8},(13:UInt8)∉s->(lfL bo s).flatMap (glB bo)=s
 | [],_=>rfl
 |c::s,h=>by
  simp only[q8,not_or]at h
  show(flB bo c++lfL bo s).flatMap (glB bo)=_
  rw[D8,b3l bo h.2];unfold flB;by_cases hc:c=10
  ·subst hc;rw[g8 rfl];cases bo<;>rfl
  ·rw[f6 hc]
   show(glB bo c++[])++s=_
   unfold glB;rw[f6 (Ne.symm h.1)];rfl
theorem b8E:∀(s:List UInt8),(lfL false s).head?≠some 10
 | []=>by simp[lfL]
 |c::s=>by
  show(flB false c++lfL false s).head?≠_
  unfold flB;by_cases hc:c=10
  ·rw[g8 hc];simp
  ·rw[f6 hc];simp[hc]
theorem b0P(bo:Bool):∀{s:List UInt8},(13:UInt8)∉s->C4 (lfL bo s)=s
 | [],_=>rfl
 |c::s,h=>by
  simp only[q8,not_or]at h;have ih:=b0P bo h.2
  show C4 (flB bo c++lfL bo s)=_
  unfold flB;by_cases hc:c=10
  ·subst hc
   rw[g8 rfl];cases bo
   ·show C4 (13::lfL false s)=_
    rw[Y5,g8 rfl,f6 (b8E s),ih]
   ·show C4 (13::10::lfL true s)=_
    rw[Y5,g8 rfl,g8 (show(10::lfL true s).head? = some 10 from rfl),Y5,f6 (by decide),ih]
  ·rw[f6 hc]
   show C4 (c::lfL bo s)=_
   rw[Y5,f6 (Ne.symm h.1),ih]
theorem a6K:∀{s:List UInt8},(13:UInt8)∉s->C4 s=s
 | [],_=>rfl
 |c::s,h=>by
  simp only[q8,not_or]at h;rw[Y5,f6 (Ne.symm h.1),a6K h.2]
theorem c0f(bo:Bool){s:List UInt8}(h:(13:UInt8)∉s):X4 (lfL bo s)=X4 s:=by
 have h1:a1q (lfL bo s)=a1q s:=by
  rw[A8,U6,U6];exact⟨fun h2=>by have:=c0m bo h2;rwa [b3l bo h]at this,c0e bo⟩
 unfold X4 a2Q;rw[h1,b0P bo h,a6K h]
theorem b2r(bo:Bool):∀(s:List UInt8),(lfL bo s).length<=2*s.length
 | []=>c9 _
 |c::s=>by
  have:=b2r bo s
  show(flB bo c++lfL bo s).length<=_
  rw[e8,i8];have:(flB bo c).length<=2:=by unfold flB;split;(cases bo<;>decide);simp
  omega
theorem b8D(bo:Bool){s:List UInt8}{k:Nat}(h:k<s.length):lfL bo (s.take (k+1))=lfL bo (s.take k)++flB bo s[k]:=by
 unfold lfL;rw[l8 h,D8,List.flatMap_singleton]
theorem b9l{w:World}{ops:Array Oper}{rest:List Oper}{o:Oper}{a:Act}{Q:Exit->Act->World->Prop}(D1:o.guard=none)(s x:Operand)
 (ho:o.op=.call { callee:=.builtin .append,args:=#[s,x],argTypes:=#[22,22] }) (B:Nat) (l:List UInt8) (v:Value) (hs:a.eval s=v) (D0:Own w B v l) (hB:B<=w.heap.size)
 (hx:a.eval x=.slice (some ⟨w.heap.size,0,none⟩) 2 2) (hn:l.length+2<=1000000000000)
 (h:∀v' w',Own w' B v' (l++[13,10])->Below B w w'->wpList Tryz.prog ops Q rest (a.put o.dst v') w'):wpList Tryz.prog ops Q (o::rest) a (w.alloc (.cells #[.int .u8 13,.int .u8 10] 5)):=by
 have hb:=(b8 w.heap.size w).alloc (c9 _) (.cells #[.int .u8 13,.int .u8 10] 5);refine a4E D1 s x ho B l v hs (D0.later hb) (d8 hB hb.size) ⟨w.heap.size,0,none⟩ 2 2 [13,10] hx rfl (fun j u hu => ?_) hn fun v' w' h2 h3=>h v' w' h2 ((hb.mono hB).trans h3);rw[a18,F5,d9 _ _ j _ _ _ (g9 w _)];exact List.getElem?_toArray.trans hu
def c08(w:World)(bo:Bool)(s:List UInt8)(v i:Value)(wr:World):Prop :=
 ∃k:Nat,k<=s.length/\i=.int .i64 (k:Int)/\Own wr w.heap.size v (lfL bo (s.take k))/\(13:UInt8)∉s.take k/\Below w.heap.size w wr
theorem b4m(A1 A2:Option Addr)(c1 c2:Nat)(w:World):Calls Tryz.prog 14 #[.slice A1 0 c1,.slice A2 0 c2] w fun e w'=>e=.returned (.bool true)/\Below w.heap.size w w':=by
 go_enter Tryz.func14,Tryz.ntmps14;go_wp2
 go_loopw [13] (fun i wx=>i=.int .i64 0/\wx=w) (fun i _=>0)
 case atStart=>exact⟨rfl,rfl⟩
 case round =>
  obtain⟨rfl,rfl⟩:=hrel;go_wp2;go_ret;exact⟨rfl,b8 _ _⟩
theorem b1L{l:List Nd}(h:J6 l=true):l.length<=4000:=by
 unfold J6 at h;exact(of_decide_eq_true h).1
theorem b4Q(HA:b1I)(A:Option Addr)(c:Nat)(bs:List UInt8)(bo:Bool)(w:World)(hB : 8<=w.heap.size)(hW:Wd w)(hl:Q3 w w.heap.size A (P6 bs))(hc:bs.length<=c)(J5:c<=9223372036854775807) :
 Calls Tryz.prog 4 #[.slice A bs.length c,.bool bo] w fun e w'=>e=.returned (.bool true)/\Below w.heap.size w w':=by
 have J6:Hid (∀w1,Below w.heap.size w w1->Calls Tryz.prog 11 #[] w1 fun e w'=>e=.returned (.bool true)/\Below w1.heap.size w1 w'):=fun w1 hb=>HA w1 (d8 hB hb.size) (hW.low hB hb);obtain⟨n,hk⟩ : ∃n,bs.length=n:=⟨_,rfl⟩;by_cases hn:n<=700
 ·have h0:¬(700:Int)<(n:Int):=by omega
  have N1:=f8 h0
  have HP:Hid (∀w1,Below w.heap.size w w1->Calls Tryz.prog 12 #[.slice A n c] w1 fun e w'=>b1G (X4 bs) w1.heap.size e w'/\Below w1.heap.size w1 w'):=fun w1 hb=>by
   rw[<-hk];exact a32 A c bs w1 (d8 hB hb.size) (hW.low hB hb) ((hl.below hb).mono hb.size) hc J5 (by omega)
  have L6:Hid (∀w0 w1 v,(13:UInt8)∉bs->Below w.heap.size w w0->Own w0 w.heap.size v (lfL bo bs)->Below w0.heap.size w0 w1->Calls Tryz.prog 12 #[v] w1 fun e w'=>b1G (X4 bs) w1.heap.size e w'/\Below w1.heap.size w1 w'):=fun w0 w1 v J1 hb ho D2=>by
   have D3:=hb.trans (D2.mono hb.size);rw[<-c0f bo J1];exact a7Q _ v w1 (d8 hB D3.size) (hW.low hB D3) (by have:=b2r bo bs;omega) _ (ho.later D2)
  have L7:Hid (∀l,X4 bs=.inr l->(∀x∈l,Sm x)/\l.length<=4000):=fun l hD=>⟨a4v (by omega) (a2R hD).1,b1L (a2R hD).2.2⟩
  have L8:=a8 hl;have HK:=a8 hk;rw[hk];clear hl hW hB hk hc J5;go_enter Tryz.func4,Tryz.ntmps4
  go_wp2_with fail
  refine(J6.out _ (b8 _ _)).mono ?_;rintro e w1⟨rfl,D2⟩;have J2:=a8 D2;clear D2;go_wp2
  go_loopw [5,21] (c08 w bo bs) (fun _ i _=>n-(intOf i).toNat)
  case atStart=>exact⟨0,o4 _,rfl,Own.nil _ _,by simp,J2.out⟩
  case round =>
   obtain⟨k,hk,rfl,hO,J1,hb⟩:=hrel;rw[HK.out]at hk;have HO:=a8 hO;have J7:=a8 J1;have HB:=a8 hb;have J8:=hb.size
   have L2:(lfL bo (bs.take k)).length+2<=1000000000000:=by
    have:=b2r bo (bs.take k);have:=List.length_take_le k bs;omega
   clear hO J1 hb;by_cases G0:k<n
   ·have G1:k<bs.length:=by rw[HK.out];exact G0
    have N2:(k:Int)<(n:Int):=by omega
    obtain⟨g,o,rfl,hg,L3⟩:=L8.out (by intro e;have:=congrArg List.length e;simp[P6]at this;rw[this]at G1;simp at G1)
    have G4:wr.cell? ⟨g,o+k,none⟩=some (.int .u8 (bs[k].toNat:Int)):=by
     have h:=L3 k (by simpa [P6]using G1)
     rw[HB.out.cell (p:=⟨g,o+k,none⟩) hg,h];simp[P6]
    have HT:=a8 (b8D bo G1)
    have D9:Hid (bs[k]≠13->(13:UInt8)∉bs.take (k+1)):=fun L9=>by
     rw[l8 G1,D6,not_or];exact⟨J7.out,by simpa using Ne.symm L9⟩
    clear L3 hg;obtain⟨y,hy⟩ : ∃y,bs[k]=y:=⟨_,rfl⟩;rw[hy]at G4 HT D9;clear hy;by_cases E4:y=13
    ·subst E4
     go_wp2;go_ret;exact⟨rfl,HB.out⟩
    ·have M0:¬(y.toNat:Int)=13:=fun e=>E4 (F1.1 (by have:(13:UInt8).toNat=13:=rfl;omega))
     have N3:((y.toNat:Int)==13)=false:=by rw[e9];exact M0
     by_cases E5:y=10
     ·subst E5
      cases bo with
      |true =>
       go_wp2_with (at_builtin;refine b9l rfl _ _ rfl w.heap.size (lfL true (bs.take k)) u5 rfl HO.out J8 rfl L2 ?_;intro v3 w3 E0 D0)
       have G5:=a8 E0;have D1:=a8 D0;clear E0 D0;go_wp2
       go_roundw
       case rel=>exact⟨k+1,by rw[HK.out];exact G0,by go_num,by rw[HT.out];exact G5.out,D9.out (by decide),HB.out.trans D1.out⟩
       case measure=>simp[intOf];omega
      |false =>
       go_wp2_with (at_builtin;refine P8 rfl _ _ rfl w.heap.size (lfL false (bs.take k)) u5 rfl HO.out J8 13 _ rfl rfl (by omega) ?_;intro v3 w3 E0 D0)
       have G5:=a8 E0;have D1:=a8 D0;clear E0 D0;go_wp2
       go_roundw
       case rel=>exact⟨k+1,by rw[HK.out];exact G0,by go_num,by rw[HT.out];exact G5.out,D9.out (by decide),HB.out.trans D1.out⟩
       case measure=>simp[intOf];omega
     ·have J9:¬(y.toNat:Int)=10:=fun e=>E5 (F1.1 (by have:(10:UInt8).toNat=10:=rfl;omega))
      have N4:((y.toNat:Int)==10)=false:=by rw[e9];exact J9
      have M1:Hid (lfL bo (bs.take (k+1))=lfL bo (bs.take k)++[y]):=by
       rw[HT.out];unfold flB;rw[f6 E5];exact rfl
      go_wp2_with (at_builtin;refine P8 rfl _ _ rfl w.heap.size (lfL bo (bs.take k)) u5 rfl HO.out J8 y _ rfl rfl (by omega) ?_;intro v3 w3 E0 D0)
      have G5:=a8 E0;have D1:=a8 D0;clear E0 D0;go_wp2
      go_roundw
      case rel=>exact⟨k+1,by rw[HK.out];exact G0,by go_num,by rw[M1.out];exact G5.out,D9.out E4,HB.out.trans D1.out⟩
      case measure=>simp[intOf];omega
   ·have M2:k=n:=by omega
    subst M2;have L4:bs.take k=bs:=by rw[<-HK.out,I1]
    rw[L4]at HO J7;have L0:=a8 (HP.out wr HB.out);clear G0 hk L4 L2
    go_wp2_with fail
    refine L0.out.mono ?_;rintro e w2⟨he,D3⟩;have E7:=a8 (HB.out.trans (D3.mono HB.out.size));have J3:=a8 (L6.out wr w2 u5 J7.out HB.out HO.out D3);clear D3;rcases hD:X4 bs with E|l
    ·rw[hD]at he J3
     have he':e=.returned (.tuple #[.pointer none,.int .i64 E]):=he;subst he';clear he hD
     go_wp2_with fail
     refine J3.out.mono ?_;rintro e w3⟨he,D0⟩;have he':e=.returned (.tuple #[.pointer none,.int .i64 E]):=he;subst he';have D1:=a8 (E7.out.trans (D0.mono E7.out.size));clear he D0
     go_wp2_with fail
     refine(a4U _).mono ?_;rintro e w4⟨A4,c4,rfl,E8⟩;have G6:=a8 (D1.out.trans (E8.mono D1.out.size));clear E8
     go_wp2_with fail
     refine(a4U _).mono ?_;rintro e wz⟨Az,cz,rfl,E6⟩;have G7:=a8 (G6.out.trans (E6.mono G6.out.size));clear E6
     go_wp2_with fail
     refine(b4m _ _ _ _ _).mono ?_;rintro e wy⟨rfl,G8⟩;have L1:=a8 (G7.out.trans (G8.mono G7.out.size));clear G8;go_wp2;go_ret;exact⟨rfl,L1.out⟩
    ·rw[hD]at he J3
     obtain⟨L5,M3⟩:=L7.out l hD;have J4:=a8 L5;obtain⟨d,B',_,rfl,G9⟩:=he;have M4:=a8 G9;clear G9 L5 hD
     go_wp2_with fail
     refine J3.out.mono ?_;rintro e w3⟨⟨d2,B2,_,rfl,E1⟩,D0⟩;have D1:=a8 (E7.out.trans (D0.mono E7.out.size));have M5:=a8 (a0Q.later M4.out D0);have M6:=a8 E1;have M7:=a8 (a4V w3 M5.out (by omega) J4.out)
     clear D0 E1
     go_wp2_with fail
     refine M7.out.mono ?_;rintro e w4⟨v4,rfl,E2,E8⟩;have G6:=a8 (D1.out.trans (E8.mono D1.out.size));have M8:=a8 (E2.at (by omega) J4.out)
     have M9:=a8 (a4V w4 (a0Q.later M6.out E8) (by omega) J4.out)
     clear E8 E2
     go_wp2_with fail
     refine M9.out.mono ?_;rintro e wz⟨vz,rfl,E3,E6⟩;have G7:=a8 (G6.out.trans (E6.mono G6.out.size));have N0:=a8 (b0j l v4 vz wz ((M8.out.below E6).mono E6.size) (E3.at (by omega) J4.out))
     clear E6 E3
     go_wp2_with fail
     refine N0.out.mono ?_;rintro e wy⟨rfl,G8⟩;have L1:=a8 (G7.out.trans (G8.mono G7.out.size));clear G8;go_wp2;go_ret;exact⟨rfl,L1.out⟩
 ·have h0:(700:Int)<(n:Int):=by omega
  rw[hk];clear hl hc J5 hk hn hW hB;go_enter Tryz.func4,Tryz.ntmps4
  go_wp2_with fail
  refine(J6.out _ (b8 _ _)).mono ?_;rintro e w1⟨rfl,D2⟩;have J2:=a8 D2;have L0:=a8 (J6.out w1 D2);clear D2
  go_wp2_with fail
  refine L0.out.mono ?_;rintro e w2⟨rfl,D3⟩;have E7:=a8 (J2.out.trans (D3.mono J2.out.size));clear D3;go_wp2;go_ret;exact⟨rfl,E7.out⟩
end Go.Proofs.YteinegfbpfhflaaGreatDoor
