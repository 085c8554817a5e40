/-
  (*scope).means and elementMeans: whether prefixes mean their URIs, by what is open. Conditions: the scope lies as it is; the texts are not too long. doc.namesMean: whether the prefixes of all elements and attributes mean their URIs. Conditions: the list lies as it is, each node hangs where it may; there are not too many, the texts are not too long.
-/
import Derived.Test.YtlgcigmolfhamaaGreatDoorK14
import Derived.Test.YtlgcigmolfhamaaGreatDoorKDBegin
import Derived.Test.YtlgcigmolfhamaaGreatDoorK16
namespace Go.Proofs.YtlgcigmolfhamaaGreatDoor
open Go.RowKit Go.Maps Go.WideMaps
open Go.RowKit Go.Maps Go.WideMaps
set_option linter.unusedVariables false
set_option maxRecDepth 100000
set_option maxHeartbeats 16000000
def a1Y(S:List Dc)(p u:ByteArray):Bool :=
 bif N4 p a1K then N4 u a3T else match a0x S p.data.toList with|some z=>u.toList==z.toList|none=>N4 p []&&N4 u []
theorem b4G(B sb mb N x:Nat)(O:Obj)(S:List Dc)(p u:ByteArray)(w:World)(D1:Sc w B sb mb N x O S)(hS:S.length<=1000000000000)(hp:p.size<=2000000) :
 Calls Tryz.prog 210 #[.pointer (some ⟨sb,0,none⟩),.string p,.string u] w fun e w'=>e=.returned (.bool (a1Y S p u))/\Below w.heap.size w w':=by
 obtain⟨v,D,hA⟩:=D1;have hL:=hA.lookup p hp;have c0:=hA.c0;have c1:=hA.c1;unfold a1Y;obtain⟨b1,e1,E1⟩:=tst p a1K;obtain⟨b2,e2,E2⟩:=tst u a3T;obtain⟨b3,e3,E3⟩:=a0z p;obtain⟨b4,e4,E4⟩:=a0z u;rw[e1,e2,e3,e4];clear e1 e2 e3 e4;unfold a1K at E1;unfold a3T at E2;have t1:=E1.out;have t2:=E2.out;obtain⟨t3,t3'⟩:=E3.out;obtain⟨t4,t4'⟩:=E4.out;cases b1 with
 |true =>
  go_enter Tryz.func210,Tryz.ntmps210;go_wp2;go_ret;exact⟨rfl,b8 _ _⟩
 |false =>
  cases hf:a0x S p.data.toList with
  |none =>
   rw[a8a.1 hf]at hL;clear hf hA;cases b3 with
   |true =>
    go_enter Tryz.func210,Tryz.ntmps210;go_wp2;go_ret;exact⟨rfl,b8 _ _⟩
   |false =>
    go_enter Tryz.func210,Tryz.ntmps210;go_wp2;go_ret;exact⟨rfl,b8 _ _⟩
  |some z =>
   obtain⟨k,hk,hc⟩:=a79 hf;have D0:=a84 S p.data.toList;rw[hk]at hL D0;obtain⟨gb,capg,rfl,_,_⟩:=hA.own.form (by omega)
   have ho:=a2F hA.own hc;have D3:(k:Int)<(S.length:Int):=by omega
   have D9:(0:Int)<(k:Int)+1:=by omega
   have D2:k<=1000000000000:=by omega
   clear hf hA hk hc D0;generalize S.length=sl at *;go_enter Tryz.func210,Tryz.ntmps210;go_wp2;go_ret;exact⟨rfl,b8 _ _⟩
def a2t(S:List Dc)(a:At):Bool:=bif N4 a.p []then N4 a.u []else a1Y S a.p a.u
def a2P(S:List Dc)(x:Nd):Bool:=a1Y S x.p x.u&&x.ats.all (a2t S)
theorem a14(B sb mb N y:Nat)(O:Obj)(S:List Dc)(x:Nd)(v:Value)(hs:Sm x)(w:World)(E7:Sc w B sb mb N y O S)(hS:S.length<=1000000000000)(hv:NdV w w.heap.size v x) :
 Calls Tryz.prog 175 #[.pointer (some ⟨sb,0,none⟩),v] w fun e w'=>e=.returned (.bool (a2P S x))/\Below w.heap.size w w':=by
 obtain⟨vd,va,rfl,hd,ha⟩:=hv;have HS:=a8 hs;have HM:Hid (∀w' p u,p.size<=2000000->Below w.heap.size w w'->Calls Tryz.prog 210 #[.pointer (some ⟨sb,0,none⟩),.string p,.string u] w' fun e w''=>e=.returned (.bool (a1Y S p u))/\Below w'.heap.size w' w''):=fun w' p u hp hb=>b4G B sb mb N y O S p u w' (E7.later hb) hS hp;have HA:Hid (a23 w w.heap.size va x.ats):=ha;obtain⟨A1,cap1,rfl,J7,J8,_⟩:=hd;obtain⟨A2,cap2,rfl,J1,J9,_⟩:=ha;obtain⟨R,hR⟩ : ∃R,a2P S x=R:=⟨_,rfl⟩;rw[hR];have HR:Hid ((a1Y S x.p x.u&&x.ats.all (a2t S))=R):=hR;have J2:=hs.na;have J3:=hs.p;obtain⟨na,D2⟩ : ∃n,x.ats.length=n:=⟨_,rfl⟩;have E4:=a8 D2;rw[D2]at J2 J1;rw[D2];have G0:=a8 (fun w'=>HM.out w' x.p x.u J3);generalize a1Y S x.p x.u=B1 at *;generalize x.ds.length=nd at *;clear hR hs E7 D2;go_enter Tryz.func175,Tryz.ntmps175
 go_wp2_with fail
 refine(G0.out _ ((b8 _ _).alloc (c9 _) _)).mono ?_;rintro e w1⟨rfl,E5⟩;have c7:=v8 (j:=7) E5 rfl;have G1:=E8 E5;cases B1 with
 |false =>
  have hF:false=R:=by simpa using HR.out
  subst hF;go_wp2;go_ret;exact⟨rfl,G1⟩
 |true =>
  have G4:Hid (x.ats.all (a2t S)=R):=a8 (by simpa using HR.out)
  have G5:=a8 G1;clear HR G0 E5;go_wp2;clear c7
  go_loopw [17] (a9S (a2t S) x.ats w1) (fun i _=>na-(intOf i).toNat)
  case atStart=>exact⟨0,o4 _,rfl,rfl,b8 _ _⟩
  case round =>
   obtain⟨q,hq,rfl,G6,D9⟩:=hrel;have G7:=a8 G6;have D0:=G5.out.trans (D9.mono G5.out.size);rw[E4.out]at hq;clear G6;by_cases E0:q<na
   ·have D1:q<x.ats.length:=by rw[E4.out];exact E0
    obtain⟨b,o,cap',e,_,_,L0,D3⟩:=a23.open (R1.below HA.out D0) (by omega)
    simp only[o5]at e;obtain⟨rfl,_,rfl⟩:=e;obtain⟨d0,d1,d2,d3⟩:=D3 q D1;have J4:=HS.out.ats _ (o0 D1);have J5:(q:Int)<(na:Int):=by omega
    have HF:Hid (a2t S x.ats[q]=false->R=false):=fun h=>by rw[<-G4.out,a53 D1 h]
    have HT:Hid (a2t S x.ats[q]=true->(x.ats.take (q+1)).all (a2t S)=true):=a4F D1 G7.out;have J6:=a8 (fun w'=>HM.out w' x.ats[q].p x.ats[q].u J4.1);have G8:a2t S x.ats[q]=bif N4 x.ats[q].p []then N4 x.ats[q].u []else a1Y S x.ats[q].p x.ats[q].u:=rfl;rw[G8]at HF HT;obtain⟨b1,e1,E1⟩:=a0z x.ats[q].p;obtain⟨b2,e2,E2⟩:=a0z x.ats[q].u;rw[e1,e2]at HF HT;clear G8 e1 e2;generalize a1Y S x.ats[q].p x.ats[q].u=BM at *;generalize x.ats[q].p=P at *;generalize x.ats[q].l=L at *;generalize x.ats[q].u=U at *;generalize x.ats[q].v=V at *;obtain⟨t1,t1'⟩:=E1.out;obtain⟨t2,t2'⟩:=E2.out;clear D3;cases b1 with
    |true =>
     cases b2 with
     |true =>
      go_wp2
      go_roundw
      case rel=>exact⟨q+1,D1,by go_num,HT.out (by simp),D9.alloc D9.size _⟩
      case measure=>simp[intOf];omega
     |false =>
      obtain rfl:=HF.out (by simp)
      go_wp2;go_ret;exact⟨rfl,D0.alloc D0.size _⟩
    |false =>
     go_wp2_with fail
     refine(J6.out _ (D0.alloc D0.size _)).mono ?_;rintro e w3⟨rfl,G9⟩;have E3:=E8 G9;clear G9;cases BM with
     |false =>
      obtain rfl:=HF.out (by simp)
      go_wp2;go_ret;exact⟨rfl,D0.trans (E3.mono D0.size)⟩
     |true =>
      go_wp2
      go_roundw
      case rel=>exact⟨q+1,D1,by go_num,HT.out (by simp),D9.trans (E3.mono D9.size)⟩
      case measure=>simp[intOf];omega
   ·have J5:¬(q:Int)<(na:Int):=by omega
    have E6:=a3r (by rw[E4.out];exact E0) G7.out
    have hT:true=R:=by rw[<-G4.out,E6]
    subst hT;go_wp2;go_ret;exact⟨rfl,D0⟩
def dsA(l:List Nd)(m:Nat):List Dc:=((l[m]?).map (·.ds)).getD []
theorem a66{l:List Nd}{m:Nat}(h:m<l.length):dsA l m=l[m].ds:=by simp[dsA,i5 h]
def stk(l:List Nd)(n:Nat):List Dc:=(T4 l n).flatMap (fun m=>(dsA l m).reverse)
theorem a6h{l:List Nd}{n:Nat}(h:0<=pa l n/\(pa l n).toNat<n):stk l n=(dsA l n).reverse++stk l (pa l n).toNat:=by
 unfold stk;rw[a0q h,List.flatMap_cons]
theorem a96{l:List Nd}{n:Nat}(h:¬(0<=pa l n/\(pa l n).toNat<n)):stk l n=(dsA l n).reverse:=by
 unfold stk;rw[a0N h];simp
def tot(l:List Nd):Nat->Nat
 |0=>0
 |k+1=>tot l k+(dsA l k).length
theorem b1Q{l:List Nd}(hs:∀x∈l,Sm x):∀k,k<=l.length->tot l k<=k*2000000
 |0,_=>c9 _
 |k+1,h=>by
  have h1:=b1Q hs k (by omega)
  have h2:=(hs _ (o0 (show k<l.length by omega))).nd
  rw[tot,a66 (by omega)]
  omega
def a47(l:List Nd)(j:Nat):Bool:=match l[j]? with|some x => !(x.k==1)||a2P (stk l j) x|none=>true
theorem a9q{l:List Nd}{j:Nat}(h:j<l.length):a47 l j=(!(l[j].k==1)||a2P (stk l j) l[j]):=by simp[a47,i5 h]
open Classical in
noncomputable def X3(l:List Nd):Bool:=decide (∀j,j<l.length->a47 l j=true)
def b4f(l:List Nd):Nat->List Dc
 |0 => []
 |k+1=>stk l k
theorem b5V(w:World){O:Obj}(h0:w.heap[0]? = some O)(hp:0<w.heap.size):Sc ((w.alloc (.map #[] 0)).alloc (.cells #[.slice none 0 0,.map (some w.heap.size)] 189)) w.heap.size (w.heap.size+1) w.heap.size 0 0 O []:=by
 have hb:Below (w.alloc (.map #[] 0)).heap.size (w.alloc (.map #[] 0)) ((w.alloc (.map #[] 0)).alloc (.cells #[.slice none 0 0,.map (some w.heap.size)] 189)):=(b8 _ _).alloc (c9 _) _;have hl:=g9 (w.alloc (.map #[] 0)) (.cells #[.slice none 0 0,.map (some w.heap.size)] 189);have hs:(w.alloc (.map #[] 0)).heap.size=w.heap.size+1:=by simp
 rw[hs]at hl;refine⟨.slice none 0 0,.map [],?_,?_,?_,⟨rfl,.inl ⟨rfl,rfl⟩⟩,(World.ownsMap_made _ _ _ _).alloc _,fun s=>rfl,by omega,by simp[Value.ownBlock],by simp[Value.ownBlock],by omega,by omega,by omega,by omega,by simp[Value.ownBlock],?_⟩
 ·rw[d9 _ (w.heap.size+1) 0 _ _ _ hl];rfl
 ·rw[d9 _ (w.heap.size+1) 1 _ _ _ hl];rfl
 ·unfold World.frozen?;rw[hl];simp
 ·exact((((b8 w.heap.size w).alloc (c9 _) _).alloc (by simp) _).block 0 hp).trans h0
def b7H(w:World)(l:List Nd)(O:Obj)(i:Value)(wr:World):Prop :=
 ∃k N:Nat,k<=l.length/\i=.int .i64 k/\Sc wr w.heap.size (w.heap.size+1) w.heap.size N 0 O (b4f l k)/\N+(b4f l k).length<=2*tot l k/\(∀j,j<k->a47 l j=true)/\Below w.heap.size w wr
def b9C(w:World)(l:List Nd)(k p q:Nat)(O:Obj)(i:Value)(wr:World):Prop :=
 ∃m N:Nat,m<k/\i=.int .i64 m/\Sc wr w.heap.size (w.heap.size+1) w.heap.size N q O (stk l m)/\N+(stk l m).length<=2*tot l k/\p∈T4 l m/\Below w.heap.size w wr
theorem b4C(l:List Nd)(v:Value)(w:World)(hv:S3 w w.heap.size v l)(M6:l.length<=100000)(hs:∀x∈l,Sm x)(M1:0<w.heap.size)(hr:pa l 0 = -1)(hh:∀i,1<=i->i<l.length->S4 l i=true) :
 Calls Tryz.prog 125 #[v] w fun e w'=>e=.returned (.bool (X3 l))/\Below w.heap.size w w':=by
 have R9:=@run_makeMap Tryz.prog;have HV:=a8 hv;obtain⟨A,cap,rfl,S0,T7⟩:=hv.slice;obtain⟨R,hR⟩ : ∃R,X3 l=R:=⟨_,rfl⟩;rw[hR];have HR:=a8 hR;have HH:=a8 hh;have P2:=a8 hr;obtain⟨O0,M7⟩ : ∃O,w.heap[0]? = some O:=⟨w.heap[0],r9 M1⟩;obtain⟨n,hn⟩ : ∃n,l.length=n:=⟨_,rfl⟩;have HN:=a8 hn;rw[hn]at M6 S0 ⊢;have P3:=a8 (b5V w M7 M1);have P4:=a8 M7;have P5:=a8 M1;clear M7 M1;clear hR hn hr hh;go_enter Tryz.func125,Tryz.ntmps125;go_wp2
 go_loopw [11] (b7H w l O0) (fun i _=>n-(intOf i).toNat)
 case atStart=>exact⟨0,0,o4 _,rfl,P3.out,by simp[b4f,tot],fun j hj=>by omega,((b8 _ _).alloc (c9 _) _).alloc (by simp) _⟩
 case round =>
  obtain⟨k,N,hk,rfl,P6,J5,P7,hb⟩:=hrel;rw[HN.out]at hk;have M8:=a8 P7;have M2:=a8 P6;have HB:=a8 hb;clear P7 P6 R9 P3;by_cases S1:k<n
  ·have D2:k<l.length:=by rw[HN.out];exact S1
   obtain⟨b,o,cap',e,_,_,G8,P8⟩:=(HV.out.below hb).open (by intro h;rw[h]at D2;simp at D2)
   simp only[o5]at e;obtain⟨rfl,_,rfl⟩:=e;have M3:=a8 (fun wi (E2:Below w.heap.size w wi)=>(HV.out.below E2).open (by intro h;rw[h]at D2;simp at D2))
   obtain⟨vd,va,d0,d1,d2,d3,d4,d5,d6,d7,hd,ha⟩:=(P8 k D2).cells;have S2:Hid (NdV wr w.heap.size (.agg #[.int .i64 l[k].k,.int .i64 l[k].n,.string l[k].p,.string l[k].l,.string l[k].u,.string l[k].t,vd,va]) l[k]):=⟨vd,va,rfl,hd,ha⟩;have M9:Hid (a0P wr w.heap.size vd l[k].ds):=hd;obtain⟨A1,c1,rfl,_⟩:=hd;obtain⟨A2,c2,rfl,_⟩:=ha;have G9:=hs _ (o0 D2);have E5:=Z5 D2;have S5:(k:Int)<(n:Int):=by omega
   have D3:=a8 (a9q D2);have J1:Hid (tot l (k+1)=tot l k+l[k].ds.length):=by rw[Hid,tot,a66 D2]
   have N0:=a8 (a66 D2)
   have P9:Hid (a47 l k=false->R=false):=fun h=>by
    rw[<-HR.out];unfold X3;exact f8 (fun h'=>by rw[h' k D2]at h;cases h)
   have T8:=b1Q hs k (by omega)
   have T9:=b1Q hs (k+1) (by omega)
   have N2:Hid (tot l (k+1)<=200000000000/\tot l k<=200000000000):=⟨by omega,by omega⟩
   obtain⟨V0,V1⟩:=N2.out
   have N3:Hid (∀wi,Below w.heap.size w wi->NdV wi wi.heap.size (.agg #[.int .i64 l[k].k,.int .i64 l[k].n,.string l[k].p,.string l[k].l,.string l[k].u,.string l[k].t,.slice A1 l[k].ds.length c1,.slice A2 l[k].ats.length c2]) l[k]):=fun wi E2=>by
    obtain⟨b',o',cap'',e',_,_,_,E6⟩:=M3.out wi E2;simp only[o5,f5,Addr.mk.injEq]at e';obtain⟨⟨rfl,rfl,_⟩,_,_⟩:=e';obtain⟨vd',va',_,_,_,_,_,_,e6,e7,hd',ha'⟩:=(E6 k D2).cells;have q6:=(E2.cell (p:=⟨b,o+k*8+6,none⟩) G8).trans ((hb.cell (p:=⟨b,o+k*8+6,none⟩) G8).symm.trans d6);have q7:=(E2.cell (p:=⟨b,o+k*8+7,none⟩) G8).trans ((hb.cell (p:=⟨b,o+k*8+7,none⟩) G8).symm.trans d7);rw[q6]at e6;rw[q7]at e7;obtain rfl:=Option.some.inj e6;obtain rfl:=Option.some.inj e7;exact⟨_,_,rfl,R1.mono hd' E2.size,R1.mono ha' E2.size⟩
   have N4:Hid (a0P w w.heap.size (.slice A1 l[k].ds.length c1) l[k].ds):=by
    obtain⟨b',o',cap'',e',_,_,_,E6⟩:=M3.out w (b8 _ _);simp only[o5,f5,Addr.mk.injEq]at e';obtain⟨⟨rfl,rfl,_⟩,_,_⟩:=e';obtain⟨vd',va',_,_,_,_,_,_,e6,e7,hd',ha'⟩:=(E6 k D2).cells;have q6:=(hb.cell (p:=⟨b,o+k*8+6,none⟩) G8).symm.trans d6;rw[q6]at e6;obtain rfl:=Option.some.inj e6;exact hd'
   have N5:Hid (∀m,m<k->∃vd,∀wi,Below w.heap.size w wi->wi.cell? ⟨b,o+m*8+1,none⟩=some (.int .i64 (pa l m))/\wi.cell? ⟨b,o+m*8+6,none⟩=some vd/\a0P wi w.heap.size vd (dsA l m)):=fun m hm=>by
    have J6:m<l.length:=by omega
    obtain⟨b',o',cap'',e',_,_,_,E6⟩:=M3.out w (b8 _ _);simp only[o5,f5,Addr.mk.injEq]at e';obtain⟨⟨rfl,rfl,_⟩,_,_⟩:=e';obtain⟨vd',va',_,e1,_,_,_,_,e6,e7,hd',ha'⟩:=(E6 m J6).cells;rw[<-Z5 J6]at e1;rw[<-a66 J6]at hd';exact⟨vd',fun wi E2=>⟨(E2.cell (p:=⟨b,o+m*8+1,none⟩) G8).trans e1,(E2.cell (p:=⟨b,o+m*8+6,none⟩) G8).trans e6,R1.below hd' E2⟩⟩
   have S6:Hid (∀m,m<k->(dsA l m).length<=2000000/\∀d∈dsA l m,d.p.size<=2000000):=fun m hm=>by
    have J6:m<l.length:=by omega
    rw[a66 J6];have:=hs _ (o0 J6);exact⟨this.nd,fun d hd=>(this.ds d hd).1⟩
   obtain⟨X,hX⟩ : ∃X,l[k]=X:=⟨_,rfl⟩;rw[hX]at d0 d1 d2 d3 d4 d5 d6 d7 G9 D3 J1 N0 N3 N4 E5;clear P8 S2 M9 hX M3;go_wp2;obtain⟨W1,M4⟩ : ∃W1,wr.alloc (Obj.cells #[.int .i64 X.k,.int .i64 X.n,.string X.p,.string X.l,.string X.u,.string X.t,.slice A1 X.ds.length c1,.slice A2 X.ats.length c2] 46)=W1:=⟨_,rfl⟩;have M5:Below wr.heap.size wr W1:=by rw[<-M4];exact(b8 _ _).alloc (c9 _) _
   have G7:W1.heap[wr.heap.size]? = some (Obj.cells #[.int .i64 X.k,.int .i64 X.n,.string X.p,.string X.l,.string X.u,.string X.t,.slice A1 X.ds.length c1,.slice A2 X.ats.length c2] 46):=by rw[<-M4];exact g9 wr _
   have E3:Hid (Sc W1 w.heap.size (w.heap.size+1) w.heap.size N wr.heap.size (Obj.cells #[.int .i64 X.k,.int .i64 X.n,.string X.p,.string X.l,.string X.u,.string X.t,.slice A1 X.ds.length c1,.slice A2 X.ats.length c2] 46) (b4f l k)):=by
    have S7:w.heap.size+1<wr.heap.size:=by obtain⟨v',D',hA'⟩:=M2.out;exact hA'.lt
    exact(M2.out.later M5).aside (by omega) (by omega) (fun v D hA h=>by
     obtain⟨v',D',hA'⟩:=M2.out;have e1:=hA.c0;rw[(hA'.later M5).c0]at e1;obtain rfl:=Option.some.inj e1;have:=(a2E hA'.own h).2;omega) G7
   have G1:Hid (Below w.heap.size w W1):=HB.out.trans (M5.mono HB.out.size);rw[M4];clear M4 M5 G7 d0 d1 d2 d3 d4 d5 d6 d7 M2 HB hb;generalize wr.heap.size=q at *;rcases B9 k with hk0|hk0
   ·have V2:=a8 hk0
    have J7:Hid (X.ds.reverse++[]=stk l k):=by rw[Hid,hk0,a96 (by rw[P2.out];omega),<-hk0,N0.out,A7]
    have J8:X.n = -1:=by rw[<-E5,hk0];exact P2.out
    have J9:Hid (Sc W1 w.heap.size (w.heap.size+1) w.heap.size N q (Obj.cells #[.int .i64 X.k,.int .i64 X.n,.string X.p,.string X.l,.string X.u,.string X.t,.slice A1 X.ds.length c1,.slice A2 X.ats.length c2] 46) []):=by have h:=E3.out;rw[hk0]at h;exact h
    have z1:W1.cell? ⟨q,1,none⟩=some (.int .i64 (-1)):=by rw[d9 W1 q 1 _ _ _ J9.out.held,<-J8];rfl
    have S8:N<=2*tot l k:=by rw[hk0]at J5 ⊢;simpa [b4f]using J5
    have N6:¬((-1:Int)<(k:Int)-1):=by omega
    have R0:=f8 N6;clear J8 E5 J5 hk0;refine wp_loop_rounds 1 ?_;rw[rounds_succ];have J2:=J9.out;have D0:=J2.held;have z0:W1.cell? ⟨q,0,none⟩=some (.int .i64 X.k):=by rw[d9 W1 q 0 _ _ _ D0];rfl
    have z6:W1.cell? ⟨q,6,none⟩=some (.slice A1 X.ds.length c1):=by rw[d9 W1 q 6 _ _ _ D0];rfl
    have L0:=a8 (a8q w.heap.size (w.heap.size+1) w.heap.size N q (Obj.cells #[.int .i64 X.k,.int .i64 X.n,.string X.p,.string X.l,.string X.u,.string X.t,.slice A1 X.ds.length c1,.slice A2 X.ats.length c2] 46) [] X.ds _ W1 J2 G1.out.size (R1.below N4.out G1.out) (by omega) (by first|omega|simp) G9.nd (fun d hd=>(G9.ds d hd).1))
    clear J2 D0
    go_wp2_with fail
    refine L0.out.mono ?_;rintro e w5⟨rfl,D9,L1⟩;have E7:=a8 (G1.out.trans L1);have D0:=D9.held;have N7:q<w5.heap.size:=i3 D0;have y0:w5.cell? ⟨q,0,none⟩=some (.int .i64 X.k):=by rw[d9 w5 q 0 _ _ _ D0];rfl
    have y1:w5.cell? ⟨q,1,none⟩=some (.int .i64 X.n):=by rw[d9 w5 q 1 _ _ _ D0];rfl
    have y2:w5.cell? ⟨q,2,none⟩=some (.string X.p):=by rw[d9 w5 q 2 _ _ _ D0];rfl
    have y3:w5.cell? ⟨q,3,none⟩=some (.string X.l):=by rw[d9 w5 q 3 _ _ _ D0];rfl
    have y4:w5.cell? ⟨q,4,none⟩=some (.string X.u):=by rw[d9 w5 q 4 _ _ _ D0];rfl
    have y5:w5.cell? ⟨q,5,none⟩=some (.string X.t):=by rw[d9 w5 q 5 _ _ _ D0];rfl
    have y6:w5.cell? ⟨q,6,none⟩=some (.slice A1 X.ds.length c1):=by rw[d9 w5 q 6 _ _ _ D0];rfl
    have y7:w5.cell? ⟨q,7,none⟩=some (.slice A2 X.ats.length c2):=by rw[d9 w5 q 7 _ _ _ D0];rfl
    have E0:=a8 D9;rw[J7.out]at E0
    have E8:Hid (N+X.ds.length+(stk l k).length<=2*tot l (k+1)):=by
     have h1:=J1.out;rw[<-J7.out,h1];simp only[e8,List.length_reverse]
     show _<=_
     simp only[t7];omega
    have G0:Hid (∀w6,Below w5.heap.size w5 w6->a47 l k=true->b7H w l O0 (.int .i64 ((k+1:Nat):Int)) w6):=fun w6 E4 he=>by
     have G4:=E7.out.trans (E4.mono E7.out.size);exact⟨k+1,N+X.ds.length,D2,rfl,(E0.out.later E4).aside (by omega) (by omega) (fun v D hA h=>by have:=(a2E hA.own h).1;omega) ((G4.block 0 P5.out).trans P4.out),E8.out,a2J M8.out he,G4⟩
    have J3:=a8 (a14 w.heap.size (w.heap.size+1) w.heap.size (N+X.ds.length) q (Obj.cells #[.int .i64 X.k,.int .i64 X.n,.string X.p,.string X.l,.string X.u,.string X.t,.slice A1 X.ds.length c1,.slice A2 X.ats.length c2] 46) (stk l k) X _ G9 w5 E0.out (by have:=E8.out;have:=N2.out;omega) (N3.out w5 E7.out))
    clear L1 D9 D0 L0;by_cases G5:X.k=1
    ·have t1:(X.k==1)=true:=by simpa using G5
     rw[t1]at D3;obtain⟨BE,L2⟩ : ∃BE,a2P (stk l k) X=BE:=⟨_,rfl⟩;rw[L2]at D3 J3;have D1:Hid (a47 l k=BE):=a8 (by simpa using D3.out)
     clear G5 L2 D3;cases BE with
     |true =>
      go_wp2_with fail
      refine J3.out.mono ?_;rintro e w6⟨rfl,E4⟩;go_wp2
      go_roundw
      case rel=>exact(show Value.int .i64 ((k+1:Nat):Int)=_ by go_num) ▸ G0.out w6 E4 D1.out
      case measure=>simp[intOf];omega
     |false =>
      obtain rfl:=P9.out D1.out
      go_wp2_with fail
      refine J3.out.mono ?_;rintro e w6⟨rfl,E4⟩;have G4:=E7.out.trans (E4.mono E7.out.size);go_wp2;go_ret;exact⟨rfl,G4⟩
    ·have t1:(X.k==1)=false:=by simpa using G5
     rw[t1]at D3;have D1:Hid (a47 l k=true):=a8 (by simpa using D3.out)
     clear G5 D3;go_wp2
     go_roundw
     case rel=>exact(show Value.int .i64 ((k+1:Nat):Int)=_ by go_num) ▸ G0.out w5 (b8 _ _) D1.out
     case measure=>simp[intOf];omega
   ·have V3:=a09 hk0 (HH.out k hk0 D2)
    have L3:=HH.out k hk0 D2;obtain⟨p,hp⟩ : ∃p:Nat,pa l k=(p:Int):=⟨(pa l k).toNat,by omega⟩
    have J8:X.n=(p:Int):=by rw[<-E5,hp]
    have S9:p<k:=by omega
    have R2:Hid (p∈T4 l (k-1)):=by
     unfold S4 at L3;rw[hp]at L3;simp only[i4,t8,J0]at L3;exact L3.1.2
    have L4:Hid (X.ds.reverse++stk l p=stk l k):=by
     rw[Hid,a6h (n:=k) (by rw[hp];omega),hp,N0.out,J0]
    have T0:Hid (∀m,1<=m->m<k->0<=pa l m/\(pa l m).toNat<m):=fun m h1 h2=>by
     have:=a09 h1 (HH.out m h1 (by omega))
     omega
    have L5:b4f l k=stk l (k-1):=by
     cases k with
     |zero=>omega
     |succ j=>rfl
    rw[L5]at J5 E3;have T1:Hid (b9C w l k p q (Obj.cells #[.int .i64 X.k,.int .i64 X.n,.string X.p,.string X.l,.string X.u,.string X.t,.slice A1 X.ds.length c1,.slice A2 X.ats.length c2] 46) (.int .i64 ((k:Int)-1)) W1):=⟨k-1,N,by omega,by congr 1;omega,E3.out,J5,R2.out,G1.out⟩
    have T2:=a8 J8;clear L3 hp J8 E5 J5 L5 E3 G1 R2
    go_loopw [6] (b9C w l k p q (Obj.cells #[.int .i64 X.k,.int .i64 X.n,.string X.p,.string X.l,.string X.u,.string X.t,.slice A1 X.ds.length c1,.slice A2 X.ats.length c2] 46)) (fun i _=>(intOf i).toNat)
    case atStart=>exact T1.out
    case round =>
     obtain⟨m,N1,hm,rfl,E1,J4,L6,L7⟩:=hrel;have E3:=a8 E1;have G1:=a8 L7;have z1:wr.cell? ⟨q,1,none⟩=some (.int .i64 (p:Int)):=by rw[d9 wr q 1 _ _ _ E1.held,<-T2.out];rfl
     by_cases V4:p<m
     ·obtain⟨vdm,N8⟩:=N5.out m hm
      obtain⟨x1,x6,R3⟩:=N8 wr L7;have L8:=T0.out m (by omega) hm
      have L9:Hid (p∈T4 l (pa l m).toNat):=by
       rw[a0q L8,q8]at L6;rcases L6 with h|h
       ·omega
       ·exact h
      have N9:=S6.out m hm;have R4:=a6h L8;rw[R4]at E1 J4;obtain⟨pm,G6⟩ : ∃pm:Nat,pa l m=(pm:Int):=⟨(pa l m).toNat,by omega⟩
      rw[G6,J0]at E1 J4 L9 L8;rw[G6]at x1;simp only[e8,List.length_reverse]at J4;have R5:=a8 (b8X w.heap.size (w.heap.size+1) w.heap.size N1 q (Obj.cells #[.int .i64 X.k,.int .i64 X.n,.string X.p,.string X.l,.string X.u,.string X.t,.slice A1 X.ds.length c1,.slice A2 X.ats.length c2] 46) (stk l pm) (dsA l m) vdm wr E1 L7.size R3 (by omega) (by omega) N9.1 N9.2)
      have T3:Hid (∀wi,Below w.heap.size w wi->wi.cell? ⟨b,o+m*8+1,none⟩=some (.int .i64 (pm:Int))):=fun wi E2=>by rw[<-G6];exact(N8 wi E2).1
      have V5:(m:Int)<(n:Int):=by omega
      have R6:(p:Int)<(m:Int):=by omega
      have T5:=L8.2;clear E1 N8 G6 R4 L6 N9 L8;obtain⟨Am,cm,rfl,_⟩:=R3
      go_wp2_with fail
      refine R5.out.mono ?_;rintro e w4⟨rfl,M0,R7⟩;have R8:=a8 (L7.trans R7);have x1':=T3.out w4 R8.out;have P0:=a8 M0;clear R7 M0 z1 x1 x6 R5;go_wp2
      go_roundw
      case rel=>exact⟨pm,N1+(dsA l m).length,by omega,rfl,P0.out,by omega,L9.out,R8.out⟩
      case measure=>simp[intOf];omega
     ·have R6:¬(p:Int)<(m:Int):=by omega
      have T6:=f8 R6
      have P1:m=p:=by
       have:=(b3h (l:=l) (a:=m) (p:=p) (by omega)).1 L6
       omega
      subst P1;clear E1 L6 L7;have J2:=E3.out;have D0:=J2.held;have z0:wr.cell? ⟨q,0,none⟩=some (.int .i64 X.k):=by rw[d9 wr q 0 _ _ _ D0];rfl
      have z6:wr.cell? ⟨q,6,none⟩=some (.slice A1 X.ds.length c1):=by rw[d9 wr q 6 _ _ _ D0];rfl
      have L0:=a8 (a8q w.heap.size (w.heap.size+1) w.heap.size N1 q (Obj.cells #[.int .i64 X.k,.int .i64 X.n,.string X.p,.string X.l,.string X.u,.string X.t,.slice A1 X.ds.length c1,.slice A2 X.ats.length c2] 46) (stk l m) X.ds _ wr J2 G1.out.size (R1.below N4.out G1.out) (by omega) (by first|omega|simp) G9.nd (fun d hd=>(G9.ds d hd).1))
      clear J2 D0
      go_wp2_with fail
      refine L0.out.mono ?_;rintro e w5⟨rfl,D9,L1⟩;have E7:=a8 (G1.out.trans L1);have D0:=D9.held;have N7:q<w5.heap.size:=i3 D0;have y0:w5.cell? ⟨q,0,none⟩=some (.int .i64 X.k):=by rw[d9 w5 q 0 _ _ _ D0];rfl
      have y1:w5.cell? ⟨q,1,none⟩=some (.int .i64 X.n):=by rw[d9 w5 q 1 _ _ _ D0];rfl
      have y2:w5.cell? ⟨q,2,none⟩=some (.string X.p):=by rw[d9 w5 q 2 _ _ _ D0];rfl
      have y3:w5.cell? ⟨q,3,none⟩=some (.string X.l):=by rw[d9 w5 q 3 _ _ _ D0];rfl
      have y4:w5.cell? ⟨q,4,none⟩=some (.string X.u):=by rw[d9 w5 q 4 _ _ _ D0];rfl
      have y5:w5.cell? ⟨q,5,none⟩=some (.string X.t):=by rw[d9 w5 q 5 _ _ _ D0];rfl
      have y6:w5.cell? ⟨q,6,none⟩=some (.slice A1 X.ds.length c1):=by rw[d9 w5 q 6 _ _ _ D0];rfl
      have y7:w5.cell? ⟨q,7,none⟩=some (.slice A2 X.ats.length c2):=by rw[d9 w5 q 7 _ _ _ D0];rfl
      have E0:=a8 D9;rw[L4.out]at E0
      have E8:Hid (N1+X.ds.length+(stk l k).length<=2*tot l (k+1)):=by
       have h1:=J1.out;rw[<-L4.out,h1];simp only[e8,List.length_reverse]
       show _<=_
       omega
      have G0:Hid (∀w6,Below w5.heap.size w5 w6->a47 l k=true->b7H w l O0 (.int .i64 ((k+1:Nat):Int)) w6):=fun w6 E4 he=>by
       have G4:=E7.out.trans (E4.mono E7.out.size);exact⟨k+1,N1+X.ds.length,D2,rfl,(E0.out.later E4).aside (by omega) (by omega) (fun v D hA h=>by have:=(a2E hA.own h).1;omega) ((G4.block 0 P5.out).trans P4.out),E8.out,a2J M8.out he,G4⟩
      have J3:=a8 (a14 w.heap.size (w.heap.size+1) w.heap.size (N1+X.ds.length) q (Obj.cells #[.int .i64 X.k,.int .i64 X.n,.string X.p,.string X.l,.string X.u,.string X.t,.slice A1 X.ds.length c1,.slice A2 X.ats.length c2] 46) (stk l k) X _ G9 w5 E0.out (by have:=E8.out;have:=N2.out;omega) (N3.out w5 E7.out))
      clear L1 D9 D0 L0;by_cases G5:X.k=1
      ·have t1:(X.k==1)=true:=by simpa using G5
       rw[t1]at D3;obtain⟨BE,L2⟩ : ∃BE,a2P (stk l k) X=BE:=⟨_,rfl⟩;rw[L2]at D3 J3;have D1:Hid (a47 l k=BE):=a8 (by simpa using D3.out)
       clear G5 L2 D3;cases BE with
       |true =>
        go_wp2_with fail
        refine J3.out.mono ?_;rintro e w6⟨rfl,E4⟩;go_wp2
        go_roundw
        case rel=>exact(show Value.int .i64 ((k+1:Nat):Int)=_ by go_num) ▸ G0.out w6 E4 D1.out
        case measure=>simp[intOf];omega
       |false =>
        obtain rfl:=P9.out D1.out
        go_wp2_with fail
        refine J3.out.mono ?_;rintro e w6⟨rfl,E4⟩;have G4:=E7.out.trans (E4.mono E7.out.size);go_wp2;go_ret;exact⟨rfl,G4⟩
      ·have t1:(X.k==1)=false:=by simpa using G5
       rw[t1]at D3;have D1:Hid (a47 l k=true):=a8 (by simpa using D3.out)
       clear G5 D3;go_wp2
       go_roundw
       case rel=>exact(show Value.int .i64 ((k+1:Nat):Int)=_ by go_num) ▸ G0.out w5 (b8 _ _) D1.out
       case measure=>simp[intOf];omega
  ·have S5:¬(k:Int)<(n:Int):=by omega
   have V6:k=n:=by omega
   have hT:true=R:=by
    rw[<-HR.out];unfold X3;exact(i6 (fun j hj=>M8.out j (by rw[HN.out]at hj;omega))).symm
   subst hT;go_wp2;go_ret;exact⟨rfl,hb⟩
end Go.Proofs.YtlgcigmolfhamaaGreatDoor
