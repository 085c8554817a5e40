/-
  (*scope).means and elementMeans: whether prefixes mean their URIs, by what is open. Conditions: the scope lies as it is; the texts are not too long. doc.namesMean: whether the prefixes of all elements and attributes mean their URIs. Conditions: the list lies as it is, each node hangs where it may; there are not too many, the texts are not too long.
-/
import Derived.Test.YteinegfbpfhflaaGreatDoorM14
import Derived.Test.YteinegfbpfhflaaGreatDoorDBegin
import Derived.Test.YteinegfbpfhflaaGreatDoorM16
namespace Go.Proofs.YteinegfbpfhflaaGreatDoor
open Go.RowKit Go.Maps Go.WideMaps
open Go.RowKit Go.Maps Go.WideMaps
set_option linter.unusedVariables false
set_option maxRecDepth 100000
set_option maxHeartbeats 16000000
def iH(S:List Dc)(p u:ByteArray):Bool :=
 bif dZ p iA then dZ u mV else match gc S p.data.toList with|some z=>u.toList==z.toList|none=>dZ p []&&dZ u []
theorem Au(B sb mb N x:Nat)(O:Obj)(S:List Dc)(p u:ByteArray)(w:World)(hsc:Sc w B sb mb N x O S)(hS:S.length<=1000000000000)(hp:p.size<=2000000) :
 Calls Tryz.prog 181 #[.pointer (some ⟨sb,0,none⟩),.string p,.string u] w fun e w'=>e=.returned (.bool (iH S p u))/\Below w.heap.size w w':=by
 obtain⟨v,D,hA⟩:=hsc;have hL:=hA.lookup p hp;have c0:=hA.c0;have c1:=hA.c1;unfold iH;obtain⟨b1,e1,E1⟩:=wQ p iA;obtain⟨b2,e2,E2⟩:=wQ u mV;obtain⟨b3,e3,E3⟩:=gv p;obtain⟨b4,e4,E4⟩:=gv u;rw[e1,e2,e3,e4];clear e1 e2 e3 e4;unfold iA at E1;unfold mV at E2;have t1:=E1.out;have t2:=E2.out;obtain⟨t3,t3'⟩:=E3.out;obtain⟨t4,t4'⟩:=E4.out;cases b1 with
 |true =>
  go_enter Tryz.func181,Tryz.ntmps181;go_wp2;go_ret;exact⟨rfl,ae _ _⟩
 |false =>
  cases hf:gc S p.data.toList with
  |none =>
   rw[rK.1 hf]at hL;clear hf hA;cases b3 with
   |true =>
    go_enter Tryz.func181,Tryz.ntmps181;go_wp2;go_ret;exact⟨rfl,ae _ _⟩
   |false =>
    go_enter Tryz.func181,Tryz.ntmps181;go_wp2;go_ret;exact⟨rfl,ae _ _⟩
  |some z =>
   obtain⟨k,hk,hc⟩:=rJ hf;have hle:=ta S p.data.toList;rw[hk]at hL hle;obtain⟨gb,capg,rfl,_,_⟩:=hA.own.form (by omega)
   have ho:=j0 hA.own hc;have hkz:(k:Int)<(S.length:Int):=by omega
   have hkp:(0:Int)<(k:Int)+1:=by omega
   have hkle:k<=1000000000000:=by omega
   clear hf hA hk hc hle;generalize S.length=sl at *;go_enter Tryz.func181,Tryz.ntmps181;go_wp2;go_ret;exact⟨rfl,ae _ _⟩
def js(S:List Dc)(a:At):Bool:=bif dZ a.p []then dZ a.u []else iH S a.p a.u
def jO(S:List Dc)(x:Nd):Bool:=iH S x.p x.u&&x.ats.all (js S)
theorem jl(B sb mb N y:Nat)(O:Obj)(S:List Dc)(x:Nd)(v:Value)(hs:Sm x)(w:World)(hsc:Sc w B sb mb N y O S)(hS:S.length<=1000000000000)(hv:nH w w.heap.size v x) :
 Calls Tryz.prog 147 #[.pointer (some ⟨sb,0,none⟩),v] w fun e w'=>e=.returned (.bool (jO S x))/\Below w.heap.size w w':=by
 obtain⟨vd,va,rfl,hd,ha⟩:=hv;have HS:=aa hs;have HM:Hid (∀w' p u,p.size<=2000000->Below w.heap.size w w'->Calls Tryz.prog 181 #[.pointer (some ⟨sb,0,none⟩),.string p,.string u] w' fun e w''=>e=.returned (.bool (iH S p u))/\Below w'.heap.size w' w''):=fun w' p u hp hb=>Au B sb mb N y O S p u w' (hsc.later hb) hS hp;have HA:Hid (kE w w.heap.size va x.ats):=ha;obtain⟨A1,cap1,rfl,hl1,hm1,_⟩:=hd;obtain⟨A2,cap2,rfl,hl2,hm2,_⟩:=ha;obtain⟨R,hR⟩ : ∃R,jO S x=R:=⟨_,rfl⟩;rw[hR];have HR:Hid ((iH S x.p x.u&&x.ats.all (js S))=R):=hR;have hna:=hs.na;have hxp:=hs.p;obtain⟨na,hnaE⟩ : ∃n,x.ats.length=n:=⟨_,rfl⟩;have HNA:=aa hnaE;rw[hnaE]at hna hl2;rw[hnaE];have HMX:=aa (fun w'=>HM.out w' x.p x.u hxp);generalize iH S x.p x.u=B1 at *;generalize x.ds.length=nd at *;clear hR hs hsc hnaE;go_enter Tryz.func147,Tryz.ntmps147
 go_wp2_with fail
 refine(HMX.out _ ((ae _ _).alloc (af _) _)).mono ?_;rintro e w1⟨rfl,hb1⟩;have c7:=aZ (j:=7) hb1 rfl;have hbw:=bR hb1;cases B1 with
 |false =>
  have hF:false=R:=by simpa using HR.out
  subst hF;go_wp2;go_ret;exact⟨rfl,hbw⟩
 |true =>
  have HR2:Hid (x.ats.all (js S)=R):=aa (by simpa using HR.out)
  have HBW:=aa hbw;clear HR HMX hb1;go_wp2;clear c7
  go_loopw [17] (ue (js S) x.ats w1) (fun i _=>na-(intOf i).toNat)
  case atStart=>exact⟨0,aM _,rfl,rfl,ae _ _⟩
  case round =>
   obtain⟨q,hq,rfl,hal,hbq⟩:=hrel;have HAL:=aa hal;have hbwq:=HBW.out.trans (hbq.mono HBW.out.size);rw[HNA.out]at hq;clear hal;by_cases hltq:q<na
   ·have hltd:q<x.ats.length:=by rw[HNA.out];exact hltq
    obtain⟨b,o,cap',e,_,_,hbB,hcell⟩:=kE.open (em.below HA.out hbwq) (by omega)
    simp only[aK]at e;obtain⟨rfl,_,rfl⟩:=e;obtain⟨d0,d1,d2,d3⟩:=hcell q hltd;have hsd:=HS.out.ats _ (aJ hltd);have hkz:(q:Int)<(na:Int):=by omega
    have HF:Hid (js S x.ats[q]=false->R=false):=fun h=>by rw[<-HR2.out,oS hltd h]
    have HT:Hid (js S x.ats[q]=true->(x.ats.take (q+1)).all (js S)=true):=mM hltd HAL.out;have HMQ:=aa (fun w'=>HM.out w' x.ats[q].p x.ats[q].u hsd.1);have hAM:js S x.ats[q]=bif dZ x.ats[q].p []then dZ x.ats[q].u []else iH S x.ats[q].p x.ats[q].u:=rfl;rw[hAM]at HF HT;obtain⟨b1,e1,E1⟩:=gv x.ats[q].p;obtain⟨b2,e2,E2⟩:=gv x.ats[q].u;rw[e1,e2]at HF HT;clear hAM e1 e2;generalize iH S x.ats[q].p x.ats[q].u=BM at *;generalize x.ats[q].p=P at *;generalize x.ats[q].l=L at *;generalize x.ats[q].u=U at *;generalize x.ats[q].v=V at *;obtain⟨t1,t1'⟩:=E1.out;obtain⟨t2,t2'⟩:=E2.out;clear hcell;cases b1 with
    |true =>
     cases b2 with
     |true =>
      go_wp2
      go_roundw
      case rel=>exact⟨q+1,hltd,by go_num,HT.out (by simp),hbq.alloc hbq.size _⟩
      case measure=>simp[intOf];omega
     |false =>
      obtain rfl:=HF.out (by simp)
      go_wp2;go_ret;exact⟨rfl,hbwq.alloc hbwq.size _⟩
    |false =>
     go_wp2_with fail
     refine(HMQ.out _ (hbwq.alloc hbwq.size _)).mono ?_;rintro e w3⟨rfl,hb3⟩;have hb3':=bR hb3;clear hb3;cases BM with
     |false =>
      obtain rfl:=HF.out (by simp)
      go_wp2;go_ret;exact⟨rfl,hbwq.trans (hb3'.mono hbwq.size)⟩
     |true =>
      go_wp2
      go_roundw
      case rel=>exact⟨q+1,hltd,by go_num,HT.out (by simp),hbq.trans (hb3'.mono hbq.size)⟩
      case measure=>simp[intOf];omega
   ·have hkz:¬(q:Int)<(na:Int):=by omega
    have hall:=la (by rw[HNA.out];exact hltq) HAL.out
    have hT:true=R:=by rw[<-HR2.out,hall]
    subst hT;go_wp2;go_ret;exact⟨rfl,hbwq⟩
def Ba(l:List Nd)(m:Nat):List Dc:=((l[m]?).map (·.ds)).getD []
theorem qd{l:List Nd}{m:Nat}(h:m<l.length):Ba l m=l[m].ds:=by simp[Ba,aw h]
def kJ(l:List Nd)(n:Nat):List Dc:=(gQ l n).flatMap (fun m=>(Ba l m).reverse)
theorem pe{l:List Nd}{n:Nat}(h:0<=pa l n/\(pa l n).toNat<n):kJ l n=(Ba l n).reverse++kJ l (pa l n).toNat:=by
 unfold kJ;rw[fh h,List.flatMap_cons]
theorem ut{l:List Nd}{n:Nat}(h:¬(0<=pa l n/\(pa l n).toNat<n)):kJ l n=(Ba l n).reverse:=by
 unfold kJ;rw[iu h];simp
def yp(l:List Nd):Nat->Nat
 |0=>0
 |k+1=>yp l k+(Ba l k).length
theorem wS{l:List Nd}(hs:∀x∈l,Sm x):∀k,k<=l.length->yp l k<=k*2000000
 |0,_=>af _
 |k+1,h=>by
  have h1:=wS hs k (by omega)
  have h2:=(hs _ (aJ (show k<l.length by omega))).nd
  rw[yp,qd (by omega)]
  omega
def my(l:List Nd)(j:Nat):Bool:=match l[j]? with|some x => !(x.k==1)||jO (kJ l j) x|none=>true
theorem oD{l:List Nd}{j:Nat}(h:j<l.length):my l j=(!(l[j].k==1)||jO (kJ l j) l[j]):=by simp[my,aw h]
open Classical in
noncomputable def fZ(l:List Nd):Bool:=decide (∀j,j<l.length->my l j=true)
def zJ(l:List Nd):Nat->List Dc
 |0 => []
 |k+1=>kJ l k
theorem Ci(w:World){O:Obj}(h0:w.heap[0]? = some O)(hp:0<w.heap.size):Sc ((w.alloc (.map #[] 0)).alloc (.cells #[.slice none 0 0,.map (some w.heap.size)] 155)) w.heap.size (w.heap.size+1) w.heap.size 0 0 O []:=by
 have hb:Below (w.alloc (.map #[] 0)).heap.size (w.alloc (.map #[] 0)) ((w.alloc (.map #[] 0)).alloc (.cells #[.slice none 0 0,.map (some w.heap.size)] 155)):=(ae _ _).alloc (af _) _;have hl:=ar (w.alloc (.map #[] 0)) (.cells #[.slice none 0 0,.map (some w.heap.size)] 155);have hs:(w.alloc (.map #[] 0)).heap.size=w.heap.size+1:=by simp
 rw[hs]at hl;refine⟨.slice none 0 0,.map [],?_,?_,?_,⟨rfl,.inl ⟨rfl,rfl⟩⟩,(World.ownsMap_made _ _ _ _).alloc _,fun s=>rfl,by omega,by simp[Value.ownBlock],by simp[Value.ownBlock],by omega,by omega,by omega,by omega,by simp[Value.ownBlock],?_⟩
 ·rw[ai _ (w.heap.size+1) 0 _ _ _ hl];rfl
 ·rw[ai _ (w.heap.size+1) 1 _ _ _ hl];rfl
 ·unfold World.frozen?;rw[hl];simp
 ·exact((((ae w.heap.size w).alloc (af _) _).alloc (by simp) _).block 0 hp).trans h0
def DZ(w:World)(l:List Nd)(O:Obj)(i:Value)(wr:World):Prop :=
 ∃k N:Nat,k<=l.length/\i=.int .i64 k/\Sc wr w.heap.size (w.heap.size+1) w.heap.size N 0 O (zJ l k)/\N+(zJ l k).length<=2*yp l k/\(∀j,j<k->my l j=true)/\Below w.heap.size w wr
def F9(w:World)(l:List Nd)(k p q:Nat)(O:Obj)(i:Value)(wr:World):Prop :=
 ∃m N:Nat,m<k/\i=.int .i64 m/\Sc wr w.heap.size (w.heap.size+1) w.heap.size N q O (kJ l m)/\N+(kJ l m).length<=2*yp l k/\p∈gQ l m/\Below w.heap.size w wr
theorem Ak(l:List Nd)(v:Value)(w:World)(hv:eD w w.heap.size v l)(hlen:l.length<=100000)(hs:∀x∈l,Sm x)(h0p:0<w.heap.size)(hr:pa l 0 = -1)(hh:∀i,1<=i->i<l.length->ej l i=true) :
 Calls Tryz.prog 97 #[v] w fun e w'=>e=.returned (.bool (fZ l))/\Below w.heap.size w w':=by
 have hmm:=@run_makeMap Tryz.prog;have HV:=aa hv;obtain⟨A,cap,rfl,hc1,hc2⟩:=hv.slice;obtain⟨R,hR⟩ : ∃R,fZ l=R:=⟨_,rfl⟩;rw[hR];have HR:=aa hR;have HH:=aa hh;have HRO:=aa hr;obtain⟨O0,h00⟩ : ∃O,w.heap[0]? = some O:=⟨w.heap[0],aX h0p⟩;obtain⟨n,hn⟩ : ∃n,l.length=n:=⟨_,rfl⟩;have HN:=aa hn;rw[hn]at hlen hc1 ⊢;have HST:=aa (Ci w h00 h0p);have H00:=aa h00;have H0P:=aa h0p;clear h00 h0p;clear hR hn hr hh;go_enter Tryz.func97,Tryz.ntmps97;go_wp2
 go_loopw [11] (DZ w l O0) (fun i _=>n-(intOf i).toNat)
 case atStart=>exact⟨0,0,aM _,rfl,HST.out,by simp[zJ,yp],fun j hj=>by omega,((ae _ _).alloc (af _) _).alloc (by simp) _⟩
 case round =>
  obtain⟨k,N,hk,rfl,hsc,hbn,hok,hb⟩:=hrel;rw[HN.out]at hk;have HOK:=aa hok;have HSC:=aa hsc;have HB:=aa hb;clear hok hsc hmm HST;by_cases hlt:k<n
  ·have hkl:k<l.length:=by rw[HN.out];exact hlt
   obtain⟨b,o,cap',e,_,_,hbB,hnd⟩:=(HV.out.below hb).open (by intro h;rw[h]at hkl;simp at hkl)
   simp only[aK]at e;obtain⟨rfl,_,rfl⟩:=e;have HND:=aa (fun wi (hbi:Below w.heap.size w wi)=>(HV.out.below hbi).open (by intro h;rw[h]at hkl;simp at hkl))
   obtain⟨vd,va,d0,d1,d2,d3,d4,d5,d6,d7,hd,ha⟩:=(hnd k hkl).cells;have HXW:Hid (nH wr w.heap.size (.agg #[.int .i64 l[k].k,.int .i64 l[k].n,.string l[k].p,.string l[k].l,.string l[k].u,.string l[k].t,vd,va]) l[k]):=⟨vd,va,rfl,hd,ha⟩;have HDSW:Hid (gL wr w.heap.size vd l[k].ds):=hd;obtain⟨A1,c1,rfl,_⟩:=hd;obtain⟨A2,c2,rfl,_⟩:=ha;have hsx:=hs _ (aJ hkl);have hpaX:=fS hkl;have hkz:(k:Int)<(n:Int):=by omega
   have HEL:=aa (oD hkl);have HTOT:Hid (yp l (k+1)=yp l k+l[k].ds.length):=by rw[Hid,yp,qd hkl]
   have HDA:=aa (qd hkl)
   have HNO:Hid (my l k=false->R=false):=fun h=>by
    rw[<-HR.out];unfold fZ;exact ap (fun h'=>by rw[h' k hkl]at h;cases h)
   have hT1:=wS hs k (by omega)
   have hT2:=wS hs (k+1) (by omega)
   have HTL:Hid (yp l (k+1)<=200000000000/\yp l k<=200000000000):=⟨by omega,by omega⟩
   obtain⟨hTA,hTB⟩:=HTL.out
   have HXV:Hid (∀wi,Below w.heap.size w wi->nH wi wi.heap.size (.agg #[.int .i64 l[k].k,.int .i64 l[k].n,.string l[k].p,.string l[k].l,.string l[k].u,.string l[k].t,.slice A1 l[k].ds.length c1,.slice A2 l[k].ats.length c2]) l[k]):=fun wi hbi=>by
    obtain⟨b',o',cap'',e',_,_,_,hnd'⟩:=HND.out wi hbi;simp only[aK,al,Addr.mk.injEq]at e';obtain⟨⟨rfl,rfl,_⟩,_,_⟩:=e';obtain⟨vd',va',_,_,_,_,_,_,e6,e7,hd',ha'⟩:=(hnd' k hkl).cells;have q6:=(hbi.cell (p:=⟨b,o+k*8+6,none⟩) hbB).trans ((hb.cell (p:=⟨b,o+k*8+6,none⟩) hbB).symm.trans d6);have q7:=(hbi.cell (p:=⟨b,o+k*8+7,none⟩) hbB).trans ((hb.cell (p:=⟨b,o+k*8+7,none⟩) hbB).symm.trans d7);rw[q6]at e6;rw[q7]at e7;obtain rfl:=Option.some.inj e6;obtain rfl:=Option.some.inj e7;exact⟨_,_,rfl,em.mono hd' hbi.size,em.mono ha' hbi.size⟩
   have HDS:Hid (gL w w.heap.size (.slice A1 l[k].ds.length c1) l[k].ds):=by
    obtain⟨b',o',cap'',e',_,_,_,hnd'⟩:=HND.out w (ae _ _);simp only[aK,al,Addr.mk.injEq]at e';obtain⟨⟨rfl,rfl,_⟩,_,_⟩:=e';obtain⟨vd',va',_,_,_,_,_,_,e6,e7,hd',ha'⟩:=(hnd' k hkl).cells;have q6:=(hb.cell (p:=⟨b,o+k*8+6,none⟩) hbB).symm.trans d6;rw[q6]at e6;obtain rfl:=Option.some.inj e6;exact hd'
   have HNDK:Hid (∀m,m<k->∃vd,∀wi,Below w.heap.size w wi->wi.cell? ⟨b,o+m*8+1,none⟩=some (.int .i64 (pa l m))/\wi.cell? ⟨b,o+m*8+6,none⟩=some vd/\gL wi w.heap.size vd (Ba l m)):=fun m hm=>by
    have hml:m<l.length:=by omega
    obtain⟨b',o',cap'',e',_,_,_,hnd'⟩:=HND.out w (ae _ _);simp only[aK,al,Addr.mk.injEq]at e';obtain⟨⟨rfl,rfl,_⟩,_,_⟩:=e';obtain⟨vd',va',_,e1,_,_,_,_,e6,e7,hd',ha'⟩:=(hnd' m hml).cells;rw[<-fS hml]at e1;rw[<-qd hml]at hd';exact⟨vd',fun wi hbi=>⟨(hbi.cell (p:=⟨b,o+m*8+1,none⟩) hbB).trans e1,(hbi.cell (p:=⟨b,o+m*8+6,none⟩) hbB).trans e6,em.below hd' hbi⟩⟩
   have HSM:Hid (∀m,m<k->(Ba l m).length<=2000000/\∀d∈Ba l m,d.p.size<=2000000):=fun m hm=>by
    have hml:m<l.length:=by omega
    rw[qd hml];have:=hs _ (aJ hml);exact⟨this.nd,fun d hd=>(this.ds d hd).1⟩
   obtain⟨X,hX⟩ : ∃X,l[k]=X:=⟨_,rfl⟩;rw[hX]at d0 d1 d2 d3 d4 d5 d6 d7 hsx HEL HTOT HDA HXV HDS hpaX;clear hnd HXW HDSW hX HND;go_wp2;obtain⟨W1,hW1⟩ : ∃W1,wr.alloc (Obj.cells #[.int .i64 X.k,.int .i64 X.n,.string X.p,.string X.l,.string X.u,.string X.t,.slice A1 X.ds.length c1,.slice A2 X.ats.length c2] 42)=W1:=⟨_,rfl⟩;have hWb:Below wr.heap.size wr W1:=by rw[<-hW1];exact(ae _ _).alloc (af _) _
   have hheap:W1.heap[wr.heap.size]? = some (Obj.cells #[.int .i64 X.k,.int .i64 X.n,.string X.p,.string X.l,.string X.u,.string X.t,.slice A1 X.ds.length c1,.slice A2 X.ats.length c2] 42):=by rw[<-hW1];exact ar wr _
   have HSC1:Hid (Sc W1 w.heap.size (w.heap.size+1) w.heap.size N wr.heap.size (Obj.cells #[.int .i64 X.k,.int .i64 X.n,.string X.p,.string X.l,.string X.u,.string X.t,.slice A1 X.ds.length c1,.slice A2 X.ats.length c2] 42) (zJ l k)):=by
    have hlt1:w.heap.size+1<wr.heap.size:=by obtain⟨v',D',hA'⟩:=HSC.out;exact hA'.lt
    exact(HSC.out.later hWb).aside (by omega) (by omega) (fun v D hA h=>by
     obtain⟨v',D',hA'⟩:=HSC.out;have e1:=hA.c0;rw[(hA'.later hWb).c0]at e1;obtain rfl:=Option.some.inj e1;have:=(jZ hA'.own h).2;omega) hheap
   have HB1:Hid (Below w.heap.size w W1):=HB.out.trans (hWb.mono HB.out.size);rw[hW1];clear hW1 hWb hheap d0 d1 d2 d3 d4 d5 d6 d7 HSC HB hb;generalize wr.heap.size=q at *;rcases bw k with hk0|hk0
   ·have HK0:=aa hk0
    have HST0:Hid (X.ds.reverse++[]=kJ l k):=by rw[Hid,hk0,ut (by rw[HRO.out];omega),<-hk0,HDA.out,bo]
    have hXn:X.n = -1:=by rw[<-hpaX,hk0];exact HRO.out
    have HSCA:Hid (Sc W1 w.heap.size (w.heap.size+1) w.heap.size N q (Obj.cells #[.int .i64 X.k,.int .i64 X.n,.string X.p,.string X.l,.string X.u,.string X.t,.slice A1 X.ds.length c1,.slice A2 X.ats.length c2] 42) []):=by have h:=HSC1.out;rw[hk0]at h;exact h
    have z1:W1.cell? ⟨q,1,none⟩=some (.int .i64 (-1)):=by rw[ai W1 q 1 _ _ _ HSCA.out.held,<-hXn];rfl
    have hbn0:N<=2*yp l k:=by rw[hk0]at hbn ⊢;simpa [zJ]using hbn
    have hcmp:¬((-1:Int)<(k:Int)-1):=by omega
    have hcmp1:=ap hcmp;clear hXn hpaX hbn hk0;refine wp_loop_rounds 1 ?_;rw[rounds_succ];have hSx:=HSCA.out;have hheld:=hSx.held;have z0:W1.cell? ⟨q,0,none⟩=some (.int .i64 X.k):=by rw[ai W1 q 0 _ _ _ hheld];rfl
    have z6:W1.cell? ⟨q,6,none⟩=some (.slice A1 X.ds.length c1):=by rw[ai W1 q 6 _ _ _ hheld];rfl
    have HBG:=aa (r6 w.heap.size (w.heap.size+1) w.heap.size N q (Obj.cells #[.int .i64 X.k,.int .i64 X.n,.string X.p,.string X.l,.string X.u,.string X.t,.slice A1 X.ds.length c1,.slice A2 X.ats.length c2] 42) [] X.ds _ W1 hSx HB1.out.size (em.below HDS.out HB1.out) (by omega) (by first|omega|simp) hsx.nd (fun d hd=>(hsx.ds d hd).1))
    clear hSx hheld
    go_wp2_with fail
    refine HBG.out.mono ?_;rintro e w5⟨rfl,hsc5,hb5⟩;have HB5:=aa (HB1.out.trans hb5);have hheld:=hsc5.held;have hsz5:q<w5.heap.size:=au hheld;have y0:w5.cell? ⟨q,0,none⟩=some (.int .i64 X.k):=by rw[ai w5 q 0 _ _ _ hheld];rfl
    have y1:w5.cell? ⟨q,1,none⟩=some (.int .i64 X.n):=by rw[ai w5 q 1 _ _ _ hheld];rfl
    have y2:w5.cell? ⟨q,2,none⟩=some (.string X.p):=by rw[ai w5 q 2 _ _ _ hheld];rfl
    have y3:w5.cell? ⟨q,3,none⟩=some (.string X.l):=by rw[ai w5 q 3 _ _ _ hheld];rfl
    have y4:w5.cell? ⟨q,4,none⟩=some (.string X.u):=by rw[ai w5 q 4 _ _ _ hheld];rfl
    have y5:w5.cell? ⟨q,5,none⟩=some (.string X.t):=by rw[ai w5 q 5 _ _ _ hheld];rfl
    have y6:w5.cell? ⟨q,6,none⟩=some (.slice A1 X.ds.length c1):=by rw[ai w5 q 6 _ _ _ hheld];rfl
    have y7:w5.cell? ⟨q,7,none⟩=some (.slice A2 X.ats.length c2):=by rw[ai w5 q 7 _ _ _ hheld];rfl
    have HSC5:=aa hsc5;rw[HST0.out]at HSC5
    have HBN5:Hid (N+X.ds.length+(kJ l k).length<=2*yp l (k+1)):=by
     have h1:=HTOT.out;rw[<-HST0.out,h1];simp only[aj,List.length_reverse]
     show _<=_
     simp only[bb];omega
    have HEND:Hid (∀w6,Below w5.heap.size w5 w6->my l k=true->DZ w l O0 (.int .i64 ((k+1:Nat):Int)) w6):=fun w6 hb6 he=>by
     have hbw:=HB5.out.trans (hb6.mono HB5.out.size);exact⟨k+1,N+X.ds.length,hkl,rfl,(HSC5.out.later hb6).aside (by omega) (by omega) (fun v D hA h=>by have:=(jZ hA.own h).1;omega) ((hbw.block 0 H0P.out).trans H00.out),HBN5.out,ke HOK.out he,hbw⟩
    have HEM:=aa (jl w.heap.size (w.heap.size+1) w.heap.size (N+X.ds.length) q (Obj.cells #[.int .i64 X.k,.int .i64 X.n,.string X.p,.string X.l,.string X.u,.string X.t,.slice A1 X.ds.length c1,.slice A2 X.ats.length c2] 42) (kJ l k) X _ hsx w5 HSC5.out (by have:=HBN5.out;have:=HTL.out;omega) (HXV.out w5 HB5.out))
    clear hb5 hsc5 hheld HBG;by_cases hk1:X.k=1
    ·have t1:(X.k==1)=true:=by simpa using hk1
     rw[t1]at HEL;obtain⟨BE,hBE⟩ : ∃BE,jO (kJ l k) X=BE:=⟨_,rfl⟩;rw[hBE]at HEL HEM;have HEL2:Hid (my l k=BE):=aa (by simpa using HEL.out)
     clear hk1 hBE HEL;cases BE with
     |true =>
      go_wp2_with fail
      refine HEM.out.mono ?_;rintro e w6⟨rfl,hb6⟩;go_wp2
      go_roundw
      case rel=>exact(show Value.int .i64 ((k+1:Nat):Int)=_ by go_num) ▸ HEND.out w6 hb6 HEL2.out
      case measure=>simp[intOf];omega
     |false =>
      obtain rfl:=HNO.out HEL2.out
      go_wp2_with fail
      refine HEM.out.mono ?_;rintro e w6⟨rfl,hb6⟩;have hbw:=HB5.out.trans (hb6.mono HB5.out.size);go_wp2;go_ret;exact⟨rfl,hbw⟩
    ·have t1:(X.k==1)=false:=by simpa using hk1
     rw[t1]at HEL;have HEL2:Hid (my l k=true):=aa (by simpa using HEL.out)
     clear hk1 HEL;go_wp2
     go_roundw
     case rel=>exact(show Value.int .i64 ((k+1:Nat):Int)=_ by go_num) ▸ HEND.out w5 (ae _ _) HEL2.out
     case measure=>simp[intOf];omega
   ·have hpk:=ie hk0 (HH.out k hk0 hkl)
    have hhk:=HH.out k hk0 hkl;obtain⟨p,hp⟩ : ∃p:Nat,pa l k=(p:Int):=⟨(pa l k).toNat,by omega⟩
    have hXn:X.n=(p:Int):=by rw[<-hpaX,hp]
    have hpk2:p<k:=by omega
    have HPM:Hid (p∈gQ l (k-1)):=by
     unfold ej at hhk;rw[hp]at hhk;simp only[aO,bj,cN]at hhk;exact hhk.1.2
    have HSTK:Hid (X.ds.reverse++kJ l p=kJ l k):=by
     rw[Hid,pe (n:=k) (by rw[hp];omega),hp,HDA.out,cN]
    have HHU:Hid (∀m,1<=m->m<k->0<=pa l m/\(pa l m).toNat<m):=fun m h1 h2=>by
     have:=ie h1 (HH.out m h1 (by omega))
     omega
    have hk1e:zJ l k=kJ l (k-1):=by
     cases k with
     |zero=>omega
     |succ j=>rfl
    rw[hk1e]at hbn HSC1;have HIN:Hid (F9 w l k p q (Obj.cells #[.int .i64 X.k,.int .i64 X.n,.string X.p,.string X.l,.string X.u,.string X.t,.slice A1 X.ds.length c1,.slice A2 X.ats.length c2] 42) (.int .i64 ((k:Int)-1)) W1):=⟨k-1,N,by omega,by congr 1;omega,HSC1.out,hbn,HPM.out,HB1.out⟩
    have HXN:=aa hXn;clear hhk hp hXn hpaX hbn hk1e HSC1 HB1 HPM
    go_loopw [6] (F9 w l k p q (Obj.cells #[.int .i64 X.k,.int .i64 X.n,.string X.p,.string X.l,.string X.u,.string X.t,.slice A1 X.ds.length c1,.slice A2 X.ats.length c2] 42)) (fun i _=>(intOf i).toNat)
    case atStart=>exact HIN.out
    case round =>
     obtain⟨m,N1,hm,rfl,hsc1,hbn1,hpm,hb1⟩:=hrel;have HSC1:=aa hsc1;have HB1:=aa hb1;have z1:wr.cell? ⟨q,1,none⟩=some (.int .i64 (p:Int)):=by rw[ai wr q 1 _ _ _ hsc1.held,<-HXN.out];rfl
     by_cases hmp:p<m
     ·obtain⟨vdm,hvm⟩:=HNDK.out m hm
      obtain⟨x1,x6,hdm⟩:=hvm wr hb1;have hum:=HHU.out m (by omega) hm
      have HPM2:Hid (p∈gQ l (pa l m).toNat):=by
       rw[fh hum,aU]at hpm;rcases hpm with h|h
       ·omega
       ·exact h
      have hsm:=HSM.out m hm;have hse:=pe hum;rw[hse]at hsc1 hbn1;obtain⟨pm,hpmE⟩ : ∃pm:Nat,pa l m=(pm:Int):=⟨(pa l m).toNat,by omega⟩
      rw[hpmE,cN]at hsc1 hbn1 HPM2 hum;rw[hpmE]at x1;simp only[aj,List.length_reverse]at hbn1;have HEN:=aa (Fp w.heap.size (w.heap.size+1) w.heap.size N1 q (Obj.cells #[.int .i64 X.k,.int .i64 X.n,.string X.p,.string X.l,.string X.u,.string X.t,.slice A1 X.ds.length c1,.slice A2 X.ats.length c2] 42) (kJ l pm) (Ba l m) vdm wr hsc1 hb1.size hdm (by omega) (by omega) hsm.1 hsm.2)
      have HVM:Hid (∀wi,Below w.heap.size w wi->wi.cell? ⟨b,o+m*8+1,none⟩=some (.int .i64 (pm:Int))):=fun wi hbi=>by rw[<-hpmE];exact(hvm wi hbi).1
      have hmn:(m:Int)<(n:Int):=by omega
      have hmz:(p:Int)<(m:Int):=by omega
      have hpmm:=hum.2;clear hsc1 hvm hpmE hse hpm hsm hum;obtain⟨Am,cm,rfl,_⟩:=hdm
      go_wp2_with fail
      refine HEN.out.mono ?_;rintro e w4⟨rfl,hsc4,hb4⟩;have HB4:=aa (hb1.trans hb4);have x1':=HVM.out w4 HB4.out;have HSC4:=aa hsc4;clear hb4 hsc4 z1 x1 x6 HEN;go_wp2
      go_roundw
      case rel=>exact⟨pm,N1+(Ba l m).length,by omega,rfl,HSC4.out,by omega,HPM2.out,HB4.out⟩
      case measure=>simp[intOf];omega
     ·have hmz:¬(p:Int)<(m:Int):=by omega
      have hmz1:=ap hmz
      have hmp2:m=p:=by
       have:=(yG (l:=l) (a:=m) (p:=p) (by omega)).1 hpm
       omega
      subst hmp2;clear hsc1 hpm hb1;have hSx:=HSC1.out;have hheld:=hSx.held;have z0:wr.cell? ⟨q,0,none⟩=some (.int .i64 X.k):=by rw[ai wr q 0 _ _ _ hheld];rfl
      have z6:wr.cell? ⟨q,6,none⟩=some (.slice A1 X.ds.length c1):=by rw[ai wr q 6 _ _ _ hheld];rfl
      have HBG:=aa (r6 w.heap.size (w.heap.size+1) w.heap.size N1 q (Obj.cells #[.int .i64 X.k,.int .i64 X.n,.string X.p,.string X.l,.string X.u,.string X.t,.slice A1 X.ds.length c1,.slice A2 X.ats.length c2] 42) (kJ l m) X.ds _ wr hSx HB1.out.size (em.below HDS.out HB1.out) (by omega) (by first|omega|simp) hsx.nd (fun d hd=>(hsx.ds d hd).1))
      clear hSx hheld
      go_wp2_with fail
      refine HBG.out.mono ?_;rintro e w5⟨rfl,hsc5,hb5⟩;have HB5:=aa (HB1.out.trans hb5);have hheld:=hsc5.held;have hsz5:q<w5.heap.size:=au hheld;have y0:w5.cell? ⟨q,0,none⟩=some (.int .i64 X.k):=by rw[ai w5 q 0 _ _ _ hheld];rfl
      have y1:w5.cell? ⟨q,1,none⟩=some (.int .i64 X.n):=by rw[ai w5 q 1 _ _ _ hheld];rfl
      have y2:w5.cell? ⟨q,2,none⟩=some (.string X.p):=by rw[ai w5 q 2 _ _ _ hheld];rfl
      have y3:w5.cell? ⟨q,3,none⟩=some (.string X.l):=by rw[ai w5 q 3 _ _ _ hheld];rfl
      have y4:w5.cell? ⟨q,4,none⟩=some (.string X.u):=by rw[ai w5 q 4 _ _ _ hheld];rfl
      have y5:w5.cell? ⟨q,5,none⟩=some (.string X.t):=by rw[ai w5 q 5 _ _ _ hheld];rfl
      have y6:w5.cell? ⟨q,6,none⟩=some (.slice A1 X.ds.length c1):=by rw[ai w5 q 6 _ _ _ hheld];rfl
      have y7:w5.cell? ⟨q,7,none⟩=some (.slice A2 X.ats.length c2):=by rw[ai w5 q 7 _ _ _ hheld];rfl
      have HSC5:=aa hsc5;rw[HSTK.out]at HSC5
      have HBN5:Hid (N1+X.ds.length+(kJ l k).length<=2*yp l (k+1)):=by
       have h1:=HTOT.out;rw[<-HSTK.out,h1];simp only[aj,List.length_reverse]
       show _<=_
       omega
      have HEND:Hid (∀w6,Below w5.heap.size w5 w6->my l k=true->DZ w l O0 (.int .i64 ((k+1:Nat):Int)) w6):=fun w6 hb6 he=>by
       have hbw:=HB5.out.trans (hb6.mono HB5.out.size);exact⟨k+1,N1+X.ds.length,hkl,rfl,(HSC5.out.later hb6).aside (by omega) (by omega) (fun v D hA h=>by have:=(jZ hA.own h).1;omega) ((hbw.block 0 H0P.out).trans H00.out),HBN5.out,ke HOK.out he,hbw⟩
      have HEM:=aa (jl w.heap.size (w.heap.size+1) w.heap.size (N1+X.ds.length) q (Obj.cells #[.int .i64 X.k,.int .i64 X.n,.string X.p,.string X.l,.string X.u,.string X.t,.slice A1 X.ds.length c1,.slice A2 X.ats.length c2] 42) (kJ l k) X _ hsx w5 HSC5.out (by have:=HBN5.out;have:=HTL.out;omega) (HXV.out w5 HB5.out))
      clear hb5 hsc5 hheld HBG;by_cases hk1:X.k=1
      ·have t1:(X.k==1)=true:=by simpa using hk1
       rw[t1]at HEL;obtain⟨BE,hBE⟩ : ∃BE,jO (kJ l k) X=BE:=⟨_,rfl⟩;rw[hBE]at HEL HEM;have HEL2:Hid (my l k=BE):=aa (by simpa using HEL.out)
       clear hk1 hBE HEL;cases BE with
       |true =>
        go_wp2_with fail
        refine HEM.out.mono ?_;rintro e w6⟨rfl,hb6⟩;go_wp2
        go_roundw
        case rel=>exact(show Value.int .i64 ((k+1:Nat):Int)=_ by go_num) ▸ HEND.out w6 hb6 HEL2.out
        case measure=>simp[intOf];omega
       |false =>
        obtain rfl:=HNO.out HEL2.out
        go_wp2_with fail
        refine HEM.out.mono ?_;rintro e w6⟨rfl,hb6⟩;have hbw:=HB5.out.trans (hb6.mono HB5.out.size);go_wp2;go_ret;exact⟨rfl,hbw⟩
      ·have t1:(X.k==1)=false:=by simpa using hk1
       rw[t1]at HEL;have HEL2:Hid (my l k=true):=aa (by simpa using HEL.out)
       clear hk1 HEL;go_wp2
       go_roundw
       case rel=>exact(show Value.int .i64 ((k+1:Nat):Int)=_ by go_num) ▸ HEND.out w5 (ae _ _) HEL2.out
       case measure=>simp[intOf];omega
  ·have hkz:¬(k:Int)<(n:Int):=by omega
   have hkn:k=n:=by omega
   have hT:true=R:=by
    rw[<-HR.out];unfold fZ;exact(ax (fun j hj=>HOK.out j (by rw[HN.out]at hj;omega))).symm
   subst hT;go_wp2;go_ret;exact⟨rfl,hb⟩
end Go.Proofs.YteinegfbpfhflaaGreatDoor
