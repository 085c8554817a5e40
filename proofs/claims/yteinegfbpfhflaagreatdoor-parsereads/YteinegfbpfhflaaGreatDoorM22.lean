/-
  apostilleref07.Has and Means: the document's own. Conditions: the list lies as it is; the nodes hang on nodes ahead; the texts are not too long. apostilleref07.element: the document's own. Conditions: the list lies as it is; the nodes hang on nodes ahead; the texts are not too long. apostilleref07.other: the document's own. Conditions: the list lies as it is; the texts are not too long.
-/
import Derived.Test.YteinegfbpfhflaaGreatDoorM20
import Derived.Test.YteinegfbpfhflaaGreatDoorM09
import Derived.Test.YteinegfbpfhflaaGreatDoorM12
import Derived.Test.YteinegfbpfhflaaGreatDoorM11
import Derived.Test.YteinegfbpfhflaaGreatDoorM14
import Derived.Test.YteinegfbpfhflaaGreatDoorM00
import Derived.Deep.QuietTactic
namespace Go.Proofs.YteinegfbpfhflaaGreatDoor
open Go.RowKit
open Go.RowKit
open Go.RowKit
set_option linter.unusedVariables false
set_option maxRecDepth 100000
set_option maxHeartbeats 32000000
theorem yP{s t:List UInt8}:Hq s t↔t=[]∨∃j,j<s.length/\(s.drop j).take t.length=t:=by
 constructor
 ·rintro⟨a,b,e⟩
  by_cases ht:t=[]
  ·exact .inl ht
  ·refine .inr ⟨a.length,?_,?_⟩
   ·rw[e]
    have:=bO.2 ht;simp;omega
   ·rw[e,List.drop_left,List.take_left]
 ·rintro(rfl |⟨j,hj,h⟩)
  ·exact⟨[],s,rfl⟩
  ·refine⟨s.take j,(s.drop j).drop t.length,?_⟩
   have h1:=cG t.length (s.drop j);rw[h]at h1;rw[h1,cG]
theorem tw(S:ByteArray)(a b:Nat):(S.extract a b).data.toList=(S.data.toList.drop a).take (b-a):=by
 rw[ByteArray.data_extract,Array.toList_extract]
theorem Cf(S:ByteArray){k t:Nat}(h:k+t<=S.size)(w:World):(Instr.slice 9 (.string S) (some (.int .i64 (k:Int))) (some (.int .i64 ((k:Int)+(t:Int)))) none).run Tryz.prog w=.ok (.string (S.extract k (k+t))) w:=by
 have h2:(k:Int)+(t:Int)<=(S.size:Int):=by omega
 have h3:(0:Int)<=(k:Int)+(t:Int):=by omega
 have h4:((k:Int)+(t:Int)).toNat=k+t:=by omega
 simp[Instr.slice,run_underlying Tryz.underlying9,Instr.sliceBounds,Instr.sliceBound,asIntOf,h2,h3,h4]
def Iz(w:World)(S T:List UInt8)(i:Value)(wr:World):Prop:=∃k:Nat,k<=S.length/\i=.int .i64 k/\(∀j,j<k->(S.drop j).take T.length≠T)/\wr=w
theorem yT(S T:ByteArray)(w:World)(hs:S.size<=2000000)(ht:T.size<=2000000):Calls Tryz.prog 156 #[.string S,.string T] w fun e w'=>e=.returned (.bool (jg S.data.toList T.data.toList))/\w'=w:=by
 obtain⟨R,hR⟩ : ∃R,jg S.data.toList T.data.toList=R:=⟨_,rfl⟩;rw[hR]
 have HY:Hid (∀j,j<S.data.toList.length->(S.data.toList.drop j).take T.data.toList.length=T.data.toList->R=true):=fun j h1 h2=>by
  rw[<-hR,vv,yP];exact .inr ⟨j,h1,h2⟩
 have HZ:Hid ((∀j,j<S.data.toList.length->(S.data.toList.drop j).take T.data.toList.length≠T.data.toList)->R=dZ T []):=fun h=>by
  rw[<-hR,bm,vv,yP,gi]
  constructor
  ·rintro(h1 |⟨j,h1,h2⟩)
   ·exact h1
   ·exact absurd h2 (h j h1)
  ·exact .inl
 have HLS:Hid (S.data.toList.length=S.size):=by show S.data.toList.length=_;rw[Array.length_toList];rfl
 have HLT:Hid (T.data.toList.length=T.size):=by show T.data.toList.length=_;rw[Array.length_toList];rfl
 obtain⟨b0,e0,E0⟩:=gv T;have HB0:=aa e0;clear hR e0;go_enter Tryz.func156,Tryz.ntmps156;go_wp2
 go_loopw [8] (Iz w S.data.toList T.data.toList) (fun i _=>S.size-(intOf i).toNat)
 case atStart=>exact⟨0,aM _,rfl,fun j h=>by omega,rfl⟩
 case round =>
  obtain⟨k,hk,rfl,hno,rfl⟩:=hrel;rw[HLS.out]at hk;have HNO:=aa hno;clear hno;by_cases hlt:k<S.size
  ·have hkz:(k:Int)<(S.size:Int):=by omega
   by_cases hfit:(S.size:Int)-(k:Int) ≥ (T.size:Int)
   ·have hke:k+T.size<=S.size:=by omega
    have HX:Hid ((S.extract k (k+T.size)).data.toList=(S.data.toList.drop k).take T.data.toList.length):=by
     show(S.extract k (k+T.size)).data.toList=_
     rw[tw,HLT.out,show k+T.size-k=T.size by omega]
    obtain⟨Z,hZ⟩ : ∃Z,S.extract k (k+T.size)=Z:=⟨_,rfl⟩;have hsl:∀w,(Instr.slice 9 (.string S) (some (.int .i64 (k:Int))) (some (.int .i64 ((k:Int)+(T.size:Int)))) none).run Tryz.prog w=.ok (.string Z) w:=fun w=>by rw[<-hZ];exact Cf S hke w
    have HXZ:Hid (Z.data.toList=(S.data.toList.drop k).take T.data.toList.length):=by rw[<-hZ];exact HX
    by_cases hm:(S.data.toList.drop k).take T.data.toList.length=T.data.toList
    ·have hR1:R=true:=HY.out k (by rw[HLS.out];exact hlt) hm
     have t1:(Z.toList==T.toList)=true:=by rw[bc,aq,aq,HXZ.out,hm]
     have HRT:=aa hR1;clear hm hR1 HX hZ;go_wp2;go_ret;exact⟨by rw[HRT.out];rfl,rfl⟩
    ·have t1:(Z.toList==T.toList)=false:=by rw[ak,aq,aq,HXZ.out];exact hm
     have HM:=aa hm;clear hm HX hZ;go_wp2
     go_roundw
     case rel =>
      refine⟨k+1,by rw[HLS.out];omega,by go_num,fun j hj => ?_,rfl⟩
      rcases bU (cC hj)with h|h
      ·exact HNO.out j h
      ·subst h;exact HM.out
     case measure=>simp[intOf];omega
   ·have hfd:=ap hfit
    have HM:Hid ((S.data.toList.drop k).take T.data.toList.length≠T.data.toList):=fun h=>by
     have:=congrArg List.length h;rw[aY,bq,HLS.out,HLT.out]at this;omega
    go_wp2
    go_roundw
    case rel =>
     refine⟨k+1,by rw[HLS.out];omega,by go_num,fun j hj => ?_,rfl⟩
     rcases bU (cC hj)with h|h
     ·exact HNO.out j h
     ·subst h;exact HM.out
    case measure=>simp[intOf];omega
  ·have hkz:¬(k:Int)<(S.size:Int):=by omega
   have hRB:R=b0:=by rw[HZ.out (fun j hj=>HNO.out j (by rw[HLS.out]at hj;omega)),HB0.out]
   have HRB:=aa hRB;obtain⟨t1,t2⟩:=E0.out;clear hRB;go_wp2;go_ret;exact⟨by rw[HRB.out];rfl,rfl⟩
def lF(l:List Nd)(m:Nat):List Dc:=((l[m]?).map (·.ds)).getD []
theorem nz{l:List Nd}{m:Nat}(h:m<l.length):lF l m=l[m].ds:=by simp[lF,aw h]
def fU(ds:List Dc)(s:List UInt8):Option ByteArray:=(ds.find? (fun d=>decide (d.p.data.toList=s))).map (·.u)
def fL(l:List Nd)(n:Nat)(s:List UInt8):Option ByteArray :=
 if h:0<n then(fU (lF l n) s).or (if h2:0<=pa l n/\(pa l n).toNat<n then fL l (pa l n).toNat s else none)else none
termination_by n
decreasing_by exact h2.2
theorem ji(l:List Nd)(s:List UInt8):fL l 0 s=none:=by rw[fL,dif_neg (by omega)]
theorem jj{l:List Nd}{n p:Nat}(s:List UInt8)(h:0<n)(hp:pa l n=(p:Int))(hlt:p<n):fL l n s=(fU (lF l n) s).or (fL l p s):=by
 rw[fL,dif_pos h,dif_pos (by rw[hp];omega),hp];rfl
def ck(l:List Nd)(n:Nat)(p:ByteArray):ByteArray×Bool :=
 bif dZ p iA then(⟨mV.toArray⟩,true)else match fL l n p.data.toList with|some z=>(z,true)|none=>(⟨#[]⟩,dZ p [])
def Iu(w:World)(l:List Nd)(n:Nat)(s:List UInt8)(i:Value)(wr:World):Prop:=∃m:Nat,m<=n/\i=.int .i64 m/\fL l n s=fL l m s/\wr=w
def Iv(w:World)(ds:List Dc)(s:List UInt8)(i:Value)(wr:World):Prop:=∃k:Nat,k<=ds.length/\i=.int .i64 k/\(∀j (hj:j<ds.length),j<k->ds[j].p.data.toList≠s)/\wr=w
theorem yU{ds:List Dc}{s:List UInt8}{k:Nat}(hk:k<ds.length)(he:ds[k].p.data.toList=s)(hn:∀j (hj:j<ds.length),j<k->ds[j].p.data.toList≠s):fU ds s=some ds[k].u:=by
 induction ds generalizing k with
 |nil=>simp at hk
 |cons d r ih =>
  match k with
  |0=>simp only[List.getElem_cons_zero]at he ⊢;simp[fU,he]
  |k+1 =>
   have h0:=hn 0 (by simp) (by omega)
   simp only[List.getElem_cons_zero]at h0;have:=ih (k:=k) (by simpa using hk) (by simpa using he) (fun j hj hjk=>by have:=hn (j+1) (by simpa using hj) (by omega);rwa [List.getElem_cons_succ]at this)
   simp only[fU]at this;simp[fU,h0,this]
theorem np{ds:List Dc}{s:List UInt8}(hn:∀j (hj:j<ds.length),ds[j].p.data.toList≠s):fU ds s=none:=by
 unfold fU;rw[Option.map_eq_none_iff,List.find?_eq_none];intro d hd;obtain⟨j,hj,rfl⟩:=List.getElem_of_mem hd;simpa using hn j hj
theorem rq(l:List Nd)(v:Value)(n:Nat)(p:ByteArray)(w:World)(hv:eD w w.heap.size v l)(hn:n<l.length)(hlen:l.length<=2000000)(hh:fl l (n+1))(h0:pa l 0 = -1) :
 Calls Tryz.prog 41 #[v,.int .i64 (n:Int),.string p] w fun e w'=>e=.returned (.tuple #[.string (ck l n p).1,.bool (ck l n p).2])/\w'=w:=by
 obtain⟨bl,o,cap,rfl,hc1,hc2,hbB,hnd⟩:=hv.open (by intro h;subst h;simp at hn)
 have HCELL:Hid (∀k,k<l.length->w.cell? ⟨bl,o+k*8+1,none⟩=some (.int .i64 (pa l k))/\∃vd,w.cell? ⟨bl,o+k*8+6,none⟩=some vd/\gL w w.heap.size vd (lF l k)):=fun k hk=>by
  obtain⟨vd,va,_,d1,_,_,_,_,d6,_,hds,_⟩:=(hnd k hk).cells;rw[fS hk,nz hk];exact⟨d1,vd,d6,hds⟩
 have HPC:Hid (∀m,m<=n->(m=0/\pa l m = -1)∨∃p:Nat,pa l m=(p:Int)/\p<m):=fun m hm=>pD hh h0 hm;obtain⟨R,hR⟩ : ∃R,ck l n p=R:=⟨_,rfl⟩;rw[hR];have HR:=aa hR;obtain⟨q,hqE⟩ : ∃q,l.length=q:=⟨_,rfl⟩;rw[hqE]at hc1 hn hlen HCELL ⊢;obtain⟨b1,e1,E1⟩:=wQ p iA;obtain⟨b0,e0,E0⟩:=gv p;have HE1:=aa e1;have HE0:=aa e0
 have HRF:Hid (b1=false->∀z,fL l n p.data.toList=some z->R=(z,true)):=fun h z hz=>by
  rw[<-hR,ck,HE1.out,h,cond_false,hz]
 have HRN:Hid (b1=false->fL l n p.data.toList=none->R=(⟨#[]⟩,b0)):=fun h hz=>by
  rw[<-hR,ck,HE1.out,h,cond_false,hz,HE0.out]
 unfold iA at E1;have t1:=E1.out;clear hnd hv hqE hh h0 hR e1 e0;go_enter Tryz.func41,Tryz.ntmps41;cases b1 with
 |true =>
  have hRx:R=(⟨mV.toArray⟩,true):=by rw[<-HR.out,ck,HE1.out,cond_true]
  have HRX:=aa hRx;clear hRx;go_wp2
  go_ret2
  exact⟨by rw[HRX.out];rfl,rfl⟩
 |false =>
  go_wp2
  go_loopw [1] (Iu w l n p.data.toList) (fun i _=>(intOf i).toNat)
  case atStart=>exact⟨n,af _,rfl,rfl,rfl⟩
  case round =>
   obtain⟨m,hm,rfl,hE,rfl⟩:=hrel;have HE:=aa hE;clear hE;by_cases hm0:(m:Int)>0
   ·have hmq:m<q:=by omega
    obtain⟨d1,vd,d6,hds⟩:=HCELL.out m hmq;have HDS:=aa hds
    obtain⟨pp,hpE,hpl⟩ : ∃p:Nat,pa l m=(p:Int)/\p<m:=by
     rcases HPC.out m hm with⟨rfl,_⟩|h
     ·simp at hm0
     ·exact h
    have HST:Hid (fL l m p.data.toList=(fU (lF l m) p.data.toList).or (fL l pp p.data.toList)):=jj _ (by omega) hpE hpl
    rw[hpE]at d1;obtain⟨A1,c1,rfl,hdl,hdc,_⟩:=hds;obtain⟨nd,hndE⟩ : ∃x,(lF l m).length=x:=⟨_,rfl⟩;have HND:=aa hndE;rw[hndE]at d6 hdl;generalize lF l m=ds at *;clear hpE hndE;go_wp2
    go_loopw [19] (Iv wr ds p.data.toList) (fun i _=>nd-(intOf i).toNat)
    case atStart=>exact⟨0,aM _,rfl,fun j _ h=>by omega,rfl⟩
    case round =>
     obtain⟨k,hk,rfl,hno,rfl⟩:=hrel;rw[HND.out]at hk;have HNO:=aa hno;clear hno;by_cases hkn:k<nd
     ·have hkl:k<ds.length:=by rw[HND.out];exact hkn
      obtain⟨g,og,cg,rg,_,_,hgB,hgc⟩:=gL.open HDS.out (by omega)
      rw[HND.out]at rg;simp only[aK]at rg;obtain⟨rfl,-,rfl⟩:=rg;obtain⟨g1,g2⟩:=hgc k hkl;have hkz:(k:Int)<(nd:Int):=by omega
      have HFA:Hid (ds[k].p.data.toList=p.data.toList->fU ds p.data.toList=some ds[k].u):=fun h=>yU hkl h HNO.out;have HKL:=aa hkl;generalize hx:ds[k]=x at *;obtain⟨P,U⟩:=x;dsimp only at g1 g2 HFA;clear hgc;by_cases heq:P.data.toList=p.data.toList
      ·have hRz:R=(U,true):=HRF.out (by trivial) U (by rw[HE.out,HST.out,HFA.out heq];rfl)
       have HRZ:=aa hRz;have t2:(P.toList==p.toList)=true:=by rw[bc,aq,aq,heq]
       clear heq hRz hx;go_wp2
       go_ret2
       exact⟨by rw[HRZ.out];rfl,rfl⟩
      ·have t2:(P.toList==p.toList)=false:=by rw[ak,aq,aq];exact heq
       have HXX:=aa hx;have HNE:=aa heq;clear heq hx;go_wp2
       go_roundw
       case rel =>
        refine⟨k+1,HKL.out,by go_num,fun j hj hjk => ?_,rfl⟩
        rcases bU (cC hjk)with h|h
        ·exact HNO.out j hj h
        ·subst h
         have e:ds[j]=⟨P,U⟩:=HXX.out;exact fun h=>HNE.out ((congrArg (fun d:Dc=>d.p.data.toList) e).symm.trans h)
       case measure=>simp[intOf];omega
     ·have hkz:¬(k:Int)<(nd:Int):=by omega
      have HNN:Hid (fU ds p.data.toList=none):=np (fun j hj=>HNO.out j hj (by rw[HND.out]at hj;omega))
      go_wp2
      go_roundw
      case rel=>exact⟨pp,by omega,rfl,by rw[HE.out,HST.out,HNN.out];rfl,rfl⟩
      case measure=>simp[intOf];omega
   ·have hm0d:=ap hm0
    have hRz:R=(⟨#[]⟩,b0):=HRN.out (by trivial) (by rw[HE.out,show m=0 by omega,ji])
    have HRZ:=aa hRz;obtain⟨s1,s2⟩:=E0.out;clear hRz;go_wp2
    go_ret2
    exact⟨by rw[HRZ.out];rfl,rfl⟩
noncomputable def rk(l:List Nd)(n:Nat)(x:Nd):Bool :=
 (ck l n x.p).2&&(((ck l n x.p).1.toList==x.u.toList)&&(ic x.l&&((dZ x.p []||ic x.p)&&(!dZ x.p dy&&dZ x.t []))))
noncomputable def mK(l:List Nd)(n:Nat)(a:At):Bool :=
 (dZ a.p []||((ck l n a.p).2&&ic a.p))&&(((bif dZ a.p []then(⟨#[]⟩ : ByteArray)else(ck l n a.p).1).toList==a.u.toList)&&(ic a.l&&(!dZ a.p dy&&(!(dZ a.p []&&dZ a.l dy)&&tx a.v))))
structure lJ(l:List Nd)(n:Nat)(x:Nd):Prop where
 ds:∀k (hk:k<x.ds.length),eW x.ds[k]=true/\∀i (hi:i<x.ds.length),i<k->x.ds[i].p.data.toList≠x.ds[k].p.data.toList
 nm:rk l n x=true
 ats:∀k (hk:k<x.ats.length),mK l n x.ats[k]=true/\∀i (hi:i<x.ats.length),i<k->¬(x.ats[i].l.data.toList=x.ats[k].l.data.toList/\x.ats[i].u.data.toList=x.ats[k].u.data.toList)
open Classical in
noncomputable def mz(l:List Nd)(n:Nat)(x:Nd):Bool:=decide (lJ l n x)
open Classical in
theorem qc{l:List Nd}{n:Nat}{x:Nd}(h:¬lJ l n x):mz l n x=false:=by unfold mz;exact ap h
open Classical in
theorem rQ{l:List Nd}{n:Nat}{x:Nd}(h:lJ l n x):mz l n x=true:=by unfold mz;exact ax h
def IC(W:World)(ds:List Dc)(i:Value)(wr:World):Prop:=∃k:Nat,k<=ds.length/\i=.int .i64 k/\(∀j (hj:j<ds.length),j<k->eW ds[j]=true/\∀i (hi:i<ds.length),i<j->ds[i].p.data.toList≠ds[j].p.data.toList)/\Below W.heap.size W wr
def IE(W:World)(ds:List Dc)(P:List UInt8)(k:Nat)(i:Value)(wr:World):Prop:=∃j:Nat,j<=k/\i=.int .i64 j/\(∀i (hi:i<ds.length),i<j->ds[i].p.data.toList≠P)/\Below W.heap.size W wr
def IJ(W:World)(l:List Nd)(n:Nat)(as':List At)(i:Value)(wr:World):Prop:=∃k:Nat,k<=as'.length/\i=.int .i64 k/\(∀j (hj:j<as'.length),j<k->mK l n as'[j]=true/\∀i (hi:i<as'.length),i<j->¬(as'[i].l.data.toList=as'[j].l.data.toList/\as'[i].u.data.toList=as'[j].u.data.toList))/\Below W.heap.size W wr
def IK(W:World)(as':List At)(L U:List UInt8)(k:Nat)(i:Value)(wr:World):Prop:=∃j:Nat,j<=k/\i=.int .i64 j/\(∀i (hi:i<as'.length),i<j->¬(as'[i].l.data.toList=L/\as'[i].u.data.toList=U))/\Below W.heap.size W wr
theorem vR(l:List Nd)(v:Value)(n:Nat)(w:World)(hv:eD w w.heap.size v l)(hn:n<l.length)(hlen:l.length<=2000000)(hs:∀x∈l,Sm x)(hh:fl l (n+1))(h0:pa l 0 = -1) :
 Calls Tryz.prog 108 #[v,.int .i64 (n:Int)] w fun e w'=>e=.returned (.bool (mz l n l[n]))/\Below w.heap.size w w':=by
 have hsx:=hs _ (aJ hn);have HM:Hid (∀w' p,Below w.heap.size w w'->Calls Tryz.prog 41 #[v,.int .i64 (n:Int),.string p] w' fun e w''=>e=.returned (.tuple #[.string (ck l n p).1,.bool (ck l n p).2])/\w''=w'):=fun w' p hb=>rq l v n p w' (hv.later hb) hn hlen hh h0;obtain⟨bl,o,cap,rfl,hc1,hc2,hbB,hnd⟩:=hv.open (by intro h;subst h;simp at hn)
 obtain⟨vd,va,d0,d1,d2,d3,d4,d5,d6,d7,hds,has⟩:=(hnd n hn).cells;have HSX:=aa hsx;obtain⟨R,hR⟩ : ∃R,mz l n l[n]=R:=⟨_,rfl⟩;rw[hR];have HF:Hid (¬lJ l n l[n]->R=false):=fun h=>by rw[<-hR];exact qc h
 have HT:Hid (lJ l n l[n]->R=true):=fun h=>by rw[<-hR];exact rQ h
 have HDS:=aa hds;have HAS:=aa has;obtain⟨q,hqE⟩ : ∃q,l.length=q:=⟨_,rfl⟩;rw[hqE]at hc1 hn hlen HM ⊢;clear hnd hv hqE hh h0 hR hs hsx;generalize l[n]=x at *;obtain⟨A1,c1,rfl,hdl,hdc,_⟩:=hds;obtain⟨A2,c2,rfl,hal,hac,_⟩:=has;obtain⟨nd,hndE⟩ : ∃z,x.ds.length=z:=⟨_,rfl⟩;obtain⟨na,hnaE⟩ : ∃z,x.ats.length=z:=⟨_,rfl⟩;have HND:=aa hndE;have HNA:=aa hnaE;rw[hndE]at d6 hdl;rw[hnaE]at d7 hal;clear hndE hnaE;go_enter Tryz.func108,Tryz.ntmps108;go_wp2;obtain⟨W1,hW1⟩ : ∃W1,w.alloc (Obj.cells #[.int .i64 x.k,.int .i64 x.n,.string x.p,.string x.l,.string x.u,.string x.t,.slice A1 nd c1,.slice A2 na c2] 42)=W1:=⟨_,rfl⟩
 have HCX:Hid (∀wr,Below W1.heap.size W1 wr->wr.cell? ⟨w.heap.size,2,none⟩=some (.string x.p)/\wr.cell? ⟨w.heap.size,3,none⟩=some (.string x.l)/\wr.cell? ⟨w.heap.size,4,none⟩=some (.string x.u)/\wr.cell? ⟨w.heap.size,5,none⟩=some (.string x.t)/\wr.cell? ⟨w.heap.size,6,none⟩=some (.slice A1 nd c1)/\wr.cell? ⟨w.heap.size,7,none⟩=some (.slice A2 na c2)):=fun wr hb=>by
  rw[<-hW1]at hb;exact⟨aZ (j:=2) hb rfl,aZ (j:=3) hb rfl,aZ (j:=4) hb rfl,aZ (j:=5) hb rfl,aZ (j:=6) hb rfl,aZ (j:=7) hb rfl⟩
 have HB1:Hid (∀wr,Below W1.heap.size W1 wr->Below w.heap.size w wr):=fun wr hb=>by
  rw[<-hW1]at hb;exact bR hb
 rw[hW1];clear hW1 d0 d1 d2 d3 d4 d5 d6 d7
 go_loopw [22] (IC W1 x.ds) (fun i _=>nd-(intOf i).toNat)
 case atStart=>exact⟨0,aM _,rfl,fun j _ h=>by omega,ae _ _⟩
 case round =>
  obtain⟨k,hk,rfl,hno,hb⟩:=hrel;rw[HND.out]at hk;have HNO:=aa hno;have hbw:=HB1.out wr hb;obtain⟨c2,c3,c4,c5,c6,c7⟩:=HCX.out wr hb;clear hno;by_cases hkn:k<nd
  ·have hkl:k<x.ds.length:=by rw[HND.out];exact hkn
   have hkz:(k:Int)<(nd:Int):=by omega
   obtain⟨g,og,cg,rg,_,_,hgB,hgc⟩:=gL.open HDS.out (by omega)
   rw[HND.out]at rg;simp only[aK]at rg;obtain⟨rfl,-,rfl⟩:=rg;obtain⟨g1,g2⟩:=hgc k hkl;have HGC:=aa hgc;replace g1:=(hbw.cell (p:=⟨g,og+k*2,none⟩) hgB).trans g1;replace g2:=(hbw.cell (p:=⟨g,og+k*2+1,none⟩) hgB).trans g2;have hsd:=HSX.out.ds _ (aJ hkl);have HDC:=aa (zT x.ds[k] hsd.1 hsd.2 wr);have HKL:=aa hkl;generalize hy:x.ds[k]=y at *;obtain⟨P,U⟩:=y;dsimp only at g1 g2 HDC;have HY:=aa hy;generalize hB:eW ⟨P,U⟩=B at *;have HB:=aa hB;clear hgc hsd hy hB;cases B with
   |false =>
    go_wp2_with fail
    refine HDC.out.mono ?_;rintro e w2⟨rfl,hb2⟩;have hR0:R=false:=HF.out (fun h=>by exact Bool.false_ne_true (((congrArg eW HY.out).trans HB.out).symm.trans (h.ds k HKL.out).1))
    subst hR0;go_wp2;go_ret;exact⟨rfl,hbw.trans (hb2.mono hbw.size)⟩
   |true =>
    go_wp2_with fail
    refine HDC.out.mono ?_;rintro e w2⟨rfl,hb2⟩;have hb12:=hb.trans (hb2.mono hb.size);clear c2 c3 c4 c5 c6 c7 hb2 HDC g1 g2 hbw hb;go_wp2
    go_loopw [33] (IE W1 x.ds P.data.toList k) (fun i _=>k-(intOf i).toNat)
    case atStart=>exact⟨0,aM _,rfl,fun j _ h=>by omega,hb12⟩
    case round =>
     obtain⟨j,hj,rfl,hnj,hb⟩:=hrel;have HNJ:=aa hnj;have hbw:=HB1.out wr hb;obtain⟨c2,c3,c4,c5,c6,c7⟩:=HCX.out wr hb;clear hnj hb12;by_cases hjk:j<k
     ·have hjl:j<x.ds.length:=by have:=HKL.out;omega
      have hjz:(j:Int)<(k:Int):=by omega
      have hjn:(j:Int)<(nd:Int):=by omega
      obtain⟨g1,_⟩:=HGC.out j hjl;obtain⟨g2,_⟩:=HGC.out k HKL.out;replace g1:=(hbw.cell (p:=⟨g,og+j*2,none⟩) hgB).trans g1;replace g2:=(hbw.cell (p:=⟨g,og+k*2,none⟩) hgB).trans g2;have e2:x.ds[k].p=P:=by have e:=HY.out;exact congrArg Dc.p e
      replace g2:wr.cell? ⟨g,og+k*2,none⟩=some (.string P):=g2.trans (congrArg (fun z:ByteArray=>some (Value.string z)) e2);have HJL:=aa hjl;generalize hz:x.ds[j].p=Z at *;have HZ:=aa hz;have HE2:=aa e2;clear hz e2;by_cases heq:Z.data.toList=P.data.toList
      ·have t1:(Z.toList==P.toList)=true:=by rw[bc,aq,aq,heq]
       have HQ:=aa heq;have hR0:R=false:=HF.out (fun h=>(h.ds k HKL.out).2 j HJL.out hjk ((congrArg (fun z:ByteArray=>z.data.toList) HZ.out).trans (HQ.out.trans (congrArg (fun z:ByteArray=>z.data.toList) HE2.out).symm)));subst hR0;clear heq
       go_wp2_with fail
       go_quiet (fail)
       go_wp2;go_ret;exact⟨rfl,ay hbw _⟩
      ·have t1:(Z.toList==P.toList)=false:=by rw[ak,aq,aq];exact heq
       have HQ:=aa heq;clear heq
       go_wp2_with fail
       go_quiet (fail)
       go_wp2
       go_roundw
       case rel =>
        refine⟨j+1,hjk,by go_num,fun i hi hij => ?_,ay hb _⟩
        rcases bU (cC hij)with h|h
        ·exact HNJ.out i hi h
        ·subst h;exact fun e=>HQ.out ((congrArg (fun z:ByteArray=>z.data.toList) HZ.out).symm.trans e)
       case measure=>simp[intOf];omega
     ·have hjz:¬(j:Int)<(k:Int):=by omega
      have hjk':j=k:=by omega
      have HJK:=aa hjk';clear hjk' c2 c3 c4 c5 c6 c7;go_wp2
      go_roundw
      case rel =>
       refine⟨k+1,HKL.out,by go_num,fun i hi hik => ?_,hb⟩
       rcases bU (cC hik)with h|h
       ·exact HNO.out i hi h
       ·subst h
        exact⟨(congrArg eW HY.out).trans HB.out,fun i' hi' hii e=>HNJ.out i' hi' (by rw[HJK.out];exact hii) (e.trans (congrArg (fun d:Dc=>d.p.data.toList) HY.out))⟩
      case measure=>simp[intOf];omega
  ·have hkz:¬(k:Int)<(nd:Int):=by omega
   have HDN:Hid (∀j (hj:j<x.ds.length),eW x.ds[j]=true/\∀i (hi:i<x.ds.length),i<j->x.ds[i].p.data.toList≠x.ds[j].p.data.toList):=fun j hj=>HNO.out j hj (by rw[HND.out]at hj;omega)
   have HMX:=aa (HM.out wr x.p hbw);have HNF:Hid (rk l n x=false->R=false):=fun h=>HF.out (fun hh=>by have:=hh.nm;rw[h]at this;cases this)
   have HNX:Hid (rk l n x=((ck l n x.p).2&&(((ck l n x.p).1.toList==x.u.toList)&&(ic x.l&&((dZ x.p []||ic x.p)&&(!dZ x.p dy&&dZ x.t [])))))):=rfl;have HL0:=HSX.out.l;have HP0:=HSX.out.p;have HIL:Hid (∀w',Calls Tryz.prog 153 #[.string x.l] w' fun e w''=>e=.returned (.bool (ic x.l))/\Below w'.heap.size w' w''):=fun w'=>ia x.l HL0 w';have HIP:Hid (∀w',Calls Tryz.prog 153 #[.string x.p] w' fun e w''=>e=.returned (.bool (ic x.p))/\Below w'.heap.size w' w''):=fun w'=>ia x.p HP0 w';clear HNO HL0 HP0 hkn hk;obtain⟨m1,hm1⟩ : ∃m,(ck l n x.p).1=m:=⟨_,rfl⟩;obtain⟨m2,hm2⟩ : ∃m,(ck l n x.p).2=m:=⟨_,rfl⟩;rw[hm1,hm2]at HMX HNX;obtain⟨B1,hB1⟩ : ∃B,ic x.l=B:=⟨_,rfl⟩;obtain⟨B2,hB2⟩ : ∃B,ic x.p=B:=⟨_,rfl⟩;rw[hB1]at HIL HNX;rw[hB2]at HIP HNX;obtain⟨bu,hbu⟩ : ∃B,(m1.toList==x.u.toList)=B:=⟨_,rfl⟩;obtain⟨b0,e0,E0⟩:=gv x.p;obtain⟨bx,ex,EX⟩:=wQ x.p dy;obtain⟨bt,et,ET⟩:=gv x.t;rw[hbu,e0,ex,et]at HNX;unfold dy at EX;obtain⟨t1,t1'⟩:=E0.out;have t2:=EX.out;obtain⟨t3,t3'⟩:=ET.out;clear hm1 hm2 hB1 hB2 e0 ex et E0 EX ET
   go_wp2_with fail
   refine HMX.out.mono ?_;rintro e w2⟨rfl,hw⟩;rw[hw];clear hw HMX;obtain⟨TN,hTN⟩ : ∃T,(!rk l n x)=T:=⟨_,rfl⟩;have HTN:=aa hTN;clear hTN
   go_upto_region 15 with fail
   go_cut [93]from 59 to 94 (fun t wx=>t=.bool TN/\Below W1.heap.size W1 wx)
   case first =>
    cases m2 with
    |false =>
     go_wp2
     go_meet
     exact⟨by rw[<-HTN.out,HNX.out];rfl,hb⟩
    |true =>
     cases bu with
     |false =>
      go_wp2
      go_meet
      exact⟨by rw[<-HTN.out,HNX.out];rfl,hb⟩
     |true =>
      go_wp2_with fail
      refine(HIL.out wr).mono ?_;rintro e w3⟨rfl,hbq⟩;have hb3:=hb.trans (hbq.mono hb.size);clear hbq c2 c3 c4 c5 c6 c7;obtain⟨c2,c3,c4,c5,c6,c7⟩:=HCX.out w3 hb3;cases B1 with
      |false =>
       go_wp2
       go_meet
       exact⟨by rw[<-HTN.out,HNX.out];rfl,hb3⟩
      |true =>
       cases b0 with
       |true =>
        cases bx with
        |true =>
         go_wp2
         go_meet
         exact⟨by rw[<-HTN.out,HNX.out];rfl,hb3⟩
        |false =>
         cases bt with
         |false =>
          go_wp2
          go_meet
          exact⟨by rw[<-HTN.out,HNX.out];rfl,hb3⟩
         |true =>
          go_wp2
          go_meet
          exact⟨by rw[<-HTN.out,HNX.out];rfl,hb3⟩
       |false =>
        go_wp2_with fail
        refine(HIP.out w3).mono ?_;rintro e w4⟨rfl,hbq⟩;have hb4:=hb3.trans (hbq.mono hb3.size);clear hbq c2 c3 c4 c5 c6 c7;obtain⟨c2,c3,c4,c5,c6,c7⟩:=HCX.out w4 hb4;cases B2 with
        |false =>
         go_wp2
         go_meet
         exact⟨by rw[<-HTN.out,HNX.out];rfl,hb4⟩
        |true =>
         cases bx with
         |true =>
          go_wp2
          go_meet
          exact⟨by rw[<-HTN.out,HNX.out];rfl,hb4⟩
         |false =>
          cases bt with
          |false =>
           go_wp2
           go_meet
           exact⟨by rw[<-HTN.out,HNX.out];rfl,hb4⟩
          |true =>
           go_wp2
           go_meet
           exact⟨by rw[<-HTN.out,HNX.out];rfl,hb4⟩
   case rest =>
    obtain⟨rfl,hbc⟩:=hcut;clear hb hbw c2 c3 c4 c5 c6 c7 t1 t1' t2 t3 t3' HNX HIL HIP hkz;have hbw:=HB1.out wc hbc;cases TN with
    |true =>
     have hR0:R=false:=HNF.out (by have:=HTN.out;simpa using this)
     subst hR0;go_wp2;go_ret;exact⟨rfl,hbw⟩
    |false =>
     have hnm:rk l n x=true:=by have:=HTN.out;simpa using this
     have HNM:=aa hnm;obtain⟨c2,c3,c4,c5,c6,c7⟩:=HCX.out wc hbc;clear hnm HNF;go_wp2
     go_loopw [97] (IJ W1 l n x.ats) (fun i _=>na-(intOf i).toNat)
     case atStart=>exact⟨0,aM _,rfl,fun j _ h=>by omega,hbc⟩
     case round =>
      clear hbc hbw c2 c3 c4 c5 c6 c7;obtain⟨k,hk,rfl,hno,hb⟩:=hrel;rw[HNA.out]at hk;have HNO:=aa hno;have hbw:=HB1.out wr hb;obtain⟨c2,c3,c4,c5,c6,c7⟩:=HCX.out wr hb;clear hno;by_cases hkn:k<na
      ·have hkl:k<x.ats.length:=by rw[HNA.out];exact hkn
       have hkz:(k:Int)<(na:Int):=by omega
       obtain⟨g,og,cg,rg,_,_,hgB,hgc⟩:=kE.open HAS.out (by omega)
       rw[HNA.out]at rg;simp only[aK]at rg;obtain⟨rfl,-,rfl⟩:=rg;obtain⟨g0,g1,g2,g3⟩:=hgc k hkl;have HGC:=aa hgc;replace g0:=(hbw.cell (p:=⟨g,og+k*4,none⟩) hgB).trans g0;replace g1:=(hbw.cell (p:=⟨g,og+k*4+1,none⟩) hgB).trans g1;replace g2:=(hbw.cell (p:=⟨g,og+k*4+2,none⟩) hgB).trans g2;replace g3:=(hbw.cell (p:=⟨g,og+k*4+3,none⟩) hgB).trans g3;have hsa:=HSX.out.ats _ (aJ hkl);have HKL:=aa hkl;generalize hy:x.ats[k]=y at *;obtain⟨P,Lo,U,V⟩:=y;dsimp only at g0 g1 g2 g3 hsa;have HY:=aa hy;obtain⟨sP,sL,sU,sV⟩:=hsa;have HIL:Hid (∀w',Calls Tryz.prog 153 #[.string Lo] w' fun e w''=>e=.returned (.bool (ic Lo))/\Below w'.heap.size w' w''):=fun w'=>ia Lo sL w';have HIP:Hid (∀w',Calls Tryz.prog 153 #[.string P] w' fun e w''=>e=.returned (.bool (ic P))/\Below w'.heap.size w' w''):=fun w'=>ia P sP w';have HTV:Hid (∀w',Calls Tryz.prog 154 #[.string V] w' fun e w''=>e=.returned (.bool (tx V))/\Below w'.heap.size w' w''):=fun w'=>jC V sV w';have HMP:Hid (∀w',Below w.heap.size w w'->Calls Tryz.prog 41 #[.slice (some ⟨bl,o,none⟩) q cap,.int .i64 (n:Int),.string P] w' fun e w''=>e=.returned (.tuple #[.string (ck l n P).1,.bool (ck l n P).2])/\w''=w'):=fun w' hb=>HM.out w' P hb;have HAX:Hid (mK l n ⟨P,Lo,U,V⟩=((dZ P []||((ck l n P).2&&ic P))&&(((bif dZ P []then(⟨#[]⟩ : ByteArray)else(ck l n P).1).toList==U.toList)&&(ic Lo&&(!dZ P dy&&(!(dZ P []&&dZ Lo dy)&&tx V)))))):=rfl;obtain⟨AR,hAR⟩ : ∃A,mK l n ⟨P,Lo,U,V⟩=A:=⟨_,rfl⟩;have HAR:=aa hAR;rw[hAR]at HAX;obtain⟨m1,hm1⟩ : ∃m,(ck l n P).1=m:=⟨_,rfl⟩;obtain⟨m2,hm2⟩ : ∃m,(ck l n P).2=m:=⟨_,rfl⟩;rw[hm1,hm2]at HMP HAX;generalize ic Lo=B1 at *;generalize ic P=B2 at *;generalize tx V=B3 at *;obtain⟨b0,e0,E0⟩:=gv P;obtain⟨bx,ex,EX⟩:=wQ P dy;obtain⟨bl',el,EL⟩:=wQ Lo dy;rw[e0,ex,el]at HAX;unfold dy at EX EL;obtain⟨t1,t1'⟩:=E0.out;have t2:=EX.out;have t3:=EL.out;clear hgc hy hm1 hm2 e0 ex el E0 EX EL hAR sP sL sU sV
       go_upto_if 107 with fail
       obtain⟨W2,hW2⟩ : ∃W2,wr.alloc (Obj.cells #[.string P,.string Lo,.string U,.string V] 73)=W2:=⟨_,rfl⟩
       have HCA:Hid (∀wx,Below W2.heap.size W2 wx->wx.cell? ⟨wr.heap.size,0,none⟩=some (.string P)/\wx.cell? ⟨wr.heap.size,1,none⟩=some (.string Lo)/\wx.cell? ⟨wr.heap.size,2,none⟩=some (.string U)/\wx.cell? ⟨wr.heap.size,3,none⟩=some (.string V)):=fun wx hb=>by
        rw[<-hW2]at hb;exact⟨aZ (j:=0) hb rfl,aZ (j:=1) hb rfl,aZ (j:=2) hb rfl,aZ (j:=3) hb rfl⟩
       have HB2:Hid (∀wx,Below W2.heap.size W2 wx->Below W1.heap.size W1 wx):=fun wx hb'=>by
        rw[<-hW2]at hb';exact hb.trans ((bR hb').mono hb.size)
       rw[hW2];clear hW2 g0 g1 g2 g3 c2 c3 c4 c5 c6 c7;have hr2:=ae W2.heap.size W2;obtain⟨a0,a1,a2,a3⟩:=HCA.out W2 hr2
       go_cut [12,13]from 108 to 122 (fun u ok wx=>u=.string (bif b0 then⟨#[]⟩else m1)/\ok=.bool (b0||(m2&&B2))/\Below W2.heap.size W2 wx)
       case first =>
        cases b0 with
        |true =>
         go_wp2
         go_meet
         exact⟨rfl,rfl,hr2⟩
        |false =>
         go_wp2_with fail
         refine(HMP.out W2 (HB1.out _ (HB2.out _ hr2))).mono ?_;rintro e w2⟨rfl,hw⟩;rw[hw];clear hw;cases m2 with
         |false =>
          go_wp2
          go_meet
          exact⟨rfl,rfl,hr2⟩
         |true =>
          go_wp2_with fail
          refine(HIP.out W2).mono ?_;rintro e w3⟨rfl,hbq⟩;have hb3:=hr2.trans (hbq.mono hr2.size);clear hbq a0 a1 a2 a3;obtain⟨a0,a1,a2,a3⟩:=HCA.out w3 hb3;go_wp2
          go_meet
          exact⟨rfl,rfl,hb3⟩
       case rest =>
        obtain⟨rfl,rfl,hbc⟩:=hcut;clear a0 a1 a2 a3 hr2 HMP HIP;obtain⟨a0,a1,a2,a3⟩:=HCA.out wc hbc;generalize (bif b0 then(⟨#[]⟩ : ByteArray)else m1)=U0 at *;generalize (b0||(m2&&B2))=K0 at *;obtain⟨bu,hbu⟩ : ∃B,(U0.toList==U.toList)=B:=⟨_,rfl⟩;rw[hbu]at HAX;obtain⟨TT,hTT⟩ : ∃T,(!AR)=T:=⟨_,rfl⟩;have HTT:=aa hTT;clear hTT
        go_upto_region 25 with fail
        go_cut [156]from 122 to 157 (fun t wx=>t=.bool TT/\Below W2.heap.size W2 wx)
        case first =>
         cases K0 with
         |false =>
          go_wp2
          go_meet
          exact⟨by rw[<-HTT.out,HAX.out];rfl,hbc⟩
         |true =>
          cases bu with
          |false =>
           go_wp2
           go_meet
           exact⟨by rw[<-HTT.out,HAX.out];rfl,hbc⟩
          |true =>
           go_wp2_with fail
           refine(HIL.out wc).mono ?_;rintro e w3⟨rfl,hbq⟩;have hb3:=hbc.trans (hbq.mono hbc.size);clear hbq a0 a1 a2 a3;obtain⟨a0,a1,a2,a3⟩:=HCA.out w3 hb3;cases B1 with
           |false =>
            go_wp2
            go_meet
            exact⟨by rw[<-HTT.out,HAX.out];rfl,hb3⟩
           |true =>
            cases bx with
            |true =>
             go_wp2
             go_meet
             exact⟨by rw[<-HTT.out,HAX.out];rfl,hb3⟩
            |false =>
             cases b0 with
             |false =>
              go_wp2_with fail
              refine(HTV.out w3).mono ?_;rintro e w4⟨rfl,hbq⟩;have hb4:=hb3.trans (hbq.mono hb3.size);clear hbq a0 a1 a2 a3;obtain⟨a0,a1,a2,a3⟩:=HCA.out w4 hb4;cases B3 with
              |false =>
               go_wp2
               go_meet
               exact⟨by rw[<-HTT.out,HAX.out];rfl,hb4⟩
              |true =>
               go_wp2
               go_meet
               exact⟨by rw[<-HTT.out,HAX.out];rfl,hb4⟩
             |true =>
              cases bl' with
              |true =>
               go_wp2
               go_meet
               exact⟨by rw[<-HTT.out,HAX.out];rfl,hb3⟩
              |false =>
               go_wp2_with fail
               refine(HTV.out w3).mono ?_;rintro e w4⟨rfl,hbq⟩;have hb4:=hb3.trans (hbq.mono hb3.size);clear hbq a0 a1 a2 a3;obtain⟨a0,a1,a2,a3⟩:=HCA.out w4 hb4;cases B3 with
               |false =>
                go_wp2
                go_meet
                exact⟨by rw[<-HTT.out,HAX.out];rfl,hb4⟩
               |true =>
                go_wp2
                go_meet
                exact⟨by rw[<-HTT.out,HAX.out];rfl,hb4⟩
        case rest =>
         obtain⟨rfl,hbd⟩:=hcut;clear a0 a1 a2 a3 hbc HAX HTV HIL t1 t1' t2 t3 hbu hbw hb hkz;cases TT with
         |true =>
          have hAR0:AR=false:=by have:=HTT.out;simpa using this
          have hR0:R=false:=HF.out (fun h=>Bool.false_ne_true ((((congrArg (mK l n) HY.out).trans HAR.out).trans hAR0).symm.trans (h.ats k HKL.out).1));subst hR0;go_wp2;go_ret;exact⟨rfl,HB1.out _ (HB2.out _ hbd)⟩
         |false =>
          have hAR1:AR=true:=by have:=HTT.out;simpa using this
          have HAR1:Hid (mK l n ⟨P,Lo,U,V⟩=true):=by rw[<-hAR1];exact HAR
          clear hAR1;go_wp2
          go_loopw [158] (IK W2 x.ats Lo.data.toList U.data.toList k) (fun i _=>k-(intOf i).toNat)
          case atStart=>exact⟨0,aM _,rfl,fun j _ h=>by omega,hbd⟩
          case round =>
           clear hbd;obtain⟨j,hj,rfl,hnj,hbj⟩:=hrel;have HNJ:=aa hnj;have hb:=HB2.out _ hbj;have hbw:=HB1.out _ hb;obtain⟨c2,c3,c4,c5,c6,c7⟩:=HCX.out _ hb;obtain⟨a0,a1,a2,a3⟩:=HCA.out _ hbj;clear hnj;by_cases hjk:j<k
           ·have hjl:j<x.ats.length:=by have:=HKL.out;omega
            have hjz:(j:Int)<(k:Int):=by omega
            have hjn:(j:Int)<(na:Int):=by omega
            obtain⟨_,g1,g2,_⟩:=HGC.out j hjl;replace g1:=(hbw.cell (p:=⟨g,og+j*4+1,none⟩) hgB).trans g1;replace g2:=(hbw.cell (p:=⟨g,og+j*4+2,none⟩) hgB).trans g2;have HJL:=aa hjl;generalize hz:x.ats[j]=Z at *;have HZ:=aa hz;obtain⟨Zp,Zl,Zu,Zv⟩:=Z;dsimp only at g1 g2;clear hz
            have HNX2:Hid (¬(Zl.data.toList=Lo.data.toList/\Zu.data.toList=U.data.toList)->∀i (hi:i<x.ats.length),i<j+1->¬(x.ats[i].l.data.toList=Lo.data.toList/\x.ats[i].u.data.toList=U.data.toList)):=fun hq i hi hij=>by
             rcases bU (cC hij)with h|h
             ·exact HNJ.out i hi h
             ·subst h;exact fun e=>hq ⟨(congrArg (fun a:At=>a.l.data.toList) HZ.out).symm.trans e.1,(congrArg (fun a:At=>a.u.data.toList) HZ.out).symm.trans e.2⟩
            by_cases h1:Zl.data.toList=Lo.data.toList
            ·have s1:(Zl.toList==Lo.toList)=true:=by rw[bc,aq,aq,h1]
             by_cases h2:Zu.data.toList=U.data.toList
             ·have s2:(Zu.toList==U.toList)=true:=by rw[bc,aq,aq,h2]
              have H1:=aa h1;have H2:=aa h2;have hR0:R=false:=HF.out (fun h=>(h.ats k HKL.out).2 j HJL.out hjk ⟨(congrArg (fun a:At=>a.l.data.toList) HZ.out).trans (H1.out.trans (congrArg (fun a:At=>a.l.data.toList) HY.out).symm),(congrArg (fun a:At=>a.u.data.toList) HZ.out).trans (H2.out.trans (congrArg (fun a:At=>a.u.data.toList) HY.out).symm)⟩);subst hR0;clear h1 h2
              go_wp2_with fail
              go_quiet (fail)
              go_wp2;go_ret;exact⟨rfl,ay hbw _⟩
             ·have s2:(Zu.toList==U.toList)=false:=by rw[ak,aq,aq];exact h2
              have HN2:=aa (HNX2.out (fun h=>h2 h.2));clear h1 h2
              go_wp2_with fail
              go_quiet (fail)
              go_wp2
              go_roundw
              case rel=>exact⟨j+1,hjk,by go_num,HN2.out,ay hbj _⟩
              case measure=>simp[intOf];omega
            ·have s1:(Zl.toList==Lo.toList)=false:=by rw[ak,aq,aq];exact h1
             have HN2:=aa (HNX2.out (fun h=>h1 h.1));clear h1
             go_wp2_with fail
             go_quiet (fail)
             go_wp2
             go_roundw
             case rel=>exact⟨j+1,hjk,by go_num,HN2.out,ay hbj _⟩
             case measure=>simp[intOf];omega
           ·have hjz:¬(j:Int)<(k:Int):=by omega
            have hjk':j=k:=by omega
            have HJK:=aa hjk';clear hjk' c2 c3 c4 c5 c6 c7 a0 a1 a2 a3;go_wp2
            go_roundw
            case rel =>
             refine⟨k+1,HKL.out,by go_num,fun i hi hik => ?_,hb⟩
             rcases bU (cC hik)with h|h
             ·exact HNO.out i hi h
             ·subst h
              exact⟨(congrArg (mK l n) HY.out).trans HAR1.out,fun i' hi' hii e=>HNJ.out i' hi' (by rw[HJK.out];exact hii) ⟨e.1.trans (congrArg (fun a:At=>a.l.data.toList) HY.out),e.2.trans (congrArg (fun a:At=>a.u.data.toList) HY.out)⟩⟩
            case measure=>simp[intOf];omega
      ·have hkz:¬(k:Int)<(na:Int):=by omega
       have hR1:R=true:=HT.out ⟨HDN.out,HNM.out,fun j hj=>HNO.out j hj (by rw[HNA.out]at hj;omega)⟩
       subst hR1;go_wp2;go_ret;exact⟨rfl,hbw⟩
def vq(S:ByteArray):Bool:=match S.data.toList.getLast? with|some c=>(c.toNat:Int)==45|none=>false
def lL(c:UInt8)(a b:Int):Bool:=((c.toNat:Int)==a)||((c.toNat:Int)==b)
def jT(S:ByteArray):Bool:=match S.data.toList with | [a,b,c]=>lL a 120 88&&(lL b 109 77&&lL c 108 76)|_=>false
noncomputable def im(l:List Nd)(n:Nat)(x:Nd):Bool :=
 d9 x&&(tx x.t&&(bif x.k==2 then dZ x.l []&&(!dZ x.t []&&(!(x.n==0)&&(decide (dN l n n<0) || !(kd l (dN l n n).toNat==2))))
 else bif x.k==3 then dZ x.l []&&(!jg x.t.data.toList [45,45]&&(dZ x.t [] || !vq x.t))
 else bif x.k==4 then ic x.l&&(!jT x.l&&(!jg x.t.data.toList [63,62]&&(dZ x.t [] || !fb x.t)))else false))
theorem kv(l:List Nd)(n:Nat):∀k,dN l n k = -1∨∃m:Nat,dN l n k=(m:Int)/\m<k
 |0 => .inl rfl
 |k+1=>by
  rw[dN]
  split
  ·exact .inr ⟨k,rfl,by omega⟩
  ·rcases kv l n k with h|⟨m,h,hm⟩
   ·exact .inl h
   ·exact .inr ⟨m,h,by omega⟩
theorem mj(S:ByteArray){k:Nat}{c:UInt8}(h:S.data.toList[k]? = some c)(w:World):(Instr.index 9 (.string S) (.int .i64 (k:Int))).run Tryz.prog w=.ok (.int .u8 (c.toNat:Int)) w:=by
 obtain⟨hk,he⟩:=bh.1 h;have h1:=cz S hk w;rw[he]at h1;exact h1
theorem E7{S:ByteArray}(h:dZ S []=false):∃c,vq S=((c.toNat:Int)==45)/\0<S.size/\S.data.toList[S.size-1]? = some c:=by
 have hne:S.data.toList≠[]:=fun e=>by
  have:=gi.2 e;rw[h]at this;cases this
 have h0:0<S.size:=by rw[aF];exact bO.2 hne
 have hl:S.size-1<S.data.toList.length:=by rw[<-aF];omega
 refine⟨_,?_,h0,aw hl⟩;unfold vq;rw[List.getLast?_eq_getElem?,<-aF,aw hl]
theorem B9{S:ByteArray}(h:S.size=3):∃a b c,jT S=(lL a 120 88&&(lL b 109 77&&lL c 108 76))/\S.data.toList[0]? = some a/\S.data.toList[1]? = some b/\S.data.toList[2]? = some c:=by
 have hl:S.data.toList.length=3:=by rw[<-aF];exact h
 match hs:S.data.toList,hl with
 | [a,b,c],_ =>
  exact⟨a,b,c,by unfold jT;rw[hs],rfl,rfl,rfl⟩
theorem zH{S:ByteArray}(h:S.size≠3):jT S=false:=by
 unfold jT
 split
 ·rename_i a b c hs
  exact absurd (by rw[aF,hs];rfl) h
 ·rfl
theorem z8(l:List Nd)(v:Value)(n:Nat)(w:World)(hv:eD w w.heap.size v l)(hn:n<l.length)(hlen:l.length<=2000000)(hs:∀x∈l,Sm x) :
 Calls Tryz.prog 109 #[v,.int .i64 (n:Int)] w fun e w'=>e=.returned (.bool (im l n l[n]))/\Below w.heap.size w w':=by
 have hsx:=hs _ (aJ hn);have HAH:Hid (∀w',Below w.heap.size w w'->Calls Tryz.prog 155 #[v,.int .i64 (n:Int)] w' fun e w''=>e=.returned (.int .i64 (dN l n n))/\Below w'.heap.size w' w''):=fun w' hb=>BD l v n w' (hv.later hb) hn hlen;have HAC:=aa (kv l n n);obtain⟨bl,o,cap,rfl,hc1,hc2,hbB,hnd⟩:=hv.open (by intro h;subst h;simp at hn)
 have HKD:Hid (∀k,k<l.length->w.cell? ⟨bl,o+k*8,none⟩=some (.int .i64 (kd l k))):=fun k hk=>by
  obtain⟨vd,va,d0,_⟩:=(hnd k hk).cells;rw[jN hk];exact d0
 obtain⟨vd,va,d0,d1,d2,d3,d4,d5,d6,d7,hds,has⟩:=(hnd n hn).cells;have HBR:Hid (∀w',Below w.heap.size w w'->Calls Tryz.prog 106 #[.agg #[.int .i64 l[n].k,.int .i64 l[n].n,.string l[n].p,.string l[n].l,.string l[n].u,.string l[n].t,vd,va]] w' fun e w''=>e=.returned (.bool (d9 l[n]))/\Below w'.heap.size w' w''):=fun w' hb=>re l[n] _ w' (nH.later ⟨vd,va,rfl,hds,has⟩ hb);have st:=hsx.t;have sl:=hsx.l;have HTX:Hid (∀w',Calls Tryz.prog 154 #[.string l[n].t] w' fun e w''=>e=.returned (.bool (tx l[n].t))/\Below w'.heap.size w' w''):=fun w'=>jC _ st w';have HH1:Hid (∀w',Calls Tryz.prog 156 #[.string l[n].t,.string ⟨#[45,45]⟩] w' fun e w''=>e=.returned (.bool (jg l[n].t.data.toList [45,45]))/\w''=w'):=fun w'=>yT _ ⟨#[45,45]⟩ w' st (by show(2:Nat)<=_;omega)
 have HH2:Hid (∀w',Calls Tryz.prog 156 #[.string l[n].t,.string ⟨#[63,62]⟩] w' fun e w''=>e=.returned (.bool (jg l[n].t.data.toList [63,62]))/\w''=w'):=fun w'=>yT _ ⟨#[63,62]⟩ w' st (by show(2:Nat)<=_;omega)
 have HIS:Hid (∀w',Calls Tryz.prog 153 #[.string l[n].l] w' fun e w''=>e=.returned (.bool (ic l[n].l))/\Below w'.heap.size w' w''):=fun w'=>ia _ sl w'
 have HX:Hid (im l n l[n]=(d9 l[n]&&(tx l[n].t&&(bif l[n].k==2 then dZ l[n].l []&&(!dZ l[n].t []&&(!(l[n].n==0)&&(decide (dN l n n<0) || !(kd l (dN l n n).toNat==2))))
  else bif l[n].k==3 then dZ l[n].l []&&(!jg l[n].t.data.toList [45,45]&&(dZ l[n].t [] || !vq l[n].t))
  else bif l[n].k==4 then ic l[n].l&&(!jT l[n].l&&(!jg l[n].t.data.toList [63,62]&&(dZ l[n].t [] || !fb l[n].t)))else false)))):=rfl
 obtain⟨R,hR⟩ : ∃R,im l n l[n]=R:=⟨_,rfl⟩;rw[hR]at HX ⊢;obtain⟨q,hqE⟩ : ∃q,l.length=q:=⟨_,rfl⟩;rw[hqE]at hc1 hn hlen HAH HKD ⊢;obtain⟨A1,c1,rfl,-⟩:=hds;obtain⟨A2,c2,rfl,-⟩:=has;generalize dN l n n=ah at *;clear hnd hv hqE hR hs hsx;generalize l[n]=x at *;generalize d9 x=Bb at *;generalize tx x.t=Bt at *;generalize jg x.t.data.toList [45,45]=Bh at *;generalize jg x.t.data.toList [63,62]=Bq at *;generalize ic x.l=Bn at *;obtain⟨k2,f2,K2⟩:=i3 x.k 2;obtain⟨k3,f3,K3⟩:=i3 x.k 3;obtain⟨k4,f4,K4⟩:=i3 x.k 4;obtain⟨z0,fz,Z0⟩:=i3 x.n 0;obtain⟨bl0,el,EL⟩:=gv x.l;obtain⟨bt0,et,ET⟩:=gv x.t;rw[f2,f3,f4,fz,el,et]at HX;have HEL:=aa el;have HET:=aa et;have s2:=K2.out;have s3:=K3.out;have s4:=K4.out;have sz:(x.n != 0) = !z0:=by have:=Z0.out;simp[bne,this]
 obtain⟨t1,t1'⟩:=EL.out;obtain⟨t2,t2'⟩:=ET.out;obtain⟨P,hP⟩ : ∃P,x.p=P:=⟨_,rfl⟩;clear f2 f3 f4 fz el et K2 K3 K4 Z0 EL ET hP;obtain⟨W1,hW1⟩ : ∃W1,w.alloc (Obj.cells #[.int .i64 x.k,.int .i64 x.n,.string x.p,.string x.l,.string x.u,.string x.t,.slice A1 x.ds.length c1,.slice A2 x.ats.length c2] 42)=W1:=⟨_,rfl⟩
 have HCX:Hid (∀wr,Below W1.heap.size W1 wr->wr.cell? ⟨w.heap.size,0,none⟩=some (.int .i64 x.k)/\wr.cell? ⟨w.heap.size,1,none⟩=some (.int .i64 x.n)/\wr.cell? ⟨w.heap.size,2,none⟩=some (.string x.p)/\wr.cell? ⟨w.heap.size,3,none⟩=some (.string x.l)/\wr.cell? ⟨w.heap.size,4,none⟩=some (.string x.u)/\wr.cell? ⟨w.heap.size,5,none⟩=some (.string x.t)/\wr.cell? ⟨w.heap.size,6,none⟩=some (.slice A1 x.ds.length c1)/\wr.cell? ⟨w.heap.size,7,none⟩=some (.slice A2 x.ats.length c2)):=fun wr hb=>by
  rw[<-hW1]at hb;exact⟨aZ (j:=0) hb rfl,aZ (j:=1) hb rfl,aZ (j:=2) hb rfl,aZ (j:=3) hb rfl,aZ (j:=4) hb rfl,aZ (j:=5) hb rfl,aZ (j:=6) hb rfl,aZ (j:=7) hb rfl⟩
 have HB1:Hid (∀wr,Below W1.heap.size W1 wr->Below w.heap.size w wr):=fun wr hb=>by
  rw[<-hW1]at hb;exact bR hb
 have hr1:=ae W1.heap.size W1;have HW1:=aa hW1;clear hW1;go_enter Tryz.func109,Tryz.ntmps109
 go_upto_region 2 with fail
 rw[HW1.out];clear HW1 d0 d1 d2 d3 d4 d5 d6 d7;obtain⟨b0,b1,b2,b3,b4,b5,b6,b7⟩:=HCX.out W1 hr1
 go_wp2_with fail
 refine(HBR.out W1 (HB1.out W1 hr1)).mono ?_;rintro e w2⟨rfl,hbq⟩;have h2:=hr1.trans (hbq.mono hr1.size);clear hbq;clear b0 b1 b2 b3 b4 b5 b6 b7;obtain⟨b0,b1,b2,b3,b4,b5,b6,b7⟩:=HCX.out w2 h2;cases Bb with
 |true =>
  go_wp2_with fail
  refine(HTX.out w2).mono ?_;rintro e w3⟨rfl,hbq⟩;have h3:=h2.trans (hbq.mono h2.size);clear hbq;clear b0 b1 b2 b3 b4 b5 b6 b7;obtain⟨b0,b1,b2,b3,b4,b5,b6,b7⟩:=HCX.out w3 h3;cases Bt with
  |true =>
   cases k2 with
   |true =>
    go_wp2_with fail
    refine(HAH.out w3 (HB1.out w3 h3)).mono ?_;rintro e w4⟨rfl,hbq⟩;have h4:=h3.trans (hbq.mono h3.size);clear hbq;clear b0 b1 b2 b3 b4 b5 b6 b7;obtain⟨b0,b1,b2,b3,b4,b5,b6,b7⟩:=HCX.out w4 h4;cases bl0 with
    |true =>
     cases bt0 with
     |true =>
      go_wp2;go_ret;exact⟨by rw[HX.out];rfl,HB1.out w4 h4⟩
     |false =>
      cases z0 with
      |true =>
       go_wp2;go_ret;exact⟨by rw[HX.out];rfl,HB1.out w4 h4⟩
      |false =>
       rcases HAC.out with rfl|⟨m,rfl,hm⟩
       ·have HX2:Hid (R=true):=by show _=_;rw[HX.out];simp
        go_wp2;go_ret;exact⟨by rw[HX2.out];rfl,HB1.out w4 h4⟩
       ·have hmq:m<q:=by omega
        have hm0:¬(m:Int)<0:=by omega
        have hm0d:=ap hm0;have g0:=((HB1.out w4 h4).cell (p:=⟨bl,o+m*8,none⟩) hbB).trans (HKD.out m hmq);have HX2:Hid (R = !(kd l m==2)):=by show _=_;rw[HX.out,hm0d,cN];rfl
        obtain⟨kk,fk,KK⟩:=i3 (kd l m) 2;rw[fk]at HX2;have sk:(kd l m != 2) = !kk:=by have:=KK.out;simp[bne,this]
        clear fk KK hm;generalize kd l m=y at *;cases kk with
        |true =>
         go_wp2;go_ret;exact⟨by rw[HX2.out];rfl,HB1.out w4 h4⟩
        |false =>
         go_wp2;go_ret;exact⟨by rw[HX2.out];rfl,HB1.out w4 h4⟩
    |false =>
     go_wp2;go_ret;exact⟨by rw[HX.out];rfl,HB1.out w4 h4⟩
   |false =>
    cases k3 with
    |true =>
     cases bl0 with
     |true =>
      go_wp2_with fail
      refine(HH1.out w3).mono ?_;rintro e wq⟨rfl,hw⟩;rw[hw];clear hw;cases Bh with
      |true =>
       go_wp2;go_ret;exact⟨by rw[HX.out];rfl,HB1.out w3 h3⟩
      |false =>
       cases bt0 with
       |true =>
        go_wp2;go_ret;exact⟨by rw[HX.out];rfl,HB1.out w3 h3⟩
       |false =>
        obtain⟨cc,hcc,hsz,hix⟩:=E7 HET.out;rw[hcc]at HX;have hsz1:((x.t.size:Int)-1)=((x.t.size-1:Nat):Int):=by omega
        have hszl:x.t.size-1<x.t.size:=by omega
        have hind:∀w,(Instr.index 9 (.string x.t) (.int .i64 ((x.t.size:Int)-1))).run Tryz.prog w=.ok (.int .u8 (cc.toNat:Int)) w:=fun w=>by rw[hsz1];exact mj x.t hix w
        obtain⟨kk,fk,KK⟩:=i3 (cc.toNat:Int) 45;rw[fk]at HX;have sk:(((cc.toNat:Int)) != 45) = !kk:=by have:=KK.out;simp[bne,this]
        clear fk KK hcc hix hsz1;cases kk with
        |true =>
         go_wp2;go_ret;exact⟨by rw[HX.out];rfl,HB1.out w3 h3⟩
        |false =>
         go_wp2;go_ret;exact⟨by rw[HX.out];rfl,HB1.out w3 h3⟩
     |false =>
      go_wp2;go_ret;exact⟨by rw[HX.out];rfl,HB1.out w3 h3⟩
    |false =>
     cases k4 with
     |true =>
      obtain⟨XM,hXM⟩ : ∃X,jT x.l=X:=⟨_,rfl⟩;rw[hXM]at HX;have HXM:=aa hXM;clear hXM
      go_upto_region 12 with fail
      go_cut [8]from 84 to 117 (fun t wx=>t=.bool XM/\wx=w3)
      case first =>
       by_cases h3':x.l.size=3
       ·obtain⟨ca,cb,cc,hxm,i0,i1,i2⟩:=B9 h3'
        have h3z:(x.l.size:Int)=3:=by omega
        have hi0:∀w,(Instr.index 9 (.string x.l) (.int .i64 0)).run Tryz.prog w=.ok (.int .u8 (ca.toNat:Int)) w:=fun w=>mj (k:=0) x.l i0 w;have hi1:∀w,(Instr.index 9 (.string x.l) (.int .i64 1)).run Tryz.prog w=.ok (.int .u8 (cb.toNat:Int)) w:=fun w=>mj (k:=1) x.l i1 w;have hi2:∀w,(Instr.index 9 (.string x.l) (.int .i64 2)).run Tryz.prog w=.ok (.int .u8 (cc.toNat:Int)) w:=fun w=>mj (k:=2) x.l i2 w;obtain⟨u0a,fu,U0a⟩:=i3 (ca.toNat:Int) 120;obtain⟨u0b,fv,U0b⟩:=i3 (ca.toNat:Int) 88;have q0a:=U0a.out;have q0b:=U0b.out;have x0:lL ca 120 88=(u0a||u0b):=by unfold lL;rw[fu,fv]
        clear fu fv U0a U0b;obtain⟨u1a,fu,U1a⟩:=i3 (cb.toNat:Int) 109;obtain⟨u1b,fv,U1b⟩:=i3 (cb.toNat:Int) 77;have q1a:=U1a.out;have q1b:=U1b.out;have x1:lL cb 109 77=(u1a||u1b):=by unfold lL;rw[fu,fv]
        clear fu fv U1a U1b;obtain⟨u2a,fu,U2a⟩:=i3 (cc.toNat:Int) 108;obtain⟨u2b,fv,U2b⟩:=i3 (cc.toNat:Int) 76;have q2a:=U2a.out;have q2b:=U2b.out;have x2:lL cc 108 76=(u2a||u2b):=by unfold lL;rw[fu,fv]
        clear fu fv U2a U2b;rw[x0,x1,x2]at hxm;have HXX:=aa hxm;clear x0 x1 x2 hxm i0 i1 i2 h3';cases u0a with
        |true =>
         cases u1a with
         |true =>
          cases u2a with
          |true =>
           go_wp2
           go_meet
           exact⟨by rw[<-HXM.out,HXX.out];rfl,rfl⟩
          |false =>
           cases u2b with
           |true =>
            go_wp2
            go_meet
            exact⟨by rw[<-HXM.out,HXX.out];rfl,rfl⟩
           |false =>
            go_wp2
            go_meet
            exact⟨by rw[<-HXM.out,HXX.out];rfl,rfl⟩
         |false =>
          cases u1b with
          |true =>
           cases u2a with
           |true =>
            go_wp2
            go_meet
            exact⟨by rw[<-HXM.out,HXX.out];rfl,rfl⟩
           |false =>
            cases u2b with
            |true =>
             go_wp2
             go_meet
             exact⟨by rw[<-HXM.out,HXX.out];rfl,rfl⟩
            |false =>
             go_wp2
             go_meet
             exact⟨by rw[<-HXM.out,HXX.out];rfl,rfl⟩
          |false =>
           go_wp2
           go_meet
           exact⟨by rw[<-HXM.out,HXX.out];rfl,rfl⟩
        |false =>
         cases u0b with
         |true =>
          cases u1a with
          |true =>
           cases u2a with
           |true =>
            go_wp2
            go_meet
            exact⟨by rw[<-HXM.out,HXX.out];rfl,rfl⟩
           |false =>
            cases u2b with
            |true =>
             go_wp2
             go_meet
             exact⟨by rw[<-HXM.out,HXX.out];rfl,rfl⟩
            |false =>
             go_wp2
             go_meet
             exact⟨by rw[<-HXM.out,HXX.out];rfl,rfl⟩
          |false =>
           cases u1b with
           |true =>
            cases u2a with
            |true =>
             go_wp2
             go_meet
             exact⟨by rw[<-HXM.out,HXX.out];rfl,rfl⟩
            |false =>
             cases u2b with
             |true =>
              go_wp2
              go_meet
              exact⟨by rw[<-HXM.out,HXX.out];rfl,rfl⟩
             |false =>
              go_wp2
              go_meet
              exact⟨by rw[<-HXM.out,HXX.out];rfl,rfl⟩
           |false =>
            go_wp2
            go_meet
            exact⟨by rw[<-HXM.out,HXX.out];rfl,rfl⟩
         |false =>
          go_wp2
          go_meet
          exact⟨by rw[<-HXM.out,HXX.out];rfl,rfl⟩
       ·have h3z:¬(x.l.size:Int)=3:=by omega
        have h3b:((x.l.size:Int)==3)=false:=by rw[ak];exact h3z
        have HXX:=aa (zH h3');clear h3';go_wp2
        go_meet
        exact⟨by rw[<-HXM.out,HXX.out],rfl⟩
      case rest =>
       obtain⟨rfl,rfl⟩:=hcut;clear b0 b1 b2 b3 b4 b5 b6 b7;obtain⟨b0,b1,b2,b3,b4,b5,b6,b7⟩:=HCX.out wc h3
       go_wp2_with fail
       refine(HIS.out wc).mono ?_;rintro e w4⟨rfl,hbq⟩;have h4:=h3.trans (hbq.mono h3.size);clear hbq;clear b0 b1 b2 b3 b4 b5 b6 b7;obtain⟨b0,b1,b2,b3,b4,b5,b6,b7⟩:=HCX.out w4 h4;cases Bn with
       |true =>
        cases XM with
        |true =>
         go_wp2;go_ret;exact⟨by rw[HX.out];rfl,HB1.out w4 h4⟩
        |false =>
         go_wp2_with fail
         refine(HH2.out w4).mono ?_;rintro e wq⟨rfl,hw⟩;rw[hw];clear hw;cases Bq with
         |true =>
          go_wp2;go_ret;exact⟨by rw[HX.out];rfl,HB1.out w4 h4⟩
         |false =>
          cases bt0 with
          |true =>
           go_wp2;go_ret;exact⟨by rw[HX.out];rfl,HB1.out w4 h4⟩
          |false =>
           obtain⟨cc,hcc,hix⟩:=F0 HET.out;rw[hcc]at HX;have HBK:Hid (∀w,Calls Tryz.prog 58 #[.int .u8 (cc.toNat:Int)] w fun e w'=>e=.returned (.bool (fq cc))/\w'=w):=fun w=>by rw[<-gj];exact gW _ w
           generalize fq cc=Bk at *;clear hcc
           go_wp2_with fail
           refine(HBK.out w4).mono ?_;rintro e wq⟨rfl,hw⟩;rw[hw];clear hw;cases Bk with
           |true =>
            go_wp2;go_ret;exact⟨by rw[HX.out];rfl,HB1.out w4 h4⟩
           |false =>
            go_wp2;go_ret;exact⟨by rw[HX.out];rfl,HB1.out w4 h4⟩
       |false =>
        go_wp2;go_ret;exact⟨by rw[HX.out];rfl,HB1.out w4 h4⟩
     |false =>
      go_wp2;go_ret;exact⟨by rw[HX.out];rfl,HB1.out w3 h3⟩
  |false =>
   go_wp2;go_ret;exact⟨by rw[HX.out];rfl,HB1.out w3 h3⟩
 |false =>
  go_wp2;go_ret;exact⟨by rw[HX.out];rfl,HB1.out w2 h2⟩
end Go.Proofs.YteinegfbpfhflaaGreatDoor
