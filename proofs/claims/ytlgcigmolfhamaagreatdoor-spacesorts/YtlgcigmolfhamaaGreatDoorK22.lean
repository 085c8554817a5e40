/-
  apostilleref07.Has and Means: the document's own. Conditions: the list lies as it is; the nodes hang on nodes ahead; the texts are not too long. apostilleref07.element: the document's own. Conditions: the list lies as it is; the nodes hang on nodes ahead; the texts are not too long. apostilleref07.other: the document's own. Conditions: the list lies as it is; the texts are not too long.
-/
import Derived.Test.YtlgcigmolfhamaaGreatDoorK20
import Derived.Test.YtlgcigmolfhamaaGreatDoorK09
import Derived.Test.YtlgcigmolfhamaaGreatDoorK12
import Derived.Test.YtlgcigmolfhamaaGreatDoorK11
import Derived.Test.YtlgcigmolfhamaaGreatDoorK14
import Derived.Test.YtlgcigmolfhamaaGreatDoorK00
import Derived.Deep.QuietTactic
namespace Go.Proofs.YtlgcigmolfhamaaGreatDoor
open Go.RowKit
open Go.RowKit
open Go.RowKit
set_option linter.unusedVariables false
set_option maxRecDepth 100000
set_option maxHeartbeats 32000000
theorem b3p{s t:List UInt8}:Ins s t↔t=[]∨∃j,j<s.length/\(s.drop j).take t.length=t:=by
 constructor
 ·rintro⟨a,b,e⟩
  by_cases ht:t=[]
  ·exact .inl ht
  ·refine .inr ⟨a.length,?_,?_⟩
   ·rw[e]
    have:=D7.2 ht;simp;omega
   ·rw[e,List.drop_left,List.take_left]
 ·rintro(rfl |⟨j,hj,h⟩)
  ·exact⟨[],s,rfl⟩
  ·refine⟨s.take j,(s.drop j).drop t.length,?_⟩
   have h1:=I5 t.length (s.drop j);rw[h]at h1;rw[h1,I5]
theorem a9n(S:ByteArray)(a b:Nat):(S.extract a b).data.toList=(S.data.toList.drop a).take (b-a):=by
 rw[ByteArray.data_extract,Array.toList_extract]
theorem b5S(S:ByteArray){k t:Nat}(h:k+t<=S.size)(w:World):(Instr.slice 9 (.string S) (some (.int .i64 (k:Int))) (some (.int .i64 ((k:Int)+(t:Int)))) none).run Tryz.prog w=.ok (.string (S.extract k (k+t))) w:=by
 have h2:(k:Int)+(t:Int)<=(S.size:Int):=by omega
 have h3:(0:Int)<=(k:Int)+(t:Int):=by omega
 have h4:((k:Int)+(t:Int)).toNat=k+t:=by omega
 simp[Instr.slice,run_underlying Tryz.underlying9,Instr.sliceBounds,Instr.sliceBound,asIntOf,h2,h3,h4]
def c1e(w:World)(S T:List UInt8)(i:Value)(wr:World):Prop:=∃k:Nat,k<=S.length/\i=.int .i64 k/\(∀j,j<k->(S.drop j).take T.length≠T)/\wr=w
theorem b3t(S T:ByteArray)(w:World)(hs:S.size<=2000000)(ht:T.size<=2000000):Calls Tryz.prog 184 #[.string S,.string T] w fun e w'=>e=.returned (.bool (a0V S.data.toList T.data.toList))/\w'=w:=by
 obtain⟨R,hR⟩ : ∃R,a0V S.data.toList T.data.toList=R:=⟨_,rfl⟩;rw[hR]
 have HY:Hid (∀j,j<S.data.toList.length->(S.data.toList.drop j).take T.data.toList.length=T.data.toList->R=true):=fun j h1 h2=>by
  rw[<-hR,a6R,b3p];exact .inr ⟨j,h1,h2⟩
 have HZ:Hid ((∀j,j<S.data.toList.length->(S.data.toList.drop j).take T.data.toList.length≠T.data.toList)->R=N4 T []):=fun h=>by
  rw[<-hR,A8,a6R,b3p,a0p]
  constructor
  ·rintro(h1 |⟨j,h1,h2⟩)
   ·exact h1
   ·exact absurd h2 (h j h1)
  ·exact .inl
 have D0:Hid (S.data.toList.length=S.size):=by show S.data.toList.length=_;rw[Array.length_toList];rfl
 have D3:Hid (T.data.toList.length=T.size):=by show T.data.toList.length=_;rw[Array.length_toList];rfl
 obtain⟨b0,e0,E0⟩:=a0z T;have E4:=a8 e0;clear hR e0;go_enter Tryz.func184,Tryz.ntmps184;go_wp2
 go_loopw [8] (c1e w S.data.toList T.data.toList) (fun i _=>S.size-(intOf i).toNat)
 case atStart=>exact⟨0,o4 _,rfl,fun j h=>by omega,rfl⟩
 case round =>
  obtain⟨k,hk,rfl,D9,rfl⟩:=hrel;rw[D0.out]at hk;have D1:=a8 D9;clear D9;by_cases E5:k<S.size
  ·have E6:(k:Int)<(S.size:Int):=by omega
   by_cases D2:(S.size:Int)-(k:Int) ≥ (T.size:Int)
   ·have E7:k+T.size<=S.size:=by omega
    have HX:Hid ((S.extract k (k+T.size)).data.toList=(S.data.toList.drop k).take T.data.toList.length):=by
     show(S.extract k (k+T.size)).data.toList=_
     rw[a9n,D3.out,show k+T.size-k=T.size by omega]
    obtain⟨Z,hZ⟩ : ∃Z,S.extract k (k+T.size)=Z:=⟨_,rfl⟩;have G1:∀w,(Instr.slice 9 (.string S) (some (.int .i64 (k:Int))) (some (.int .i64 ((k:Int)+(T.size:Int)))) none).run Tryz.prog w=.ok (.string Z) w:=fun w=>by rw[<-hZ];exact b5S S E7 w
    have E1:Hid (Z.data.toList=(S.data.toList.drop k).take T.data.toList.length):=by rw[<-hZ];exact HX
    by_cases hm:(S.data.toList.drop k).take T.data.toList.length=T.data.toList
    ·have E2:R=true:=HY.out k (by rw[D0.out];exact E5) hm
     have t1:(Z.toList==T.toList)=true:=by rw[x8,f9,f9,E1.out,hm]
     have E8:=a8 E2;clear hm E2 HX hZ;go_wp2;go_ret;exact⟨by rw[E8.out];rfl,rfl⟩
    ·have t1:(Z.toList==T.toList)=false:=by rw[e9,f9,f9,E1.out];exact hm
     have HM:=a8 hm;clear hm HX hZ;go_wp2
     go_roundw
     case rel =>
      refine⟨k+1,by rw[D0.out];omega,by go_num,fun j hj => ?_,rfl⟩
      rcases E9 (I2 hj)with h|h
      ·exact D1.out j h
      ·subst h;exact HM.out
     case measure=>simp[intOf];omega
   ·have G4:=f8 D2
    have HM:Hid ((S.data.toList.drop k).take T.data.toList.length≠T.data.toList):=fun h=>by
     have:=congrArg List.length h;rw[u0,B6,D0.out,D3.out]at this;omega
    go_wp2
    go_roundw
    case rel =>
     refine⟨k+1,by rw[D0.out];omega,by go_num,fun j hj => ?_,rfl⟩
     rcases E9 (I2 hj)with h|h
     ·exact D1.out j h
     ·subst h;exact HM.out
    case measure=>simp[intOf];omega
  ·have E6:¬(k:Int)<(S.size:Int):=by omega
   have E3:R=b0:=by rw[HZ.out (fun j hj=>D1.out j (by rw[D0.out]at hj;omega)),E4.out]
   have G0:=a8 E3;obtain⟨t1,t2⟩:=E0.out;clear E3;go_wp2;go_ret;exact⟨by rw[G0.out];rfl,rfl⟩
def dsR(l:List Nd)(m:Nat):List Dc:=((l[m]?).map (·.ds)).getD []
theorem a49{l:List Nd}{m:Nat}(h:m<l.length):dsR l m=l[m].ds:=by simp[dsR,i5 h]
def a0b(ds:List Dc)(s:List UInt8):Option ByteArray:=(ds.find? (fun d=>decide (d.p.data.toList=s))).map (·.u)
def a0n(l:List Nd)(n:Nat)(s:List UInt8):Option ByteArray :=
 if h:0<n then(a0b (dsR l n) s).or (if h2:0<=pa l n/\(pa l n).toNat<n then a0n l (pa l n).toNat s else none)else none
termination_by n
decreasing_by exact h2.2
theorem a3l(l:List Nd)(s:List UInt8):a0n l 0 s=none:=by rw[a0n,dif_neg (by omega)]
theorem a3m{l:List Nd}{n p:Nat}(s:List UInt8)(h:0<n)(hp:pa l n=(p:Int))(D0:p<n):a0n l n s=(a0b (dsR l n) s).or (a0n l p s):=by
 rw[a0n,dif_pos h,dif_pos (by rw[hp];omega),hp];rfl
def G4(l:List Nd)(n:Nat)(p:ByteArray):ByteArray×Bool :=
 bif N4 p a1K then(⟨a3T.toArray⟩,true)else match a0n l n p.data.toList with|some z=>(z,true)|none=>(⟨#[]⟩,N4 p [])
def c06(w:World)(l:List Nd)(n:Nat)(s:List UInt8)(i:Value)(wr:World):Prop:=∃m:Nat,m<=n/\i=.int .i64 m/\a0n l n s=a0n l m s/\wr=w
def c07(w:World)(ds:List Dc)(s:List UInt8)(i:Value)(wr:World):Prop:=∃k:Nat,k<=ds.length/\i=.int .i64 k/\(∀j (hj:j<ds.length),j<k->ds[j].p.data.toList≠s)/\wr=w
theorem b3u{ds:List Dc}{s:List UInt8}{k:Nat}(hk:k<ds.length)(he:ds[k].p.data.toList=s)(hn:∀j (hj:j<ds.length),j<k->ds[j].p.data.toList≠s):a0b ds s=some ds[k].u:=by
 induction ds generalizing k with
 |nil=>simp at hk
 |cons d r ih =>
  match k with
  |0=>simp only[List.getElem_cons_zero]at he ⊢;simp[a0b,he]
  |k+1 =>
   have h0:=hn 0 (by simp) (by omega)
   simp only[List.getElem_cons_zero]at h0;have:=ih (k:=k) (by simpa using hk) (by simpa using he) (fun j hj D0=>by have:=hn (j+1) (by simpa using hj) (by omega);rwa [List.getElem_cons_succ]at this)
   simp only[a0b]at this;simp[a0b,h0,this]
theorem a42{ds:List Dc}{s:List UInt8}(hn:∀j (hj:j<ds.length),ds[j].p.data.toList≠s):a0b ds s=none:=by
 unfold a0b;rw[Option.map_eq_none_iff,List.find?_eq_none];intro d hd;obtain⟨j,hj,rfl⟩:=List.getElem_of_mem hd;simpa using hn j hj
theorem a7W(l:List Nd)(v:Value)(n:Nat)(p:ByteArray)(w:World)(hv:S3 w w.heap.size v l)(hn:n<l.length)(E2:l.length<=2000000)(hh:W4 l (n+1))(h0:pa l 0 = -1) :
 Calls Tryz.prog 51 #[v,.int .i64 (n:Int),.string p] w fun e w'=>e=.returned (.tuple #[.string (G4 l n p).1,.bool (G4 l n p).2])/\w'=w:=by
 obtain⟨bl,o,cap,rfl,J1,L9,M0,E8⟩:=hv.open (by intro h;subst h;simp at hn)
 have D0:Hid (∀k,k<l.length->w.cell? ⟨bl,o+k*8+1,none⟩=some (.int .i64 (pa l k))/\∃vd,w.cell? ⟨bl,o+k*8+6,none⟩=some vd/\a0P w w.heap.size vd (dsR l k)):=fun k hk=>by
  obtain⟨vd,va,_,d1,_,_,_,_,d6,_,D3,_⟩:=(E8 k hk).cells;rw[Z5 hk,a49 hk];exact⟨d1,vd,d6,D3⟩
 have J2:Hid (∀m,m<=n->(m=0/\pa l m = -1)∨∃p:Nat,pa l m=(p:Int)/\p<m):=fun m hm=>a6w hh h0 hm;obtain⟨R,hR⟩ : ∃R,G4 l n p=R:=⟨_,rfl⟩;rw[hR];have HR:=a8 hR;obtain⟨q,G0⟩ : ∃q,l.length=q:=⟨_,rfl⟩;rw[G0]at J1 hn E2 D0 ⊢;obtain⟨b1,e1,E1⟩:=tst p a1K;obtain⟨b0,e0,E0⟩:=a0z p;have E3:=a8 e1;have J3:=a8 e0
 have J4:Hid (b1=false->∀z,a0n l n p.data.toList=some z->R=(z,true)):=fun h z hz=>by
  rw[<-hR,G4,E3.out,h,cond_false,hz]
 have J5:Hid (b1=false->a0n l n p.data.toList=none->R=(⟨#[]⟩,b0)):=fun h hz=>by
  rw[<-hR,G4,E3.out,h,cond_false,hz,J3.out]
 unfold a1K at E1;have t1:=E1.out;clear E8 hv G0 hh h0 hR e1 e0;go_enter Tryz.func51,Tryz.ntmps51;cases b1 with
 |true =>
  have G1:R=(⟨a3T.toArray⟩,true):=by rw[<-HR.out,G4,E3.out,cond_true]
  have J6:=a8 G1;clear G1;go_wp2
  go_ret2
  exact⟨by rw[J6.out];rfl,rfl⟩
 |false =>
  go_wp2
  go_loopw [1] (c06 w l n p.data.toList) (fun i _=>(intOf i).toNat)
  case atStart=>exact⟨n,c9 _,rfl,rfl,rfl⟩
  case round =>
   obtain⟨m,hm,rfl,hE,rfl⟩:=hrel;have HE:=a8 hE;clear hE;by_cases G5:(m:Int)>0
   ·have J7:m<q:=by omega
    obtain⟨d1,vd,d6,D3⟩:=D0.out m J7;have J8:=a8 D3
    obtain⟨pp,E4,J9⟩ : ∃p:Nat,pa l m=(p:Int)/\p<m:=by
     rcases J2.out m hm with⟨rfl,_⟩|h
     ·simp at G5
     ·exact h
    have G6:Hid (a0n l m p.data.toList=(a0b (dsR l m) p.data.toList).or (a0n l pp p.data.toList)):=a3m _ (by omega) E4 J9
    rw[E4]at d1;obtain⟨A1,c1,rfl,L0,M1,_⟩:=D3;obtain⟨nd,D1⟩ : ∃x,(dsR l m).length=x:=⟨_,rfl⟩;have D9:=a8 D1;rw[D1]at d6 L0;generalize dsR l m=ds at *;clear E4 D1;go_wp2
    go_loopw [19] (c07 wr ds p.data.toList) (fun i _=>nd-(intOf i).toNat)
    case atStart=>exact⟨0,o4 _,rfl,fun j _ h=>by omega,rfl⟩
    case round =>
     obtain⟨k,hk,rfl,G7,rfl⟩:=hrel;rw[D9.out]at hk;have E5:=a8 G7;clear G7;by_cases L1:k<nd
     ·have E6:k<ds.length:=by rw[D9.out];exact L1
      obtain⟨g,og,cg,rg,_,_,M2,G8⟩:=a0P.open J8.out (by omega)
      rw[D9.out]at rg;simp only[o5]at rg;obtain⟨rfl,-,rfl⟩:=rg;obtain⟨g1,g2⟩:=G8 k E6;have L2:(k:Int)<(nd:Int):=by omega
      have G9:Hid (ds[k].p.data.toList=p.data.toList->a0b ds p.data.toList=some ds[k].u):=fun h=>b3u E6 h E5.out;have L3:=a8 E6;generalize hx:ds[k]=x at *;obtain⟨P,U⟩:=x;dsimp only at g1 g2 G9;clear G8;by_cases heq:P.data.toList=p.data.toList
      ·have D2:R=(U,true):=J4.out (by trivial) U (by rw[HE.out,G6.out,G9.out heq];rfl)
       have E7:=a8 D2;have t2:(P.toList==p.toList)=true:=by rw[x8,f9,f9,heq]
       clear heq D2 hx;go_wp2
       go_ret2
       exact⟨by rw[E7.out];rfl,rfl⟩
      ·have t2:(P.toList==p.toList)=false:=by rw[e9,f9,f9];exact heq
       have L4:=a8 hx;have L5:=a8 heq;clear heq hx;go_wp2
       go_roundw
       case rel =>
        refine⟨k+1,L3.out,by go_num,fun j hj L6 => ?_,rfl⟩
        rcases E9 (I2 L6)with h|h
        ·exact E5.out j hj h
        ·subst h
         have e:ds[j]=⟨P,U⟩:=L4.out;exact fun h=>L5.out ((congrArg (fun d:Dc=>d.p.data.toList) e).symm.trans h)
       case measure=>simp[intOf];omega
     ·have L2:¬(k:Int)<(nd:Int):=by omega
      have L7:Hid (a0b ds p.data.toList=none):=a42 (fun j hj=>E5.out j hj (by rw[D9.out]at hj;omega))
      go_wp2
      go_roundw
      case rel=>exact⟨pp,by omega,rfl,by rw[HE.out,G6.out,L7.out];rfl,rfl⟩
      case measure=>simp[intOf];omega
   ·have L8:=f8 G5
    have D2:R=(⟨#[]⟩,b0):=J5.out (by trivial) (by rw[HE.out,show m=0 by omega,a3l])
    have E7:=a8 D2;obtain⟨s1,s2⟩:=E0.out;clear D2;go_wp2
    go_ret2
    exact⟨by rw[E7.out];rfl,rfl⟩
noncomputable def a6G(l:List Nd)(n:Nat)(x:Nd):Bool :=
 (G4 l n x.p).2&&(((G4 l n x.p).1.toList==x.u.toList)&&(nmS x.l&&((N4 x.p []||nmS x.p)&&(!N4 x.p L2&&N4 x.t []))))
noncomputable def a4C(l:List Nd)(n:Nat)(a:At):Bool :=
 (N4 a.p []||((G4 l n a.p).2&&nmS a.p))&&(((bif N4 a.p []then(⟨#[]⟩ : ByteArray)else(G4 l n a.p).1).toList==a.u.toList)&&(nmS a.l&&(!N4 a.p L2&&(!(N4 a.p []&&N4 a.l L2)&&tx a.v))))
structure a3S(l:List Nd)(n:Nat)(x:Nd):Prop where
 ds:∀k (hk:k<x.ds.length),T6 x.ds[k]=true/\∀i (hi:i<x.ds.length),i<k->x.ds[i].p.data.toList≠x.ds[k].p.data.toList
 nm:a6G l n x=true
 ats:∀k (hk:k<x.ats.length),a4C l n x.ats[k]=true/\∀i (hi:i<x.ats.length),i<k->¬(x.ats[i].l.data.toList=x.ats[k].l.data.toList/\x.ats[i].u.data.toList=x.ats[k].u.data.toList)
open Classical in
noncomputable def a4s(l:List Nd)(n:Nat)(x:Nd):Bool:=decide (a3S l n x)
open Classical in
theorem a65{l:List Nd}{n:Nat}{x:Nd}(h:¬a3S l n x):a4s l n x=false:=by unfold a4s;exact f8 h
open Classical in
theorem a8g{l:List Nd}{n:Nat}{x:Nd}(h:a3S l n x):a4s l n x=true:=by unfold a4s;exact i6 h
def c1h(W:World)(ds:List Dc)(i:Value)(wr:World):Prop:=∃k:Nat,k<=ds.length/\i=.int .i64 k/\(∀j (hj:j<ds.length),j<k->T6 ds[j]=true/\∀i (hi:i<ds.length),i<j->ds[i].p.data.toList≠ds[j].p.data.toList)/\Below W.heap.size W wr
def c1i(W:World)(ds:List Dc)(P:List UInt8)(k:Nat)(i:Value)(wr:World):Prop:=∃j:Nat,j<=k/\i=.int .i64 j/\(∀i (hi:i<ds.length),i<j->ds[i].p.data.toList≠P)/\Below W.heap.size W wr
def c1m(W:World)(l:List Nd)(n:Nat)(as':List At)(i:Value)(wr:World):Prop:=∃k:Nat,k<=as'.length/\i=.int .i64 k/\(∀j (hj:j<as'.length),j<k->a4C l n as'[j]=true/\∀i (hi:i<as'.length),i<j->¬(as'[i].l.data.toList=as'[j].l.data.toList/\as'[i].u.data.toList=as'[j].u.data.toList))/\Below W.heap.size W wr
def c1n(W:World)(as':List At)(L U:List UInt8)(k:Nat)(i:Value)(wr:World):Prop:=∃j:Nat,j<=k/\i=.int .i64 j/\(∀i (hi:i<as'.length),i<j->¬(as'[i].l.data.toList=L/\as'[i].u.data.toList=U))/\Below W.heap.size W wr
theorem b1d(l:List Nd)(v:Value)(n:Nat)(w:World)(hv:S3 w w.heap.size v l)(hn:n<l.length)(J7:l.length<=2000000)(hs:∀x∈l,Sm x)(hh:W4 l (n+1))(h0:pa l 0 = -1) :
 Calls Tryz.prog 135 #[v,.int .i64 (n:Int)] w fun e w'=>e=.returned (.bool (a4s l n l[n]))/\Below w.heap.size w w':=by
 have P7:=hs _ (o0 hn);have HM:Hid (∀w' p,Below w.heap.size w w'->Calls Tryz.prog 51 #[v,.int .i64 (n:Int),.string p] w' fun e w''=>e=.returned (.tuple #[.string (G4 l n p).1,.bool (G4 l n p).2])/\w''=w'):=fun w' p hb=>a7W l v n p w' (hv.later hb) hn J7 hh h0;obtain⟨bl,o,cap,rfl,S2,T3,T4,P8⟩:=hv.open (by intro h;subst h;simp at hn)
 obtain⟨vd,va,d0,d1,d2,d3,d4,d5,d6,d7,P9,R0⟩:=(P8 n hn).cells;have L9:=a8 P7;obtain⟨R,hR⟩ : ∃R,a4s l n l[n]=R:=⟨_,rfl⟩;rw[hR];have HF:Hid (¬a3S l n l[n]->R=false):=fun h=>by rw[<-hR];exact a65 h
 have HT:Hid (a3S l n l[n]->R=true):=fun h=>by rw[<-hR];exact a8g h
 have S4:=a8 P9;have S5:=a8 R0;obtain⟨q,R1⟩ : ∃q,l.length=q:=⟨_,rfl⟩;rw[R1]at S2 hn J7 HM ⊢;clear P8 hv R1 hh h0 hR hs P7;generalize l[n]=x at *;obtain⟨A1,c1,rfl,S6,T5,_⟩:=P9;obtain⟨A2,c2,rfl,S7,T7,_⟩:=R0;obtain⟨nd,G1⟩ : ∃z,x.ds.length=z:=⟨_,rfl⟩;obtain⟨na,G5⟩ : ∃z,x.ats.length=z:=⟨_,rfl⟩;have M0:=a8 G1;have M1:=a8 G5;rw[G1]at d6 S6;rw[G5]at d7 S7;clear G1 G5;go_enter Tryz.func135,Tryz.ntmps135;go_wp2;obtain⟨W1,M2⟩ : ∃W1,w.alloc (Obj.cells #[.int .i64 x.k,.int .i64 x.n,.string x.p,.string x.l,.string x.u,.string x.t,.slice A1 nd c1,.slice A2 na c2] 46)=W1:=⟨_,rfl⟩
 have G6:Hid (∀wr,Below W1.heap.size W1 wr->wr.cell? ⟨w.heap.size,2,none⟩=some (.string x.p)/\wr.cell? ⟨w.heap.size,3,none⟩=some (.string x.l)/\wr.cell? ⟨w.heap.size,4,none⟩=some (.string x.u)/\wr.cell? ⟨w.heap.size,5,none⟩=some (.string x.t)/\wr.cell? ⟨w.heap.size,6,none⟩=some (.slice A1 nd c1)/\wr.cell? ⟨w.heap.size,7,none⟩=some (.slice A2 na c2)):=fun wr hb=>by
  rw[<-M2]at hb;exact⟨v8 (j:=2) hb rfl,v8 (j:=3) hb rfl,v8 (j:=4) hb rfl,v8 (j:=5) hb rfl,v8 (j:=6) hb rfl,v8 (j:=7) hb rfl⟩
 have G7:Hid (∀wr,Below W1.heap.size W1 wr->Below w.heap.size w wr):=fun wr hb=>by
  rw[<-M2]at hb;exact E8 hb
 rw[M2];clear M2 d0 d1 d2 d3 d4 d5 d6 d7
 go_loopw [22] (c1h W1 x.ds) (fun i _=>nd-(intOf i).toNat)
 case atStart=>exact⟨0,o4 _,rfl,fun j _ h=>by omega,b8 _ _⟩
 case round =>
  obtain⟨k,hk,rfl,J8,hb⟩:=hrel;rw[M0.out]at hk;have J3:=a8 J8;have D0:=G7.out wr hb;obtain⟨c2,c3,c4,c5,c6,c7⟩:=G6.out wr hb;clear J8;by_cases M3:k<nd
  ·have G8:k<x.ds.length:=by rw[M0.out];exact M3
   have J9:(k:Int)<(nd:Int):=by omega
   obtain⟨g,og,cg,rg,_,_,E3,G9⟩:=a0P.open S4.out (by omega)
   rw[M0.out]at rg;simp only[o5]at rg;obtain⟨rfl,-,rfl⟩:=rg;obtain⟨g1,g2⟩:=G9 k G8;have M4:=a8 G9;replace g1:=(D0.cell (p:=⟨g,og+k*2,none⟩) E3).trans g1;replace g2:=(D0.cell (p:=⟨g,og+k*2+1,none⟩) E3).trans g2;have N0:=L9.out.ds _ (o0 G8);have M5:=a8 (b4p x.ds[k] N0.1 N0.2 wr);have E7:=a8 G8;generalize hy:x.ds[k]=y at *;obtain⟨P,U⟩:=y;dsimp only at g1 g2 M5;have HY:=a8 hy;generalize hB:T6 ⟨P,U⟩=B at *;have HB:=a8 hB;clear G9 N0 hy hB;cases B with
   |false =>
    go_wp2_with fail
    refine M5.out.mono ?_;rintro e w2⟨rfl,M6⟩;have G0:R=false:=HF.out (fun h=>by exact Bool.false_ne_true (((congrArg T6 HY.out).trans HB.out).symm.trans (h.ds k E7.out).1))
    subst G0;go_wp2;go_ret;exact⟨rfl,D0.trans (M6.mono D0.size)⟩
   |true =>
    go_wp2_with fail
    refine M5.out.mono ?_;rintro e w2⟨rfl,M6⟩;have L0:=hb.trans (M6.mono hb.size);clear c2 c3 c4 c5 c6 c7 M6 M5 g1 g2 D0 hb;go_wp2
    go_loopw [33] (c1i W1 x.ds P.data.toList k) (fun i _=>k-(intOf i).toNat)
    case atStart=>exact⟨0,o4 _,rfl,fun j _ h=>by omega,L0⟩
    case round =>
     obtain⟨j,hj,rfl,L1,hb⟩:=hrel;have L3:=a8 L1;have D0:=G7.out wr hb;obtain⟨c2,c3,c4,c5,c6,c7⟩:=G6.out wr hb;clear L1 L0;by_cases J4:j<k
     ·have L4:j<x.ds.length:=by have:=E7.out;omega
      have N1:(j:Int)<(k:Int):=by omega
      have S8:(j:Int)<(nd:Int):=by omega
      obtain⟨g1,_⟩:=M4.out j L4;obtain⟨g2,_⟩:=M4.out k E7.out;replace g1:=(D0.cell (p:=⟨g,og+j*2,none⟩) E3).trans g1;replace g2:=(D0.cell (p:=⟨g,og+k*2,none⟩) E3).trans g2;have e2:x.ds[k].p=P:=by have e:=HY.out;exact congrArg Dc.p e
      replace g2:wr.cell? ⟨g,og+k*2,none⟩=some (.string P):=g2.trans (congrArg (fun z:ByteArray=>some (Value.string z)) e2);have N2:=a8 L4;generalize hz:x.ds[j].p=Z at *;have HZ:=a8 hz;have S9:=a8 e2;clear hz e2;by_cases heq:Z.data.toList=P.data.toList
      ·have t1:(Z.toList==P.toList)=true:=by rw[x8,f9,f9,heq]
       have HQ:=a8 heq;have G0:R=false:=HF.out (fun h=>(h.ds k E7.out).2 j N2.out J4 ((congrArg (fun z:ByteArray=>z.data.toList) HZ.out).trans (HQ.out.trans (congrArg (fun z:ByteArray=>z.data.toList) S9.out).symm)));subst G0;clear heq
       go_wp2_with fail
       go_quiet (fail)
       go_wp2;go_ret;exact⟨rfl,i7 D0 _⟩
      ·have t1:(Z.toList==P.toList)=false:=by rw[e9,f9,f9];exact heq
       have HQ:=a8 heq;clear heq
       go_wp2_with fail
       go_quiet (fail)
       go_wp2
       go_roundw
       case rel =>
        refine⟨j+1,J4,by go_num,fun i hi N3 => ?_,i7 hb _⟩
        rcases E9 (I2 N3)with h|h
        ·exact L3.out i hi h
        ·subst h;exact fun e=>HQ.out ((congrArg (fun z:ByteArray=>z.data.toList) HZ.out).symm.trans e)
       case measure=>simp[intOf];omega
     ·have N1:¬(j:Int)<(k:Int):=by omega
      have E4:j=k:=by omega
      have N5:=a8 E4;clear E4 c2 c3 c4 c5 c6 c7;go_wp2
      go_roundw
      case rel =>
       refine⟨k+1,E7.out,by go_num,fun i hi N6 => ?_,hb⟩
       rcases E9 (I2 N6)with h|h
       ·exact J3.out i hi h
       ·subst h
        exact⟨(congrArg T6 HY.out).trans HB.out,fun i' hi' N7 e=>L3.out i' hi' (by rw[N5.out];exact N7) (e.trans (congrArg (fun d:Dc=>d.p.data.toList) HY.out))⟩
      case measure=>simp[intOf];omega
  ·have J9:¬(k:Int)<(nd:Int):=by omega
   have T0:Hid (∀j (hj:j<x.ds.length),T6 x.ds[j]=true/\∀i (hi:i<x.ds.length),i<j->x.ds[i].p.data.toList≠x.ds[j].p.data.toList):=fun j hj=>J3.out j hj (by rw[M0.out]at hj;omega)
   have N8:=a8 (HM.out wr x.p D0);have R2:Hid (a6G l n x=false->R=false):=fun h=>HF.out (fun hh=>by have:=hh.nm;rw[h]at this;cases this)
   have D3:Hid (a6G l n x=((G4 l n x.p).2&&(((G4 l n x.p).1.toList==x.u.toList)&&(nmS x.l&&((N4 x.p []||nmS x.p)&&(!N4 x.p L2&&N4 x.t [])))))):=rfl;have R3:=L9.out.l;have R4:=L9.out.p;have J5:Hid (∀w',Calls Tryz.prog 181 #[.string x.l] w' fun e w''=>e=.returned (.bool (nmS x.l))/\Below w'.heap.size w' w''):=fun w'=>a07 x.l R3 w';have J6:Hid (∀w',Calls Tryz.prog 181 #[.string x.p] w' fun e w''=>e=.returned (.bool (nmS x.p))/\Below w'.heap.size w' w''):=fun w'=>a07 x.p R4 w';clear J3 R3 R4 M3 hk;obtain⟨m1,L5⟩ : ∃m,(G4 l n x.p).1=m:=⟨_,rfl⟩;obtain⟨m2,L6⟩ : ∃m,(G4 l n x.p).2=m:=⟨_,rfl⟩;rw[L5,L6]at N8 D3;obtain⟨B1,R5⟩ : ∃B,nmS x.l=B:=⟨_,rfl⟩;obtain⟨B2,R6⟩ : ∃B,nmS x.p=B:=⟨_,rfl⟩;rw[R5]at J5 D3;rw[R6]at J6 D3;obtain⟨bu,M7⟩ : ∃B,(m1.toList==x.u.toList)=B:=⟨_,rfl⟩;obtain⟨b0,e0,E0⟩:=a0z x.p;obtain⟨bx,ex,EX⟩:=tst x.p L2;obtain⟨bt,et,ET⟩:=a0z x.t;rw[M7,e0,ex,et]at D3;unfold L2 at EX;obtain⟨t1,t1'⟩:=E0.out;have t2:=EX.out;obtain⟨t3,t3'⟩:=ET.out;clear L5 L6 R5 R6 e0 ex et E0 EX ET
   go_wp2_with fail
   refine N8.out.mono ?_;rintro e w2⟨rfl,hw⟩;rw[hw];clear hw N8;obtain⟨TN,R7⟩ : ∃T,(!a6G l n x)=T:=⟨_,rfl⟩;have E2:=a8 R7;clear R7
   go_upto_region 15 with fail
   go_cut [93]from 59 to 94 (fun t wx=>t=.bool TN/\Below W1.heap.size W1 wx)
   case first =>
    cases m2 with
    |false =>
     go_wp2
     go_meet
     exact⟨by rw[<-E2.out,D3.out];rfl,hb⟩
    |true =>
     cases bu with
     |false =>
      go_wp2
      go_meet
      exact⟨by rw[<-E2.out,D3.out];rfl,hb⟩
     |true =>
      go_wp2_with fail
      refine(J5.out wr).mono ?_;rintro e w3⟨rfl,D2⟩;have D1:=hb.trans (D2.mono hb.size);clear D2 c2 c3 c4 c5 c6 c7;obtain⟨c2,c3,c4,c5,c6,c7⟩:=G6.out w3 D1;cases B1 with
      |false =>
       go_wp2
       go_meet
       exact⟨by rw[<-E2.out,D3.out];rfl,D1⟩
      |true =>
       cases b0 with
       |true =>
        cases bx with
        |true =>
         go_wp2
         go_meet
         exact⟨by rw[<-E2.out,D3.out];rfl,D1⟩
        |false =>
         cases bt with
         |false =>
          go_wp2
          go_meet
          exact⟨by rw[<-E2.out,D3.out];rfl,D1⟩
         |true =>
          go_wp2
          go_meet
          exact⟨by rw[<-E2.out,D3.out];rfl,D1⟩
       |false =>
        go_wp2_with fail
        refine(J6.out w3).mono ?_;rintro e w4⟨rfl,D2⟩;have E1:=D1.trans (D2.mono D1.size);clear D2 c2 c3 c4 c5 c6 c7;obtain⟨c2,c3,c4,c5,c6,c7⟩:=G6.out w4 E1;cases B2 with
        |false =>
         go_wp2
         go_meet
         exact⟨by rw[<-E2.out,D3.out];rfl,E1⟩
        |true =>
         cases bx with
         |true =>
          go_wp2
          go_meet
          exact⟨by rw[<-E2.out,D3.out];rfl,E1⟩
         |false =>
          cases bt with
          |false =>
           go_wp2
           go_meet
           exact⟨by rw[<-E2.out,D3.out];rfl,E1⟩
          |true =>
           go_wp2
           go_meet
           exact⟨by rw[<-E2.out,D3.out];rfl,E1⟩
   case rest =>
    obtain⟨rfl,E5⟩:=hcut;clear hb D0 c2 c3 c4 c5 c6 c7 t1 t1' t2 t3 t3' D3 J5 J6 J9;have D0:=G7.out wc E5;cases TN with
    |true =>
     have G0:R=false:=R2.out (by have:=E2.out;simpa using this)
     subst G0;go_wp2;go_ret;exact⟨rfl,D0⟩
    |false =>
     have R8:a6G l n x=true:=by have:=E2.out;simpa using this
     have T1:=a8 R8;obtain⟨c2,c3,c4,c5,c6,c7⟩:=G6.out wc E5;clear R8 R2;go_wp2
     go_loopw [97] (c1m W1 l n x.ats) (fun i _=>na-(intOf i).toNat)
     case atStart=>exact⟨0,o4 _,rfl,fun j _ h=>by omega,E5⟩
     case round =>
      clear E5 D0 c2 c3 c4 c5 c6 c7;obtain⟨k,hk,rfl,J8,hb⟩:=hrel;rw[M1.out]at hk;have J3:=a8 J8;have D0:=G7.out wr hb;obtain⟨c2,c3,c4,c5,c6,c7⟩:=G6.out wr hb;clear J8;by_cases M3:k<na
      ·have G8:k<x.ats.length:=by rw[M1.out];exact M3
       have J9:(k:Int)<(na:Int):=by omega
       obtain⟨g,og,cg,rg,_,_,E3,G9⟩:=a23.open S5.out (by omega)
       rw[M1.out]at rg;simp only[o5]at rg;obtain⟨rfl,-,rfl⟩:=rg;obtain⟨g0,g1,g2,g3⟩:=G9 k G8;have M4:=a8 G9;replace g0:=(D0.cell (p:=⟨g,og+k*4,none⟩) E3).trans g0;replace g1:=(D0.cell (p:=⟨g,og+k*4+1,none⟩) E3).trans g1;replace g2:=(D0.cell (p:=⟨g,og+k*4+2,none⟩) E3).trans g2;replace g3:=(D0.cell (p:=⟨g,og+k*4+3,none⟩) E3).trans g3;have R9:=L9.out.ats _ (o0 G8);have E7:=a8 G8;generalize hy:x.ats[k]=y at *;obtain⟨P,Lo,U,V⟩:=y;dsimp only at g0 g1 g2 g3 R9;have HY:=a8 hy;obtain⟨sP,sL,sU,sV⟩:=R9;have J5:Hid (∀w',Calls Tryz.prog 181 #[.string Lo] w' fun e w''=>e=.returned (.bool (nmS Lo))/\Below w'.heap.size w' w''):=fun w'=>a07 Lo sL w';have J6:Hid (∀w',Calls Tryz.prog 181 #[.string P] w' fun e w''=>e=.returned (.bool (nmS P))/\Below w'.heap.size w' w''):=fun w'=>a07 P sP w';have N9:Hid (∀w',Calls Tryz.prog 182 #[.string V] w' fun e w''=>e=.returned (.bool (tx V))/\Below w'.heap.size w' w''):=fun w'=>a2g V sV w';have P0:Hid (∀w',Below w.heap.size w w'->Calls Tryz.prog 51 #[.slice (some ⟨bl,o,none⟩) q cap,.int .i64 (n:Int),.string P] w' fun e w''=>e=.returned (.tuple #[.string (G4 l n P).1,.bool (G4 l n P).2])/\w''=w'):=fun w' hb=>HM.out w' P hb;have D9:Hid (a4C l n ⟨P,Lo,U,V⟩=((N4 P []||((G4 l n P).2&&nmS P))&&(((bif N4 P []then(⟨#[]⟩ : ByteArray)else(G4 l n P).1).toList==U.toList)&&(nmS Lo&&(!N4 P L2&&(!(N4 P []&&N4 Lo L2)&&tx V)))))):=rfl;obtain⟨AR,P1⟩ : ∃A,a4C l n ⟨P,Lo,U,V⟩=A:=⟨_,rfl⟩;have S0:=a8 P1;rw[P1]at D9;obtain⟨m1,L5⟩ : ∃m,(G4 l n P).1=m:=⟨_,rfl⟩;obtain⟨m2,L6⟩ : ∃m,(G4 l n P).2=m:=⟨_,rfl⟩;rw[L5,L6]at P0 D9;generalize nmS Lo=B1 at *;generalize nmS P=B2 at *;generalize tx V=B3 at *;obtain⟨b0,e0,E0⟩:=a0z P;obtain⟨bx,ex,EX⟩:=tst P L2;obtain⟨bl',el,EL⟩:=tst Lo L2;rw[e0,ex,el]at D9;unfold L2 at EX EL;obtain⟨t1,t1'⟩:=E0.out;have t2:=EX.out;have t3:=EL.out;clear G9 hy L5 L6 e0 ex el E0 EX EL P1 sP sL sU sV
       go_upto_if 107 with fail
       obtain⟨W2,M8⟩ : ∃W2,wr.alloc (Obj.cells #[.string P,.string Lo,.string U,.string V] 103)=W2:=⟨_,rfl⟩
       have J1:Hid (∀wx,Below W2.heap.size W2 wx->wx.cell? ⟨wr.heap.size,0,none⟩=some (.string P)/\wx.cell? ⟨wr.heap.size,1,none⟩=some (.string Lo)/\wx.cell? ⟨wr.heap.size,2,none⟩=some (.string U)/\wx.cell? ⟨wr.heap.size,3,none⟩=some (.string V)):=fun wx hb=>by
        rw[<-M8]at hb;exact⟨v8 (j:=0) hb rfl,v8 (j:=1) hb rfl,v8 (j:=2) hb rfl,v8 (j:=3) hb rfl⟩
       have P2:Hid (∀wx,Below W2.heap.size W2 wx->Below W1.heap.size W1 wx):=fun wx hb'=>by
        rw[<-M8]at hb';exact hb.trans ((E8 hb').mono hb.size)
       rw[M8];clear M8 g0 g1 g2 g3 c2 c3 c4 c5 c6 c7;have J2:=b8 W2.heap.size W2;obtain⟨a0,a1,a2,a3⟩:=J1.out W2 J2
       go_cut [12,13]from 108 to 122 (fun u ok wx=>u=.string (bif b0 then⟨#[]⟩else m1)/\ok=.bool (b0||(m2&&B2))/\Below W2.heap.size W2 wx)
       case first =>
        cases b0 with
        |true =>
         go_wp2
         go_meet
         exact⟨rfl,rfl,J2⟩
        |false =>
         go_wp2_with fail
         refine(P0.out W2 (G7.out _ (P2.out _ J2))).mono ?_;rintro e w2⟨rfl,hw⟩;rw[hw];clear hw;cases m2 with
         |false =>
          go_wp2
          go_meet
          exact⟨rfl,rfl,J2⟩
         |true =>
          go_wp2_with fail
          refine(J6.out W2).mono ?_;rintro e w3⟨rfl,D2⟩;have D1:=J2.trans (D2.mono J2.size);clear D2 a0 a1 a2 a3;obtain⟨a0,a1,a2,a3⟩:=J1.out w3 D1;go_wp2
          go_meet
          exact⟨rfl,rfl,D1⟩
       case rest =>
        obtain⟨rfl,rfl,E5⟩:=hcut;clear a0 a1 a2 a3 J2 P0 J6;obtain⟨a0,a1,a2,a3⟩:=J1.out wc E5;generalize (bif b0 then(⟨#[]⟩ : ByteArray)else m1)=U0 at *;generalize (b0||(m2&&B2))=K0 at *;obtain⟨bu,M7⟩ : ∃B,(U0.toList==U.toList)=B:=⟨_,rfl⟩;rw[M7]at D9;obtain⟨TT,S1⟩ : ∃T,(!AR)=T:=⟨_,rfl⟩;have E6:=a8 S1;clear S1
        go_upto_region 25 with fail
        go_cut [156]from 122 to 157 (fun t wx=>t=.bool TT/\Below W2.heap.size W2 wx)
        case first =>
         cases K0 with
         |false =>
          go_wp2
          go_meet
          exact⟨by rw[<-E6.out,D9.out];rfl,E5⟩
         |true =>
          cases bu with
          |false =>
           go_wp2
           go_meet
           exact⟨by rw[<-E6.out,D9.out];rfl,E5⟩
          |true =>
           go_wp2_with fail
           refine(J5.out wc).mono ?_;rintro e w3⟨rfl,D2⟩;have D1:=E5.trans (D2.mono E5.size);clear D2 a0 a1 a2 a3;obtain⟨a0,a1,a2,a3⟩:=J1.out w3 D1;cases B1 with
           |false =>
            go_wp2
            go_meet
            exact⟨by rw[<-E6.out,D9.out];rfl,D1⟩
           |true =>
            cases bx with
            |true =>
             go_wp2
             go_meet
             exact⟨by rw[<-E6.out,D9.out];rfl,D1⟩
            |false =>
             cases b0 with
             |false =>
              go_wp2_with fail
              refine(N9.out w3).mono ?_;rintro e w4⟨rfl,D2⟩;have E1:=D1.trans (D2.mono D1.size);clear D2 a0 a1 a2 a3;obtain⟨a0,a1,a2,a3⟩:=J1.out w4 E1;cases B3 with
              |false =>
               go_wp2
               go_meet
               exact⟨by rw[<-E6.out,D9.out];rfl,E1⟩
              |true =>
               go_wp2
               go_meet
               exact⟨by rw[<-E6.out,D9.out];rfl,E1⟩
             |true =>
              cases bl' with
              |true =>
               go_wp2
               go_meet
               exact⟨by rw[<-E6.out,D9.out];rfl,D1⟩
              |false =>
               go_wp2_with fail
               refine(N9.out w3).mono ?_;rintro e w4⟨rfl,D2⟩;have E1:=D1.trans (D2.mono D1.size);clear D2 a0 a1 a2 a3;obtain⟨a0,a1,a2,a3⟩:=J1.out w4 E1;cases B3 with
               |false =>
                go_wp2
                go_meet
                exact⟨by rw[<-E6.out,D9.out];rfl,E1⟩
               |true =>
                go_wp2
                go_meet
                exact⟨by rw[<-E6.out,D9.out];rfl,E1⟩
        case rest =>
         obtain⟨rfl,P3⟩:=hcut;clear a0 a1 a2 a3 E5 D9 N9 J5 t1 t1' t2 t3 M7 D0 hb J9;cases TT with
         |true =>
          have P4:AR=false:=by have:=E6.out;simpa using this
          have G0:R=false:=HF.out (fun h=>Bool.false_ne_true ((((congrArg (a4C l n) HY.out).trans S0.out).trans P4).symm.trans (h.ats k E7.out).1));subst G0;go_wp2;go_ret;exact⟨rfl,G7.out _ (P2.out _ P3)⟩
         |false =>
          have L7:AR=true:=by have:=E6.out;simpa using this
          have P5:Hid (a4C l n ⟨P,Lo,U,V⟩=true):=by rw[<-L7];exact S0
          clear L7;go_wp2
          go_loopw [158] (c1n W2 x.ats Lo.data.toList U.data.toList k) (fun i _=>k-(intOf i).toNat)
          case atStart=>exact⟨0,o4 _,rfl,fun j _ h=>by omega,P3⟩
          case round =>
           clear P3;obtain⟨j,hj,rfl,L1,M9⟩:=hrel;have L3:=a8 L1;have hb:=P2.out _ M9;have D0:=G7.out _ hb;obtain⟨c2,c3,c4,c5,c6,c7⟩:=G6.out _ hb;obtain⟨a0,a1,a2,a3⟩:=J1.out _ M9;clear L1;by_cases J4:j<k
           ·have L4:j<x.ats.length:=by have:=E7.out;omega
            have N1:(j:Int)<(k:Int):=by omega
            have S8:(j:Int)<(na:Int):=by omega
            obtain⟨_,g1,g2,_⟩:=M4.out j L4;replace g1:=(D0.cell (p:=⟨g,og+j*4+1,none⟩) E3).trans g1;replace g2:=(D0.cell (p:=⟨g,og+j*4+2,none⟩) E3).trans g2;have N2:=a8 L4;generalize hz:x.ats[j]=Z at *;have HZ:=a8 hz;obtain⟨Zp,Zl,Zu,Zv⟩:=Z;dsimp only at g1 g2;clear hz
            have L8:Hid (¬(Zl.data.toList=Lo.data.toList/\Zu.data.toList=U.data.toList)->∀i (hi:i<x.ats.length),i<j+1->¬(x.ats[i].l.data.toList=Lo.data.toList/\x.ats[i].u.data.toList=U.data.toList)):=fun hq i hi N3=>by
             rcases E9 (I2 N3)with h|h
             ·exact L3.out i hi h
             ·subst h;exact fun e=>hq ⟨(congrArg (fun a:At=>a.l.data.toList) HZ.out).symm.trans e.1,(congrArg (fun a:At=>a.u.data.toList) HZ.out).symm.trans e.2⟩
            by_cases h1:Zl.data.toList=Lo.data.toList
            ·have s1:(Zl.toList==Lo.toList)=true:=by rw[x8,f9,f9,h1]
             by_cases h2:Zu.data.toList=U.data.toList
             ·have s2:(Zu.toList==U.toList)=true:=by rw[x8,f9,f9,h2]
              have H1:=a8 h1;have H2:=a8 h2;have G0:R=false:=HF.out (fun h=>(h.ats k E7.out).2 j N2.out J4 ⟨(congrArg (fun a:At=>a.l.data.toList) HZ.out).trans (H1.out.trans (congrArg (fun a:At=>a.l.data.toList) HY.out).symm),(congrArg (fun a:At=>a.u.data.toList) HZ.out).trans (H2.out.trans (congrArg (fun a:At=>a.u.data.toList) HY.out).symm)⟩);subst G0;clear h1 h2
              go_wp2_with fail
              go_quiet (fail)
              go_wp2;go_ret;exact⟨rfl,i7 D0 _⟩
             ·have s2:(Zu.toList==U.toList)=false:=by rw[e9,f9,f9];exact h2
              have P6:=a8 (L8.out (fun h=>h2 h.2));clear h1 h2
              go_wp2_with fail
              go_quiet (fail)
              go_wp2
              go_roundw
              case rel=>exact⟨j+1,J4,by go_num,P6.out,i7 M9 _⟩
              case measure=>simp[intOf];omega
            ·have s1:(Zl.toList==Lo.toList)=false:=by rw[e9,f9,f9];exact h1
             have P6:=a8 (L8.out (fun h=>h1 h.1));clear h1
             go_wp2_with fail
             go_quiet (fail)
             go_wp2
             go_roundw
             case rel=>exact⟨j+1,J4,by go_num,P6.out,i7 M9 _⟩
             case measure=>simp[intOf];omega
           ·have N1:¬(j:Int)<(k:Int):=by omega
            have E4:j=k:=by omega
            have N5:=a8 E4;clear E4 c2 c3 c4 c5 c6 c7 a0 a1 a2 a3;go_wp2
            go_roundw
            case rel =>
             refine⟨k+1,E7.out,by go_num,fun i hi N6 => ?_,hb⟩
             rcases E9 (I2 N6)with h|h
             ·exact J3.out i hi h
             ·subst h
              exact⟨(congrArg (a4C l n) HY.out).trans P5.out,fun i' hi' N7 e=>L3.out i' hi' (by rw[N5.out];exact N7) ⟨e.1.trans (congrArg (fun a:At=>a.l.data.toList) HY.out),e.2.trans (congrArg (fun a:At=>a.u.data.toList) HY.out)⟩⟩
            case measure=>simp[intOf];omega
      ·have J9:¬(k:Int)<(na:Int):=by omega
       have T2:R=true:=HT.out ⟨T0.out,T1.out,fun j hj=>J3.out j hj (by rw[M1.out]at hj;omega)⟩
       subst T2;go_wp2;go_ret;exact⟨rfl,D0⟩
def a6M(S:ByteArray):Bool:=match S.data.toList.getLast? with|some c=>(c.toNat:Int)==45|none=>false
def a3U(c:UInt8)(a b:Int):Bool:=((c.toNat:Int)==a)||((c.toNat:Int)==b)
def a1D(S:ByteArray):Bool:=match S.data.toList with | [a,b,c]=>a3U a 120 88&&(a3U b 109 77&&a3U c 108 76)|_=>false
noncomputable def a1e(l:List Nd)(n:Nat)(x:Nd):Bool :=
 Q8 x&&(tx x.t&&(bif x.k==2 then N4 x.l []&&(!N4 x.t []&&(!(x.n==0)&&(decide (O1 l n n<0) || !(kd l (O1 l n n).toNat==2))))
 else bif x.k==3 then N4 x.l []&&(!a0V x.t.data.toList [45,45]&&(N4 x.t [] || !a6M x.t))
 else bif x.k==4 then nmS x.l&&(!a1D x.l&&(!a0V x.t.data.toList [63,62]&&(N4 x.t [] || !fb x.t)))else false))
theorem a2W(l:List Nd)(n:Nat):∀k,O1 l n k = -1∨∃m:Nat,O1 l n k=(m:Int)/\m<k
 |0 => .inl rfl
 |k+1=>by
  rw[O1]
  split
  ·exact .inr ⟨k,rfl,by omega⟩
  ·rcases a2W l n k with h|⟨m,h,hm⟩
   ·exact .inl h
   ·exact .inr ⟨m,h,by omega⟩
theorem a4h(S:ByteArray){k:Nat}{c:UInt8}(h:S.data.toList[k]? = some c)(w:World):(Instr.index 9 (.string S) (.int .i64 (k:Int))).run Tryz.prog w=.ok (.int .u8 (c.toNat:Int)) w:=by
 obtain⟨hk,he⟩:=z8.1 h;have h1:=G7 S hk w;rw[he]at h1;exact h1
theorem b8F{S:ByteArray}(h:N4 S []=false):∃c,a6M S=((c.toNat:Int)==45)/\0<S.size/\S.data.toList[S.size-1]? = some c:=by
 have D0:S.data.toList≠[]:=fun e=>by
  have:=a0p.2 e;rw[h]at this;cases this
 have h0:0<S.size:=by rw[j9];exact D7.2 D0
 have hl:S.size-1<S.data.toList.length:=by rw[<-j9];omega
 refine⟨_,?_,h0,i5 hl⟩;unfold a6M;rw[List.getLast?_eq_getElem?,<-j9,i5 hl]
theorem b5L{S:ByteArray}(h:S.size=3):∃a b c,a1D S=(a3U a 120 88&&(a3U b 109 77&&a3U c 108 76))/\S.data.toList[0]? = some a/\S.data.toList[1]? = some b/\S.data.toList[2]? = some c:=by
 have hl:S.data.toList.length=3:=by rw[<-j9];exact h
 match hs:S.data.toList,hl with
 | [a,b,c],_ =>
  exact⟨a,b,c,by unfold a1D;rw[hs],rfl,rfl,rfl⟩
theorem b4d{S:ByteArray}(h:S.size≠3):a1D S=false:=by
 unfold a1D
 split
 ·rename_i a b c hs
  exact absurd (by rw[j9,hs];rfl) h
 ·rfl
theorem b4v(l:List Nd)(v:Value)(n:Nat)(w:World)(hv:S3 w w.heap.size v l)(hn:n<l.length)(E0:l.length<=2000000)(hs:∀x∈l,Sm x) :
 Calls Tryz.prog 136 #[v,.int .i64 (n:Int)] w fun e w'=>e=.returned (.bool (a1e l n l[n]))/\Below w.heap.size w w':=by
 have E6:=hs _ (o0 hn);have G6:Hid (∀w',Below w.heap.size w w'->Calls Tryz.prog 183 #[v,.int .i64 (n:Int)] w' fun e w''=>e=.returned (.int .i64 (O1 l n n))/\Below w'.heap.size w' w''):=fun w' hb=>b5r l v n w' (hv.later hb) hn E0;have J5:=a8 (a2W l n n);obtain⟨bl,o,cap,rfl,J6,L8,J7,E7⟩:=hv.open (by intro h;subst h;simp at hn)
 have G7:Hid (∀k,k<l.length->w.cell? ⟨bl,o+k*8,none⟩=some (.int .i64 (kd l k))):=fun k hk=>by
  obtain⟨vd,va,d0,_⟩:=(E7 k hk).cells;rw[a2s hk];exact d0
 obtain⟨vd,va,d0,d1,d2,d3,d4,d5,d6,d7,G8,G9⟩:=(E7 n hn).cells;have J8:Hid (∀w',Below w.heap.size w w'->Calls Tryz.prog 134 #[.agg #[.int .i64 l[n].k,.int .i64 l[n].n,.string l[n].p,.string l[n].l,.string l[n].u,.string l[n].t,vd,va]] w' fun e w''=>e=.returned (.bool (Q8 l[n]))/\Below w'.heap.size w' w''):=fun w' hb=>a7N l[n] _ w' (NdV.later ⟨vd,va,rfl,G8,G9⟩ hb);have st:=E6.t;have sl:=E6.l;have J9:Hid (∀w',Calls Tryz.prog 182 #[.string l[n].t] w' fun e w''=>e=.returned (.bool (tx l[n].t))/\Below w'.heap.size w' w''):=fun w'=>a2g _ st w';have L0:Hid (∀w',Calls Tryz.prog 184 #[.string l[n].t,.string ⟨#[45,45]⟩] w' fun e w''=>e=.returned (.bool (a0V l[n].t.data.toList [45,45]))/\w''=w'):=fun w'=>b3t _ ⟨#[45,45]⟩ w' st (by show(2:Nat)<=_;omega)
 have L1:Hid (∀w',Calls Tryz.prog 184 #[.string l[n].t,.string ⟨#[63,62]⟩] w' fun e w''=>e=.returned (.bool (a0V l[n].t.data.toList [63,62]))/\w''=w'):=fun w'=>b3t _ ⟨#[63,62]⟩ w' st (by show(2:Nat)<=_;omega)
 have L2:Hid (∀w',Calls Tryz.prog 181 #[.string l[n].l] w' fun e w''=>e=.returned (.bool (nmS l[n].l))/\Below w'.heap.size w' w''):=fun w'=>a07 _ sl w'
 have HX:Hid (a1e l n l[n]=(Q8 l[n]&&(tx l[n].t&&(bif l[n].k==2 then N4 l[n].l []&&(!N4 l[n].t []&&(!(l[n].n==0)&&(decide (O1 l n n<0) || !(kd l (O1 l n n).toNat==2))))
  else bif l[n].k==3 then N4 l[n].l []&&(!a0V l[n].t.data.toList [45,45]&&(N4 l[n].t [] || !a6M l[n].t))
  else bif l[n].k==4 then nmS l[n].l&&(!a1D l[n].l&&(!a0V l[n].t.data.toList [63,62]&&(N4 l[n].t [] || !fb l[n].t)))else false)))):=rfl
 obtain⟨R,hR⟩ : ∃R,a1e l n l[n]=R:=⟨_,rfl⟩;rw[hR]at HX ⊢;obtain⟨q,J1⟩ : ∃q,l.length=q:=⟨_,rfl⟩;rw[J1]at J6 hn E0 G6 G7 ⊢;obtain⟨A1,c1,rfl,-⟩:=G8;obtain⟨A2,c2,rfl,-⟩:=G9;generalize O1 l n n=ah at *;clear E7 hv J1 hR hs E6;generalize l[n]=x at *;generalize Q8 x=Bb at *;generalize tx x.t=Bt at *;generalize a0V x.t.data.toList [45,45]=Bh at *;generalize a0V x.t.data.toList [63,62]=Bq at *;generalize nmS x.l=Bn at *;obtain⟨k2,f2,K2⟩:=a1N x.k 2;obtain⟨k3,f3,K3⟩:=a1N x.k 3;obtain⟨k4,f4,K4⟩:=a1N x.k 4;obtain⟨z0,fz,Z0⟩:=a1N x.n 0;obtain⟨bl0,el,EL⟩:=a0z x.l;obtain⟨bt0,et,ET⟩:=a0z x.t;rw[f2,f3,f4,fz,el,et]at HX;have L9:=a8 el;have J2:=a8 et;have s2:=K2.out;have s3:=K3.out;have s4:=K4.out;have sz:(x.n != 0) = !z0:=by have:=Z0.out;simp[bne,this]
 obtain⟨t1,t1'⟩:=EL.out;obtain⟨t2,t2'⟩:=ET.out;obtain⟨P,hP⟩ : ∃P,x.p=P:=⟨_,rfl⟩;clear f2 f3 f4 fz el et K2 K3 K4 Z0 EL ET hP;obtain⟨W1,E4⟩ : ∃W1,w.alloc (Obj.cells #[.int .i64 x.k,.int .i64 x.n,.string x.p,.string x.l,.string x.u,.string x.t,.slice A1 x.ds.length c1,.slice A2 x.ats.length c2] 46)=W1:=⟨_,rfl⟩
 have D9:Hid (∀wr,Below W1.heap.size W1 wr->wr.cell? ⟨w.heap.size,0,none⟩=some (.int .i64 x.k)/\wr.cell? ⟨w.heap.size,1,none⟩=some (.int .i64 x.n)/\wr.cell? ⟨w.heap.size,2,none⟩=some (.string x.p)/\wr.cell? ⟨w.heap.size,3,none⟩=some (.string x.l)/\wr.cell? ⟨w.heap.size,4,none⟩=some (.string x.u)/\wr.cell? ⟨w.heap.size,5,none⟩=some (.string x.t)/\wr.cell? ⟨w.heap.size,6,none⟩=some (.slice A1 x.ds.length c1)/\wr.cell? ⟨w.heap.size,7,none⟩=some (.slice A2 x.ats.length c2)):=fun wr hb=>by
  rw[<-E4]at hb;exact⟨v8 (j:=0) hb rfl,v8 (j:=1) hb rfl,v8 (j:=2) hb rfl,v8 (j:=3) hb rfl,v8 (j:=4) hb rfl,v8 (j:=5) hb rfl,v8 (j:=6) hb rfl,v8 (j:=7) hb rfl⟩
 have D0:Hid (∀wr,Below W1.heap.size W1 wr->Below w.heap.size w wr):=fun wr hb=>by
  rw[<-E4]at hb;exact E8 hb
 have E5:=b8 W1.heap.size W1;have J3:=a8 E4;clear E4;go_enter Tryz.func136,Tryz.ntmps136
 go_upto_region 2 with fail
 rw[J3.out];clear J3 d0 d1 d2 d3 d4 d5 d6 d7;obtain⟨b0,b1,b2,b3,b4,b5,b6,b7⟩:=D9.out W1 E5
 go_wp2_with fail
 refine(J8.out W1 (D0.out W1 E5)).mono ?_;rintro e w2⟨rfl,D3⟩;have h2:=E5.trans (D3.mono E5.size);clear D3;clear b0 b1 b2 b3 b4 b5 b6 b7;obtain⟨b0,b1,b2,b3,b4,b5,b6,b7⟩:=D9.out w2 h2;cases Bb with
 |true =>
  go_wp2_with fail
  refine(J9.out w2).mono ?_;rintro e w3⟨rfl,D3⟩;have h3:=h2.trans (D3.mono h2.size);clear D3;clear b0 b1 b2 b3 b4 b5 b6 b7;obtain⟨b0,b1,b2,b3,b4,b5,b6,b7⟩:=D9.out w3 h3;cases Bt with
  |true =>
   cases k2 with
   |true =>
    go_wp2_with fail
    refine(G6.out w3 (D0.out w3 h3)).mono ?_;rintro e w4⟨rfl,D3⟩;have h4:=h3.trans (D3.mono h3.size);clear D3;clear b0 b1 b2 b3 b4 b5 b6 b7;obtain⟨b0,b1,b2,b3,b4,b5,b6,b7⟩:=D9.out w4 h4;cases bl0 with
    |true =>
     cases bt0 with
     |true =>
      go_wp2;go_ret;exact⟨by rw[HX.out];rfl,D0.out w4 h4⟩
     |false =>
      cases z0 with
      |true =>
       go_wp2;go_ret;exact⟨by rw[HX.out];rfl,D0.out w4 h4⟩
      |false =>
       rcases J5.out with rfl|⟨m,rfl,hm⟩
       ·have E1:Hid (R=true):=by show _=_;rw[HX.out];simp
        go_wp2;go_ret;exact⟨by rw[E1.out];rfl,D0.out w4 h4⟩
       ·have L3:m<q:=by omega
        have L4:¬(m:Int)<0:=by omega
        have G0:=f8 L4;have g0:=((D0.out w4 h4).cell (p:=⟨bl,o+m*8,none⟩) J7).trans (G7.out m L3);have E1:Hid (R = !(kd l m==2)):=by show _=_;rw[HX.out,G0,J0];rfl
        obtain⟨kk,fk,KK⟩:=a1N (kd l m) 2;rw[fk]at E1;have sk:(kd l m != 2) = !kk:=by have:=KK.out;simp[bne,this]
        clear fk KK hm;generalize kd l m=y at *;cases kk with
        |true =>
         go_wp2;go_ret;exact⟨by rw[E1.out];rfl,D0.out w4 h4⟩
        |false =>
         go_wp2;go_ret;exact⟨by rw[E1.out];rfl,D0.out w4 h4⟩
    |false =>
     go_wp2;go_ret;exact⟨by rw[HX.out];rfl,D0.out w4 h4⟩
   |false =>
    cases k3 with
    |true =>
     cases bl0 with
     |true =>
      go_wp2_with fail
      refine(L0.out w3).mono ?_;rintro e wq⟨rfl,hw⟩;rw[hw];clear hw;cases Bh with
      |true =>
       go_wp2;go_ret;exact⟨by rw[HX.out];rfl,D0.out w3 h3⟩
      |false =>
       cases bt0 with
       |true =>
        go_wp2;go_ret;exact⟨by rw[HX.out];rfl,D0.out w3 h3⟩
       |false =>
        obtain⟨cc,E2,M0,G1⟩:=b8F J2.out;rw[E2]at HX;have E3:((x.t.size:Int)-1)=((x.t.size-1:Nat):Int):=by omega
        have L5:x.t.size-1<x.t.size:=by omega
        have L6:∀w,(Instr.index 9 (.string x.t) (.int .i64 ((x.t.size:Int)-1))).run Tryz.prog w=.ok (.int .u8 (cc.toNat:Int)) w:=fun w=>by rw[E3];exact a4h x.t G1 w
        obtain⟨kk,fk,KK⟩:=a1N (cc.toNat:Int) 45;rw[fk]at HX;have sk:(((cc.toNat:Int)) != 45) = !kk:=by have:=KK.out;simp[bne,this]
        clear fk KK E2 G1 E3;cases kk with
        |true =>
         go_wp2;go_ret;exact⟨by rw[HX.out];rfl,D0.out w3 h3⟩
        |false =>
         go_wp2;go_ret;exact⟨by rw[HX.out];rfl,D0.out w3 h3⟩
     |false =>
      go_wp2;go_ret;exact⟨by rw[HX.out];rfl,D0.out w3 h3⟩
    |false =>
     cases k4 with
     |true =>
      obtain⟨XM,G4⟩ : ∃X,a1D x.l=X:=⟨_,rfl⟩;rw[G4]at HX;have D2:=a8 G4;clear G4
      go_upto_region 12 with fail
      go_cut [8]from 84 to 117 (fun t wx=>t=.bool XM/\wx=w3)
      case first =>
       by_cases h3':x.l.size=3
       ·obtain⟨ca,cb,cc,G5,i0,i1,i2⟩:=b5L h3'
        have J4:(x.l.size:Int)=3:=by omega
        have M1:∀w,(Instr.index 9 (.string x.l) (.int .i64 0)).run Tryz.prog w=.ok (.int .u8 (ca.toNat:Int)) w:=fun w=>a4h (k:=0) x.l i0 w;have M2:∀w,(Instr.index 9 (.string x.l) (.int .i64 1)).run Tryz.prog w=.ok (.int .u8 (cb.toNat:Int)) w:=fun w=>a4h (k:=1) x.l i1 w;have M3:∀w,(Instr.index 9 (.string x.l) (.int .i64 2)).run Tryz.prog w=.ok (.int .u8 (cc.toNat:Int)) w:=fun w=>a4h (k:=2) x.l i2 w;obtain⟨u0a,fu,U0a⟩:=a1N (ca.toNat:Int) 120;obtain⟨u0b,fv,U0b⟩:=a1N (ca.toNat:Int) 88;have q0a:=U0a.out;have q0b:=U0b.out;have x0:a3U ca 120 88=(u0a||u0b):=by unfold a3U;rw[fu,fv]
        clear fu fv U0a U0b;obtain⟨u1a,fu,U1a⟩:=a1N (cb.toNat:Int) 109;obtain⟨u1b,fv,U1b⟩:=a1N (cb.toNat:Int) 77;have q1a:=U1a.out;have q1b:=U1b.out;have x1:a3U cb 109 77=(u1a||u1b):=by unfold a3U;rw[fu,fv]
        clear fu fv U1a U1b;obtain⟨u2a,fu,U2a⟩:=a1N (cc.toNat:Int) 108;obtain⟨u2b,fv,U2b⟩:=a1N (cc.toNat:Int) 76;have q2a:=U2a.out;have q2b:=U2b.out;have x2:a3U cc 108 76=(u2a||u2b):=by unfold a3U;rw[fu,fv]
        clear fu fv U2a U2b;rw[x0,x1,x2]at G5;have D1:=a8 G5;clear x0 x1 x2 G5 i0 i1 i2 h3';cases u0a with
        |true =>
         cases u1a with
         |true =>
          cases u2a with
          |true =>
           go_wp2
           go_meet
           exact⟨by rw[<-D2.out,D1.out];rfl,rfl⟩
          |false =>
           cases u2b with
           |true =>
            go_wp2
            go_meet
            exact⟨by rw[<-D2.out,D1.out];rfl,rfl⟩
           |false =>
            go_wp2
            go_meet
            exact⟨by rw[<-D2.out,D1.out];rfl,rfl⟩
         |false =>
          cases u1b with
          |true =>
           cases u2a with
           |true =>
            go_wp2
            go_meet
            exact⟨by rw[<-D2.out,D1.out];rfl,rfl⟩
           |false =>
            cases u2b with
            |true =>
             go_wp2
             go_meet
             exact⟨by rw[<-D2.out,D1.out];rfl,rfl⟩
            |false =>
             go_wp2
             go_meet
             exact⟨by rw[<-D2.out,D1.out];rfl,rfl⟩
          |false =>
           go_wp2
           go_meet
           exact⟨by rw[<-D2.out,D1.out];rfl,rfl⟩
        |false =>
         cases u0b with
         |true =>
          cases u1a with
          |true =>
           cases u2a with
           |true =>
            go_wp2
            go_meet
            exact⟨by rw[<-D2.out,D1.out];rfl,rfl⟩
           |false =>
            cases u2b with
            |true =>
             go_wp2
             go_meet
             exact⟨by rw[<-D2.out,D1.out];rfl,rfl⟩
            |false =>
             go_wp2
             go_meet
             exact⟨by rw[<-D2.out,D1.out];rfl,rfl⟩
          |false =>
           cases u1b with
           |true =>
            cases u2a with
            |true =>
             go_wp2
             go_meet
             exact⟨by rw[<-D2.out,D1.out];rfl,rfl⟩
            |false =>
             cases u2b with
             |true =>
              go_wp2
              go_meet
              exact⟨by rw[<-D2.out,D1.out];rfl,rfl⟩
             |false =>
              go_wp2
              go_meet
              exact⟨by rw[<-D2.out,D1.out];rfl,rfl⟩
           |false =>
            go_wp2
            go_meet
            exact⟨by rw[<-D2.out,D1.out];rfl,rfl⟩
         |false =>
          go_wp2
          go_meet
          exact⟨by rw[<-D2.out,D1.out];rfl,rfl⟩
       ·have J4:¬(x.l.size:Int)=3:=by omega
        have M4:((x.l.size:Int)==3)=false:=by rw[e9];exact J4
        have D1:=a8 (b4d h3');clear h3';go_wp2
        go_meet
        exact⟨by rw[<-D2.out,D1.out],rfl⟩
      case rest =>
       obtain⟨rfl,rfl⟩:=hcut;clear b0 b1 b2 b3 b4 b5 b6 b7;obtain⟨b0,b1,b2,b3,b4,b5,b6,b7⟩:=D9.out wc h3
       go_wp2_with fail
       refine(L2.out wc).mono ?_;rintro e w4⟨rfl,D3⟩;have h4:=h3.trans (D3.mono h3.size);clear D3;clear b0 b1 b2 b3 b4 b5 b6 b7;obtain⟨b0,b1,b2,b3,b4,b5,b6,b7⟩:=D9.out w4 h4;cases Bn with
       |true =>
        cases XM with
        |true =>
         go_wp2;go_ret;exact⟨by rw[HX.out];rfl,D0.out w4 h4⟩
        |false =>
         go_wp2_with fail
         refine(L1.out w4).mono ?_;rintro e wq⟨rfl,hw⟩;rw[hw];clear hw;cases Bq with
         |true =>
          go_wp2;go_ret;exact⟨by rw[HX.out];rfl,D0.out w4 h4⟩
         |false =>
          cases bt0 with
          |true =>
           go_wp2;go_ret;exact⟨by rw[HX.out];rfl,D0.out w4 h4⟩
          |false =>
           obtain⟨cc,E2,G1⟩:=b9t J2.out;rw[E2]at HX;have L7:Hid (∀w,Calls Tryz.prog 84 #[.int .u8 (cc.toNat:Int)] w fun e w'=>e=.returned (.bool (X0 cc))/\w'=w):=fun w=>by rw[<-a0r];exact a01 _ w
           generalize X0 cc=Bk at *;clear E2
           go_wp2_with fail
           refine(L7.out w4).mono ?_;rintro e wq⟨rfl,hw⟩;rw[hw];clear hw;cases Bk with
           |true =>
            go_wp2;go_ret;exact⟨by rw[HX.out];rfl,D0.out w4 h4⟩
           |false =>
            go_wp2;go_ret;exact⟨by rw[HX.out];rfl,D0.out w4 h4⟩
       |false =>
        go_wp2;go_ret;exact⟨by rw[HX.out];rfl,D0.out w4 h4⟩
     |false =>
      go_wp2;go_ret;exact⟨by rw[HX.out];rfl,D0.out w3 h3⟩
  |false =>
   go_wp2;go_ret;exact⟨by rw[HX.out];rfl,D0.out w3 h3⟩
 |false =>
  go_wp2;go_ret;exact⟨by rw[HX.out];rfl,D0.out w2 h2⟩
end Go.Proofs.YtlgcigmolfhamaaGreatDoor
