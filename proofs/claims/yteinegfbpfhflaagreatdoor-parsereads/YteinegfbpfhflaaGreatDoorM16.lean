/-
  doc.hangs: whether a node hangs where it may. Conditions: the list lies as it is; those ahead hang on nodes ahead.
  doc.besideText: whether a node and the one ahead of it are Texts side by side. Conditions: the list lies as it is.
  doc.placed: whether all nodes behind the Root stand where they may. Conditions: the list lies as it is, and is not too long.
  doc.within: whether a list is within the limits. Conditions: the list lies as it is; each node hangs on one ahead.
-/
import Derived.Test.YteinegfbpfhflaaGreatDoorM12
import Derived.Deep.LoopGhost
import Derived.RegionTactic
import Derived.Deep.OwnRows
namespace Go.Proofs.YteinegfbpfhflaaGreatDoor
open Go.RowKit
set_option linter.unusedVariables false
set_option maxRecDepth 100000
set_option maxHeartbeats 8000000
def Iy(w:World)(l:List Nd)(i p:Nat)(a:Value)(wr:World):Prop:=∃k:Nat,k<i/\a=.int .i64 k/\(p∈gQ l (i-1)↔p∈gQ l k)/\wr=w
theorem AJ(l:List Nd)(v:Value)(i:Nat)(w:World)(hv:eD w w.heap.size v l)(h1:1<=i)(hi:i<l.length)(hh:fl l i)(hlen:l.length<=2000000) :
 Calls Tryz.prog 138 #[v,.int .i64 (i:Int)] w fun e w'=>e=.returned (.bool (ej l i))/\w'=w:=by
 obtain⟨b,o,cap,rfl,hc1,hc2,hbB,hnd⟩:=hv.open (by intro h;subst h;simp at hi)
 obtain⟨vd,va,c0,c1,_⟩:=(hnd i hi).cells;rw[<-fS hi]at c1;obtain⟨B,hB⟩ : ∃B,ej l i=B:=⟨_,rfl⟩;rw[hB];have HB:=aa hB;have HND:=aa hnd;have HH:=aa hh;obtain⟨p,hp⟩ : ∃p,pa l i=p:=⟨_,rfl⟩;rw[hp]at c1;have HP:=aa hp;have hiz:(i:Int)<(l.length:Int):=by omega
 obtain⟨n,hn⟩ : ∃n,l.length=n:=⟨_,rfl⟩;have HN:=aa hn;rw[hn]at hiz hc1 hlen ⊢;clear hB hnd hh hp c0 hn;by_cases hneg:p<0
 ·have hF:false=B:=by rw[<-HB.out];unfold ej;rw[HP.out];simp;omega
  subst hF;go_enter Tryz.func138,Tryz.ntmps138;go_wp2;go_ret;exact⟨rfl,rfl⟩
 ·obtain⟨q,rfl⟩ : ∃q:Nat,p=(q:Int):=⟨p.toNat,by omega⟩
  go_enter Tryz.func138,Tryz.ntmps138;go_wp2
  go_loopw [6] (Iy w l i q) (fun a _=>(intOf a).toNat)
  case atStart=>exact⟨i-1,by omega,by go_num,Iff.rfl,rfl⟩
  case round =>
   obtain⟨k,hk,rfl,hm,rfl⟩:=hrel;have HM:=aa hm;clear hm;by_cases hlt:q<k
   ·have hkl:k<l.length:=by rw[HN.out];omega
    obtain⟨vd',va',d0,d1,_⟩:=(HND.out k hkl).cells;rw[<-fS hkl]at d1;have hs:=HH.out k (by omega) hk
    have HS:Hid (q∈gQ l (i-1)↔q∈gQ l (pa l k).toNat):=HM.out.trans (u0 HH.out hk hlt);obtain⟨z,hz⟩ : ∃z:Nat,pa l k=(z:Int):=⟨(pa l k).toNat,by omega⟩
    rw[hz]at d1 hs HS;have hkz:(q:Int)<(k:Int):=by omega
    have hkn:(k:Int)<(n:Int):=by omega
    clear d0 hz;go_wp2
    go_roundw
    case rel=>exact⟨z,by omega,rfl,HS.out,rfl⟩
    case measure=>simp[intOf];omega
   ·have hkz:¬(q:Int)<(k:Int):=by omega
    have hmem:q∈gQ l (i-1)↔q=k:=HM.out.trans (yG (by omega))
    by_cases he:k=q
    ·subst he
     have hkl:k<l.length:=by rw[HN.out];omega
     obtain⟨vd',va',d0,d1,_⟩:=(HND.out k hkl).cells;rw[<-jN hkl]at d0
     have hR:(kd l k==0||kd l k==1)=B:=by
      rw[<-HB.out];unfold ej;rw[HP.out];simp[hmem]
     have HR:=aa hR;have hkn:(k:Int)<(n:Int):=by omega
     generalize kd l k=y at *;clear hmem hR d1;go_wp2
     all_goals
      go_ret;refine⟨dH ?_,rfl⟩;rw[<-HR.out]<;>simp[*]
    ·have hke:((k:Int)==(q:Int))=false:=by rw[ak];omega
     have hF:false=B:=by
      rw[<-HB.out];unfold ej;rw[HP.out];have:¬q∈gQ l (i-1):=fun h=>he (hmem.1 h).symm;simp[this]
     subst hF;clear hmem;go_wp2;go_ret;exact⟨rfl,rfl⟩
def fs(l:List Nd)(i:Nat):Bool:=(kd l i==2)&&((kd l (i-1)==2)&&(pa l i==pa l (i-1)))
theorem x8(l:List Nd)(v:Value)(i:Nat)(w:World)(hv:eD w w.heap.size v l)(h1:1<=i)(hi:i<l.length)(hlen:l.length<=2000000) :
 Calls Tryz.prog 139 #[v,.int .i64 (i:Int)] w fun e w'=>e=.returned (.bool (fs l i))/\Below w.heap.size w w':=by
 obtain⟨b,o,cap,rfl,hc1,hc2,hbB,hnd⟩:=hv.open (by intro h;subst h;simp at hi)
 obtain⟨j,rfl⟩ : ∃j,i=j+1:=⟨i-1,by omega⟩
 obtain⟨vd,va,c0,c1,c2,c3,c4,c5,c6,c7,⟨A1,q1,rfl,_⟩,⟨A2,q2,rfl,_⟩⟩:=(hnd (j+1) hi).cells;obtain⟨vd',va',d0,d1,d2,d3,d4,d5,d6,d7,⟨A3,q3,rfl,_⟩,⟨A4,q4,rfl,_⟩⟩:=(hnd j (by omega)).cells
 unfold fs;rw[show j+1-1=j from rfl];rw[<-jN hi]at c0;rw[<-fS hi]at c1;rw[<-jN (l:=l) (i:=j) (by omega)]at d0
 rw[<-fS (l:=l) (i:=j) (by omega)]at d1
 generalize kd l (j+1)=K at *;generalize pa l (j+1)=N at *;generalize kd l j=K' at *;generalize pa l j=N' at *;generalize l[j+1].ds.length=n1 at *;generalize l[j+1].ats.length=n2 at *;generalize (l[j]'(by omega)).ds.length=n3 at *
 generalize (l[j]'(by omega)).ats.length=n4 at *
 generalize l[j+1].p=p at *;generalize l[j+1].l=lo at *;generalize l[j+1].u=u at *;generalize l[j+1].t=t at *;generalize (l[j]'(by omega)).p=p' at *
 generalize (l[j]'(by omega)).l=lo' at *
 generalize (l[j]'(by omega)).u=u' at *
 generalize (l[j]'(by omega)).t=t' at *
 obtain⟨n,hn⟩ : ∃n,l.length=n:=⟨_,rfl⟩;rw[hn]at hi hc1 hlen ⊢;have hiz:(j:Int)+1<(n:Int):=by omega
 have hjz:(j:Int)<(n:Int):=by omega
 have ho:o+(j+1)*8=o+j*8+8:=by omega
 rw[ho]at c0 c1 c2 c3 c4 c5 c6 c7;have hA:∀(o1:Obj) (k:Nat),(w.alloc o1).cell? ⟨b,k,none⟩=w.cell? ⟨b,k,none⟩:=fun o1 k=>((ae w.heap.size w).alloc (af _) o1).cell (p:=⟨b,k,none⟩) hbB;have hA2:∀(o1 o2:Obj) (k:Nat),((w.alloc o1).alloc o2).cell? ⟨b,k,none⟩=w.cell? ⟨b,k,none⟩:=fun o1 o2 k=>(((ae w.heap.size w).alloc (af _) o1).alloc (by simp) o2).cell (p:=⟨b,k,none⟩) hbB
 clear hnd hn;go_enter Tryz.func139,Tryz.ntmps139;go_wp2
 go_region
 all_goals
  go_wp2
 all_goals
  go_ret;refine⟨dH ?_,?_⟩
  ·rw[bm]
   simp[*]
  ·exact(((ae w.heap.size w).alloc (af _) _).alloc (by simp) _).drew
def sT(l:List Nd)(i:Nat):Bool:=ej l i&&(!fs l i&&(!(pa l i==0)||(kd l i==1||(kd l i==3||kd l i==4))))
def eK(l:List Nd):Nat->Nat
 |0=>0
 |i+1=>eK l i+(if 1<=i/\pa l i=0/\kd l i=1 then 1 else 0)
theorem sn(l:List Nd):∀i,eK l i<=i
 |0=>af _
 |i+1=>by rw[eK];have:=sn l i;split<;>omega
open Classical in
noncomputable def dT(l:List Nd):Bool:=decide ((∀i,1<=i->i<l.length->sT l i=true)/\eK l l.length=1)
theorem ie{l:List Nd}{i:Nat}(h1:1<=i)(h:ej l i=true):0<=pa l i/\pa l i<(i:Int):=by
 unfold ej at h;simp only[aO,bj]at h;have:=qj h.1.2;omega
theorem yS{l:List Nd}{i:Nat}(h:∀j,1<=j->j<i->sT l j=true):fl l i:=fun j h1 h2=>by
 have:=h j h1 h2;unfold sT at this;rw[aO]at this;exact ie h1 this.1
theorem rf{l:List Nd}{i:Nat}(h1:1<=i)(h2:i<l.length)(h:sT l i=false):dT l=false:=by
 unfold dT;rw[bT];rintro⟨h',_⟩;rw[h' i h1 h2]at h;cases h
theorem xn{l:List Nd}(h:∀j,1<=j->j<l.length->sT l j=true):dT l=decide (eK l l.length=1):=by
 unfold dT;exact decide_eq_decide.2 ⟨fun h'=>h'.2,fun h'=>⟨h,h'⟩⟩
def F7(w:World)(l:List Nd)(t i:Value)(wr:World):Prop :=
 ∃k:Nat,1<=k/\k<=l.length/\i=.int .i64 k/\t=.int .i64 (eK l k:Nat)/\(∀j,1<=j->j<k->sT l j=true)/\Below w.heap.size w wr
theorem vp{p:Nat->Prop}{k:Nat}(h:∀j,1<=j->j<k->p j)(hk:p k):∀j,1<=j->j<k+1->p j:=fun j h1 hj=>by
 rcases bU (cC hj)with h2|h2
 ·exact h j h1 h2
 ·rw[h2];exact hk
theorem xo(l:List Nd)(v:Value)(w:World)(hv:eD w w.heap.size v l)(h0:0<l.length)(hlen:l.length<=2000000) :
 Calls Tryz.prog 95 #[v] w fun e w'=>e=.returned (.bool (dT l))/\Below w.heap.size w w':=by
 have HV:=aa hv;obtain⟨b,o,cap,rfl,hc1,hc2,hbB,hnd⟩:=hv.open (by intro h;subst h;simp at h0)
 have HND:=aa hnd;obtain⟨R,hR⟩ : ∃R,dT l=R:=⟨_,rfl⟩;rw[hR];have HR:=aa hR;obtain⟨n,hn⟩ : ∃n,l.length=n:=⟨_,rfl⟩;have HN:=aa hn;rw[hn]at h0 hlen hc1 ⊢;clear hnd hR hn;go_enter Tryz.func95,Tryz.ntmps95;go_wp2
 go_loopw [3,4] (F7 w l) (fun _ i _=>n-(intOf i).toNat)
 case atStart=>exact⟨1,af _,by rw[HN.out];omega,rfl,rfl,fun j h1 h2=>by omega,ae _ _⟩
 case round =>
  obtain⟨k,hk1,hk,rfl,rfl,hok,hb⟩:=hrel;rw[HN.out]at hk;have HOK:=aa hok;clear hok;by_cases hlt:k<n
  ·have hkl:k<l.length:=by rw[HN.out];exact hlt
   have HH:=aa (AJ l _ k wr (HV.out.later hb) hk1 hkl (yS HOK.out) (by rw[HN.out];exact hlen))
   have HB:=aa (x8 l _ k wr (HV.out.later hb) hk1 hkl (by rw[HN.out];exact hlen))
   rw[HN.out]at HH HB;obtain⟨vd,va,c0,c1,_⟩:=(HND.out k hkl).cells;rw[<-jN hkl]at c0;rw[<-fS hkl]at c1;have hkz:(k:Int)<(n:Int):=by omega
   have htz:=sn l k;have HNO:Hid (sT l k=false->R=false):=fun h=>by rw[<-HR.out];exact rf hk1 hkl h
   have HYES:Hid (sT l k=true->∀w',Below w.heap.size w w'->F7 w l (.int .i64 (eK l (k+1):Nat)) (.int .i64 ((k+1:Nat):Int)) w'):=fun h w' hb'=>⟨k+1,by omega,hkl,rfl,rfl,vp HOK.out h,hb'⟩
   have HTP:Hid (eK l (k+1)=eK l k+(if 1<=k/\pa l k=0/\kd l k=1 then 1 else 0)):=rfl;have hKK:sT l k=(ej l k&&(!fs l k&&(!(pa l k==0)||(kd l k==1||(kd l k==3||kd l k==4))))):=rfl;rw[hKK]at HNO HYES;generalize eK l k=T at *;generalize eK l (k+1)=T' at *;generalize ej l k=B1 at *;generalize fs l k=B2 at *;generalize pa l k=p at *;generalize kd l k=q at *;clear hKK;cases B1 with
   |false =>
    obtain rfl:=HNO.out rfl
    go_wp2_with fail
    refine HH.out.mono ?_;rintro e w1⟨rfl,hw1⟩;rw[hw1];go_wp2;go_ret;exact⟨rfl,hb⟩
   |true =>
    go_wp2_with fail
    refine HH.out.mono ?_;rintro e w1⟨rfl,hw1⟩;rw[hw1];clear hw1
    go_wp2_with fail
    refine HB.out.mono ?_;rintro e w2⟨rfl,hb2⟩;have hbw:=hb.trans (hb2.mono hb.size);replace c0:=(hbw.cell (p:=⟨b,o+k*8,none⟩) hbB).trans c0;replace c1:=(hbw.cell (p:=⟨b,o+k*8+1,none⟩) hbB).trans c1;cases B2 with
    |true =>
     obtain rfl:=HNO.out rfl;go_wp2;go_ret;exact⟨rfl,hbw⟩
    |false =>
     by_cases hp:p=0
     ·subst hp
      by_cases hq1:q=1
      ·subst hq1
       have hT:T'=T+1:=by rw[HTP.out];simp[hk1]
       rw[hT]at HYES;go_wp2
       go_roundw
       case rel=>exact(show Value.int .i64 ((k+1:Nat):Int)=_ by go_num) ▸ (show Value.int .i64 ((T+1:Nat):Int)=_ by go_num) ▸ HYES.out (by simp) _ hbw
       case measure=>simp[intOf];omega
      ·have hT:T'=T:=by rw[HTP.out];simp[hq1]
       rw[hT]at HYES;have t1:(q==1)=false:=by simpa using hq1
       by_cases hq3:q=3
       ·subst hq3
        go_wp2
        go_roundw
        case rel=>exact(show Value.int .i64 ((k+1:Nat):Int)=_ by go_num) ▸ HYES.out (by simp) _ hbw
        case measure=>simp[intOf];omega
       ·have t3:(q==3)=false:=by simpa using hq3
        by_cases hq4:q=4
        ·subst hq4
         go_wp2
         go_roundw
         case rel=>exact(show Value.int .i64 ((k+1:Nat):Int)=_ by go_num) ▸ HYES.out (by simp) _ hbw
         case measure=>simp[intOf];omega
        ·have t4:(q==4)=false:=by simpa using hq4
         obtain rfl:=HNO.out (by simp[t1,t3,t4])
         go_wp2;go_ret;exact⟨rfl,hbw⟩
     ·have hT:T'=T:=by rw[HTP.out];simp[hp]
      rw[hT]at HYES;have t0:(p==0)=false:=by simpa using hp
      have t0':(p != 0)=true:=by simpa using hp
      go_wp2
      go_roundw
      case rel=>exact(show Value.int .i64 ((k+1:Nat):Int)=_ by go_num) ▸ HYES.out (by simp[t0]) _ hbw
      case measure=>simp[intOf];omega
  ·have hkn:k=n:=by omega
   subst hkn;have hkz:¬(k:Int)<(k:Int):=by omega
   have hRe:R=decide (eK l k=1):=by rw[<-HR.out,xn (by rw[HN.out];exact HOK.out),HN.out]
   have HRE:=aa hRe;generalize eK l k=T at *;clear hRe;go_wp2;go_ret;refine⟨dH ?_,hb⟩;rw[HRE.out,bm];simp;omega
def dp(l:List Nd)(i:Nat):Nat:=(gQ l i).length-1
theorem zf{l:List Nd}(h:pa l 0 = -1):dp l 0=0:=by
 unfold dp;rw[iu (by rw[h];omega)];rfl
theorem tH{l:List Nd}{n:Nat}(h:0<=pa l n/\(pa l n).toNat<n):dp l n=dp l (pa l n).toNat+1:=by
 have h2:0<(gQ l (pa l n).toNat).length:=by rw[gQ];simp
 unfold dp;rw[fh h,az];omega
theorem F2(l:List Nd):∀i,dp l i<=i:=by
 intro i
 induction i using Nat.strongRecOn with
 |ind i ih =>
  by_cases h:0<=pa l i/\(pa l i).toNat<i
  ·rw[tH h];have:=ih _ h.2;omega
  ·unfold dp;rw[iu h];simp
def Ap(l:List Nd)(i:Nat):Nat:=((l[i]?).map (fun x=>x.ds.length+x.ats.length)).getD 0
theorem CS{l:List Nd}{i:Nat}(h:i<l.length):Ap l i=l[i].ds.length+l[i].ats.length:=by simp[Ap,aw h]
open Classical in
noncomputable def cX(l:List Nd):Bool:=decide (l.length<=4000/\∀i,i<l.length->dp l i<=64/\Ap l i<=64)
def F5(w:World)(l:List Nd)(n:Nat)(i:Value)(wr:World):Prop :=
 ∃k:Nat,k<=n/\i=.int .i64 k/\wr.rowIs w.heap.size 3 n (fun j=>if j<k then .int .i64 (dp l j:Nat)else .int .i64 0)/\(∀j,j<k->dp l j<=64/\Ap l j<=64)/\Below w.heap.size w wr
theorem E9:(Tryz.prog.info? 3).map (fun i=>(i.zero,i.size,i.bytes))=some (some (.int .i64 0),1,8):=by kernel_rfl
theorem ke{p:Nat->Prop}{k:Nat}(h:∀j,j<k->p j)(hk:p k):∀j,j<k+1->p j:=fun j hj=>by
 rcases bU (cC hj)with h1|h1
 ·exact h j h1
 ·rw[h1];exact hk
theorem wO(l:List Nd)(v:Value)(w:World)(hv:eD w w.heap.size v l)(hlen:l.length<=2000000)(hm:∀x∈l,x.ds.length<=2000000/\x.ats.length<=2000000)(hh:fl l l.length)(h0:pa l 0 = -1) :
 Calls Tryz.prog 54 #[v] w fun e w'=>e=.returned (.bool (cX l))/\Below w.heap.size w w':=by
 have HV:=aa hv;obtain⟨A,cap,rfl,hc1,hc2⟩:=hv.slice;obtain⟨R,hR⟩ : ∃R,cX l=R:=⟨_,rfl⟩;rw[hR];have HR:=aa hR;have HH:=aa hh;have H0:=aa h0;have HM:=aa hm;obtain⟨n,hn⟩ : ∃n,l.length=n:=⟨_,rfl⟩;have HN:=aa hn;rw[hn]at hlen hc1 ⊢;clear hh h0 hR hn hm;by_cases hbig:4000<n
 ·have hz:(4000:Int)<(n:Int):=by omega
  have hF:false=R:=by
   rw[<-HR.out];unfold cX;exact(ap (by rw[HN.out];omega)).symm
  subst hF;go_enter Tryz.func54,Tryz.ntmps54;go_wp2;go_ret;exact⟨rfl,ae _ _⟩
 ·have hz:¬(4000:Int)<(n:Int):=by omega
  have hmk:=run_make_row' (P:=Tryz.prog) 108 3 (.int .i64 0) 8 Tryz.underlying108 E9 rfl .i64 .i64 n (by omega) (by omega)
  go_enter Tryz.func54,Tryz.ntmps54;go_wp2
  go_loopw [14] (F5 w l n) (fun i _=>n-(intOf i).toNat)
  case atStart=>exact⟨0,aM _,rfl,(World.rowIs_made w (.int .i64 0) n 3).congr (fun i _=>by simp),fun j hj=>by omega,(ae _ _).alloc (af _) _⟩
  case round =>
   obtain⟨k,hk,rfl,hrow,hok,hb⟩:=hrel;have HOK:=aa hok;clear hok hmk;by_cases hlt:k<n
   ·have hkl:k<l.length:=by rw[HN.out];exact hlt
    obtain⟨b,o,cap',e,_,_,hbB,hnd⟩:=(HV.out.below hb).open (by intro h;rw[h]at hkl;simp at hkl)
    simp only[aK]at e;obtain⟨rfl,_,rfl⟩:=e;obtain⟨vd,va,c0,c1,c2,c3,c4,c5,c6,c7,⟨A1,q1,rfl,_⟩,⟨A2,q2,rfl,_⟩⟩:=(hnd k hkl).cells;have hmm:=HM.out _ (aJ hkl);have HMK:=aa (CS hkl);rw[<-fS hkl]at c1;have hkz:(k:Int)<(n:Int):=by omega
    have HNO:Hid (¬(dp l k<=64/\Ap l k<=64)->R=false):=fun h=>by
     rw[<-HR.out];unfold cX;exact ap (fun h'=>h (h'.2 k hkl))
    have hdl:=F2 l k;generalize l[k].k=x0 at *;generalize l[k].p=x2 at *;generalize l[k].l=x3 at *;generalize l[k].u=x4 at *;generalize l[k].t=x5 at *;generalize l[k].ds.length=nd at *;generalize l[k].ats.length=na at *;clear hnd;rcases bw k with hk0|hk0
    ·subst hk0
     have hcg:∀o,(wr.alloc o).cell? ⟨w.heap.size,0,none⟩=some (.int .i64 0):=fun o=>by
      have:=(hrow.alloc o).cell (i:=0) (by omega)
      simpa using this
     have hd0:dp l 0=0:=zf H0.out;have HD0:=aa hd0;clear hd0;simp only[Nat.zero_mul,Nat.add_zero]at c0 c1 c2 c3 c4 c5 c6 c7;by_cases hmx:nd+na<=64
     ·have hmz:¬(64:Int)<(nd:Int)+(na:Int):=by omega
      go_wp2
      go_roundw
      case rel=>exact⟨1,hlt,by go_num,(hrow.alloc _).congr (fun i hi=>by
       by_cases h:i=0
       ·subst h;simp[HD0.out]
       ·have h1:¬i<1:=by omega
        simp[h1]),ke (k:=0) HOK.out ⟨by rw[HD0.out];omega,by rw[HMK.out];omega⟩,hb.alloc hb.size _⟩
      case measure=>simp[intOf];omega
     ·have hmz:(64:Int)<(nd:Int)+(na:Int):=by omega
      obtain rfl:=HNO.out (by rw[HMK.out];omega)
      go_wp2;go_ret;exact⟨rfl,hb.alloc hb.size _⟩
    ·have hpk:=HH.out k hk0 hkl
     have hpt:=HH.out.toNat hk0 hkl;have HDS:=aa (tH hpt);obtain⟨p,hp⟩ : ∃p:Nat,pa l k=(p:Int):=⟨(pa l k).toNat,by omega⟩
     rw[hp]at c1 hpk HDS;have hpk':p<k:=by omega
     have hpz:(p:Int)<(n:Int):=by omega
     have HDS':Hid (dp l k=dp l p+1):=HDS.out;have hdp:=F2 l p
     have hcg:∀o,(wr.alloc o).cell? ⟨w.heap.size,p,none⟩=some (.int .i64 (dp l p:Nat)):=fun o=>by
      have:=(hrow.alloc o).cell (i:=p) (by omega)
      simpa [hpk']using this
     have hck:∀o,(wr.alloc o).cell? ⟨w.heap.size,k,none⟩=some (.int .i64 0):=fun o=>by
      have:=(hrow.alloc o).cell (i:=k) (by omega)
      simpa using this
     have hfk:∀o,(wr.alloc o).frozen? ⟨w.heap.size,k,none⟩=false:=fun o=>(hrow.alloc o).frozen k
     have HNX:Hid (∀o,dp l k<=64/\Ap l k<=64->F5 w l n (.int .i64 ((k+1:Nat):Int)) ((wr.setCell ⟨w.heap.size,k,none⟩ (.int .i64 ((dp l p:Int)+1))).alloc o)):=fun o hd =>
      ⟨k+1,hlt,rfl,((hrow.set k (.int .i64 ((dp l p:Int)+1))).alloc o).congr (fun i hi=>by
       by_cases h:i=k
       ·subst h
        rw[HDS'.out];simp
       ·by_cases h2:i<k
        ·have h3:i<k+1:=by omega
         simp[h,h2,h3]
        ·have h3:¬i<k+1:=by omega
         simp[h,h2,h3]),ke HOK.out hd,(hb.setCell (p:=⟨w.heap.size,k,none⟩) (af _) _).alloc (by simpa [World.setCell]using hb.size) _⟩
     have HBO:Hid (∀o v,Below w.heap.size w ((wr.setCell ⟨w.heap.size,k,none⟩ v).alloc o)):=fun o v=>(hb.setCell (p:=⟨w.heap.size,k,none⟩) (af _) v).alloc (by simpa [World.setCell]using hb.size) o
     have hkp:(0:Int)<(k:Int):=by omega
     have hgl:=hrow.lt
     have hsv:∀o v,((wr.setCell ⟨w.heap.size,k,none⟩ v).alloc o).cell? ⟨w.heap.size,k,none⟩=some v:=fun o v=>by
      have:=((hrow.set k v).alloc o).cell (i:=k) (by omega)
      simpa using this
     clear hp HDS hrow;generalize dp l p=dpp at *;by_cases hdx:dpp+1<=64
     ·have hdz:¬(64:Int)<(dpp:Int)+1:=by omega
      by_cases hmx:nd+na<=64
      ·have hmz:¬(64:Int)<(nd:Int)+(na:Int):=by omega
       go_wp2
       go_roundw
       case rel=>exact(show Value.int .i64 ((k+1:Nat):Int)=_ by go_num) ▸ HNX.out _ ⟨by rw[HDS'.out];omega,by rw[HMK.out];omega⟩
       case measure=>simp[intOf];omega
      ·have hmz:(64:Int)<(nd:Int)+(na:Int):=by omega
       obtain rfl:=HNO.out (by rw[HMK.out];omega)
       go_wp2;go_ret;exact⟨rfl,HBO.out _ _⟩
     ·have hdz:(64:Int)<(dpp:Int)+1:=by omega
      obtain rfl:=HNO.out (by rw[HDS'.out];omega)
      go_wp2;go_ret;exact⟨rfl,HBO.out _ _⟩
   ·have hkz:¬(k:Int)<(n:Int):=by omega
    have hkn:k=n:=by omega
    have hT:true=R:=by
     rw[<-HR.out];unfold cX;exact(ax ⟨by rw[HN.out];omega,fun i hi=>HOK.out i (by rw[HN.out]at hi;omega)⟩).symm
    subst hT;go_wp2;go_ret;exact⟨rfl,hb⟩
end Go.Proofs.YteinegfbpfhflaaGreatDoor
