/-
  apostilleref07.Deep: the document's own. Conditions: the list lies as it is; the nodes hang on nodes ahead. apostilleref07.Formed and Check: the document's own. Conditions: the list lies as it is; there are not too many nodes, the texts are not too long.
-/
import Derived.Test.YteinegfbpfhflaaGreatDoorM20
import Derived.Test.YteinegfbpfhflaaGreatDoorM16
import Derived.Test.YteinegfbpfhflaaGreatDoorM22
import Derived.Test.YteinegfbpfhflaaGreatDoorM19
namespace Go.Proofs.YteinegfbpfhflaaGreatDoor
open Go.RowKit
open Go.RowKit
set_option linter.unusedVariables false
set_option maxRecDepth 100000
set_option maxHeartbeats 32000000
def IG(w:World)(l:List Nd)(n:Nat)(i dd:Value)(wr:World):Prop:=wr=w/\∃m e:Nat,m<=n/\i=.int .i64 m/\dd=.int .i64 e/\dp l n=dp l m+e/\e+m<=n
theorem Ds(l:List Nd)(v:Value)(n:Nat)(w:World)(hv:eD w w.heap.size v l)(hn:n<l.length)(hlen:l.length<=2000000)(hh:fl l (n+1))(h0:pa l 0 = -1) :
 Calls Tryz.prog 69 #[v,.int .i64 (n:Int)] w fun e w'=>e=.returned (.int .i64 (dp l n:Nat))/\w'=w:=by
 obtain⟨bl,o,cap,rfl,hc1,hc2,hbB,hnd⟩:=hv.open (by intro h;subst h;simp at hn)
 have HCELL:Hid (∀k,k<l.length->w.cell? ⟨bl,o+k*8+1,none⟩=some (.int .i64 (pa l k))):=fun k hk=>by
  obtain⟨vd,va,_,d1,_⟩:=(hnd k hk).cells;rw[fS hk];exact d1
 have HPC:Hid (∀m,m<=n->(m=0/\pa l m = -1)∨∃p:Nat,pa l m=(p:Int)/\p<m):=fun m hm=>pD hh h0 hm;have HZ:Hid (dp l 0=0):=zf h0;obtain⟨R,hR⟩ : ∃R,dp l n=R:=⟨_,rfl⟩;rw[hR];have HR:=aa hR;obtain⟨q,hqE⟩ : ∃q,l.length=q:=⟨_,rfl⟩;rw[hqE]at hc1 hn hlen HCELL ⊢;clear hnd hv hqE hh h0 hR;go_enter Tryz.func69,Tryz.ntmps69;go_wp2
 go_loopw [1,5] (IG w l n) (fun i _ _=>(intOf i).toNat)
 case atStart=>exact⟨rfl,n,0,af _,rfl,rfl,rfl,by omega⟩
 case round =>
  obtain⟨rfl,m,e,hm,rfl,rfl,hE,hem⟩:=hrel;have HE:=aa hE;clear hE;have hmq:m<q:=by omega
  have hc:=HCELL.out m hmq;rcases HPC.out m hm with⟨rfl,hp⟩|⟨p,hp,hlt⟩
  ·have hRe:R=e:=by rw[<-HR.out,HE.out,HZ.out];omega
   have HRE:=aa hRe;rw[hp]at hc;clear hp hRe;go_wp2;go_ret;exact⟨by rw[HRE.out];rfl,rfl⟩
  ·have HS:Hid (dp l m=dp l p+1):=by
    show _=_
    rw[tH (by rw[hp];omega),hp];rfl
   rw[hp]at hc;clear hp;have hp0:(p:Int) ≥ 0:=by omega
   go_wp2
   go_roundw
   case rel=>exact⟨rfl,p,e+1,by omega,rfl,by go_num,by rw[HE.out,HS.out];omega,by omega⟩
   case measure=>simp[intOf];omega
noncomputable def Il(l:List Nd)(n:Nat):Bool:=match l[n]? with|some x=>mz l n x|none=>false
noncomputable def Hy(l:List Nd)(n:Nat):Bool:=match l[n]? with|some x=>im l n x|none=>false
theorem tF{l:List Nd}{n:Nat}(h:n<l.length):Il l n=mz l n l[n]:=by simp[Il,aw h]
theorem sS{l:List Nd}{n:Nat}(h:n<l.length):Hy l n=im l n l[n]:=by simp[Hy,aw h]
def jM(l:List Nd)(n:Nat):Prop:=ej l n=true/\(kd l n=1->Il l n=true)/\(kd l n≠1->Hy l n=true)
structure ix(l:List Nd):Prop where
 root:∃h:0<l.length,eE l[0]=true
 nodes:∀n,1<=n->n<l.length->jM l n
 top:eK l l.length=1
open Classical in
noncomputable def fJ(l:List Nd):Bool:=decide (ix l)
open Classical in
theorem lD{l:List Nd}(h:¬ix l):fJ l=false:=by unfold fJ;exact ap h
open Classical in
theorem nU{l:List Nd}(h:ix l):fJ l=true:=by unfold fJ;exact ax h
theorem nk{l:List Nd}{n:Nat}(hn:n<=l.length)(h:∀j,1<=j->j<n->jM l j):fl l n:=fun j h1 h2=>ie h1 (h j h1 h2).1
def IA(w:World)(l:List Nd)(t i:Value)(wr:World):Prop:=∃n:Nat,1<=n/\n<=l.length/\i=.int .i64 n/\t=.int .i64 (eK l n:Nat)/\(∀j,1<=j->j<n->jM l j)/\Below w.heap.size w wr
theorem xI(l:List Nd)(v:Value)(w:World)(hv:eD w w.heap.size v l)(hlen:l.length<=100000)(hs:∀x∈l,Sm x) :
 Calls Tryz.prog 68 #[v] w fun e w'=>e=.returned (.bool (fJ l))/\Below w.heap.size w w':=by
 have HF:Hid (¬ix l->fJ l=false):=fun h=>lD h;have HT:Hid (ix l->fJ l=true):=fun h=>nU h;obtain⟨R,hR⟩ : ∃R,fJ l=R:=⟨_,rfl⟩;rw[hR]at HF HT ⊢;clear hR;have HAB:Hid (∀w' a b,Below w.heap.size w w'->b<l.length->fl l (b+1)->pa l 0 = -1->Calls Tryz.prog 107 #[v,.int .i64 (a:Nat),.int .i64 (b:Nat)] w' fun e w''=>e=.returned (.bool (decide (a∈gQ l b)))/\w''=w'):=fun w' a b hb h1 h2 h3=>BK l v a b w' (hv.later hb) h1 h2 h3;have HEL:Hid (∀w' n,n<l.length->Below w.heap.size w w'->fl l (n+1)->pa l 0 = -1->Calls Tryz.prog 108 #[v,.int .i64 (n:Nat)] w' fun e w''=>e=.returned (.bool (Il l n))/\Below w'.heap.size w' w''):=fun w' n h hb h1 h2=>by rw[tF h];exact vR l v n w' (hv.later hb) h (by omega) hs h1 h2
 have HOT:Hid (∀w' n,n<l.length->Below w.heap.size w w'->Calls Tryz.prog 109 #[v,.int .i64 (n:Nat)] w' fun e w''=>e=.returned (.bool (Hy l n))/\Below w'.heap.size w' w''):=fun w' n h hb=>by rw[sS h];exact z8 l v n w' (hv.later hb) h (by omega) hs
 by_cases hl:l=[]
 ·have hR0:R=false:=HF.out (fun h=>by obtain⟨h0,_⟩:=h.root;rw[hl]at h0;simp at h0)
  subst hR0;obtain⟨A,cap,rfl,hc1,hc2⟩:=hv.slice;have h0:l.length=0:=by rw[hl];rfl
  rw[h0];clear hv hl h0;go_enter Tryz.func68,Tryz.ntmps68;go_wp2;go_ret;exact⟨rfl,ae _ _⟩
 ·obtain⟨bl,o,cap,rfl,hc1,hc2,hbB,hnd⟩:=hv.open hl
  have hl0:0<l.length:=bO.2 hl
  have HKD:Hid (∀k,k<l.length->w.cell? ⟨bl,o+k*8,none⟩=some (.int .i64 (kd l k))/\w.cell? ⟨bl,o+k*8+1,none⟩=some (.int .i64 (pa l k))):=fun k hk=>by
   obtain⟨vd,va,d0,d1,_⟩:=(hnd k hk).cells;rw[jN hk,fS hk];exact⟨d0,d1⟩
  obtain⟨vd,va,d0,d1,d2,d3,d4,d5,d6,d7,hds,has⟩:=(hnd 0 hl0).cells;have HBR:Hid (∀w',Below w.heap.size w w'->Calls Tryz.prog 106 #[.agg #[.int .i64 l[0].k,.int .i64 l[0].n,.string l[0].p,.string l[0].l,.string l[0].u,.string l[0].t,vd,va]] w' fun e w''=>e=.returned (.bool (d9 l[0]))/\Below w'.heap.size w' w''):=fun w' hb=>re l[0] _ w' (nH.later ⟨vd,va,rfl,hds,has⟩ hb);obtain⟨A1,c1,rfl,-⟩:=hds;obtain⟨A2,c2,rfl,-⟩:=has;have HRO:Hid (eE l[0]=false->R=false):=fun h=>HF.out (fun hh=>by obtain⟨_,h1⟩:=hh.root;rw[h]at h1;cases h1)
  have HRY:Hid (eE l[0]=true->pa l 0 = -1):=fun h=>by
   unfold eE at h;simp only[aO,bc]at h;rw[fS hl0];exact h.2.1
  have HRX:Hid (∃h:0<l.length,eE l[0]=eE l[0]):=⟨hl0,rfl⟩;have HTR:Hid (eE l[0]=true->(∀n,1<=n->n<l.length->jM l n)->eK l l.length=1->R=true):=fun h1 h2 h3=>HT.out ⟨⟨hl0,h1⟩,h2,h3⟩;have HRD:Hid (eE l[0]=((l[0].k==0)&&((l[0].n == -1)&&(dZ l[0].l []&&(dZ l[0].t []&&d9 l[0]))))):=rfl;have HLEN:=aa hlen;have hr0:=ae w.heap.size w;simp only[Nat.zero_mul,Nat.add_zero]at d0 d1 d2 d3 d4 d5 d6 d7;generalize hx:l[0]=x at *;obtain⟨RB,hRB⟩ : ∃B,eE x=B:=⟨_,rfl⟩;rw[hRB]at HRO HRY HTR HRD;obtain⟨q,hqE⟩ : ∃q,l.length=q:=⟨_,rfl⟩;have HQ:=aa hqE;rw[hqE]at hc1 hlen HAB HOT HEL HKD hl0;rw[hqE];generalize d9 x=Bb at *;obtain⟨k0,f0,K0⟩:=i3 x.k 0;obtain⟨n1,fn,N1⟩:=i3 x.n (-1);obtain⟨bl0,el,EL⟩:=gv x.l;obtain⟨bt0,et,ET⟩:=gv x.t;rw[f0,fn,el,et]at HRD;have s0:(x.k != 0) = !k0:=by have:=K0.out;simp[bne,this]
  have s1:(x.n != -1) = !n1:=by have:=N1.out;simp[bne,this]
  obtain⟨t1,t1'⟩:=EL.out;obtain⟨t2,t2'⟩:=ET.out;have hq0:((q:Int)==0)=false:=by rw[ak];omega
  have hq1:(0:Int)<(q:Int):=by omega
  clear hnd hv hqE hRB hx f0 fn el et K0 N1 EL ET HRX hs hl;go_enter Tryz.func68,Tryz.ntmps68;cases k0 with
  |false =>
   have hR0:R=false:=HRO.out (by rw[HRD.out];rfl)
   subst hR0;go_wp2;go_ret;exact⟨rfl,hr0⟩
  |true =>
   cases n1 with
   |false =>
    have hR0:R=false:=HRO.out (by rw[HRD.out];rfl)
    subst hR0;go_wp2;go_ret;exact⟨rfl,hr0⟩
   |true =>
    go_wp2_with fail
    refine(HBR.out w hr0).mono ?_;rintro e w1⟨rfl,hb1⟩;have hcell:∀j v,w.cell? ⟨bl,o+j,none⟩=some v->w1.cell? ⟨bl,o+j,none⟩=some v:=fun j v h=>(hb1.cell (p:=⟨bl,o+j,none⟩) hbB).trans h;replace d3:=hcell 3 _ d3;replace d5:=hcell 5 _ d5;clear d0 d1 d2 d4 d6 d7 hcell;cases Bb with
    |false =>
     have hR0:R=false:=HRO.out (by rw[HRD.out];simp)
     subst hR0;go_wp2;go_ret;exact⟨rfl,hb1⟩
    |true =>
     cases bl0 with
     |false =>
      have hR0:R=false:=HRO.out (by rw[HRD.out];simp)
      subst hR0;go_wp2;go_ret;exact⟨rfl,hb1⟩
     |true =>
      cases bt0 with
      |false =>
       have hR0:R=false:=HRO.out (by rw[HRD.out];simp)
       subst hR0;go_wp2;go_ret;exact⟨rfl,hb1⟩
      |true =>
       have hpa0:pa l 0 = -1:=HRY.out (by rw[HRD.out];rfl)
       have HPA:=aa hpa0;have HTR2:Hid ((∀n,1<=n->n<l.length->jM l n)->eK l l.length=1->R=true):=HTR.out (by rw[HRD.out];rfl)
       have HNO2:Hid (∀n,1<=n->n<l.length->¬jM l n->R=false):=fun n h1 h2 h3=>HF.out (fun h=>h3 (h.nodes n h1 h2));have HTO2:Hid (eK l l.length≠1->R=false):=fun h3=>HF.out (fun h=>h3 h.top);clear hpa0 HRD HRO HRY HTR;go_wp2;clear d3 d5 t1 t1' t2 t2' s0 s1 hq0
       go_loopw [3,4] (IA w l) (fun _ i _=>q-(intOf i).toNat)
       case atStart=>exact⟨1,af _,by rw[HQ.out];omega,rfl,rfl,fun j h1 h2=>by omega,hb1⟩
       case round =>
        clear hb1 hr0;obtain⟨n,hn1,hnl,rfl,rfl,hno,hb⟩:=hrel;rw[HQ.out]at hnl;have HNO:=aa hno;have HTL:=aa (sn l n);clear hno;by_cases hnq:n<q
        ·have hnz:(n:Int)<(q:Int):=by omega
         have hnll:n<l.length:=by rw[HQ.out];exact hnq
         have HNL:=aa hnll;have hung:fl l n:=nk (be hnll) HNO.out;have HUNG:=aa hung;obtain⟨e0,e1⟩:=HKD.out n hnq;have f0:=(hb.cell (p:=⟨bl,o+n*8,none⟩) hbB).trans e0;have f1:=(hb.cell (p:=⟨bl,o+n*8+1,none⟩) hbB).trans e1;obtain⟨p,hp⟩ : ∃p,pa l n=p:=⟨_,rfl⟩;obtain⟨kn,hkn⟩ : ∃p,kd l n=p:=⟨_,rfl⟩;have HP:=aa hp;have HKN:=aa hkn;rw[hkn]at f0;rw[hp]at f1;clear hp hkn e0 e1 hnll hung;have HHB:Hid (ej l n=(decide (0<=p)&&decide (p.toNat∈gQ l (n-1))&&(kd l p.toNat==0||kd l p.toNat==1))):=by show _=_;rw[<-HP.out];rfl
         by_cases hp0:p<0
         ·have hF:=ap (show ¬0<=p by omega)
          have hR0:R=false:=HNO2.out n hn1 HNL.out (fun h=>by have h1:=h.1;rw[HHB.out,hF]at h1;simp at h1)
          subst hR0;go_wp2;go_ret;exact⟨rfl,hb⟩
         ·have hp0d:=ap hp0
          obtain⟨pp,rfl⟩ : ∃pp:Nat,p=pp:=⟨p.toNat,by omega⟩
          by_cases hpn:(pp:Int) ≥ (n:Int)
          ·have hF:=ap (show ¬((pp:Int)).toNat∈gQ l (n-1)from fun h=>by have:=qj h;omega)
           have hR0:R=false:=HNO2.out n hn1 HNL.out (fun h=>by have h1:=h.1;rw[HHB.out,hF]at h1;simp at h1)
           subst hR0;go_wp2;go_ret;exact⟨rfl,hb⟩
          ·have hpnd:=ap hpn
           have hpq:pp<q:=by omega
           have hpz:(pp:Int)<(q:Int):=by omega
           have f2:=(hb.cell (p:=⟨bl,o+pp*8,none⟩) hbB).trans (HKD.out pp hpq).1;have HHC:Hid (ej l n=(decide (pp∈gQ l (n-1))&&(kd l pp==0||kd l pp==1))):=by show _=_;rw[HHB.out,ax (show(0:Int)<=(pp:Int)by omega),cN,Bool.true_and]
           generalize kd l pp=y at *;by_cases hy1:y>1
           ·have hy:=ak.2 (show y≠0 by omega)
            have hy':=ak.2 (show y≠1 by omega)
            have HY:=aa hy;have HY':=aa hy';clear hy hy';have hR0:R=false:=HNO2.out n hn1 HNL.out (fun h=>by have h1:=h.1;rw[HHC.out,HY.out,HY'.out]at h1;simp at h1)
            subst hR0;go_wp2;go_ret;exact⟨rfl,hb⟩
           ·have hy1d:=ap hy1
            by_cases hy0:y<0
            ·have hy:=ak.2 (show y≠0 by omega)
             have hy':=ak.2 (show y≠1 by omega)
             have HY:=aa hy;have HY':=aa hy';clear hy hy';have hR0:R=false:=HNO2.out n hn1 HNL.out (fun h=>by have h1:=h.1;rw[HHC.out,HY.out,HY'.out]at h1;simp at h1)
             subst hR0;go_wp2;go_ret;exact⟨rfl,hb⟩
            ·have hy0d:=ap hy0
             have HYY:Hid ((y==0||y==1)=true):=by rcases(show y=0∨y=1 by omega)with r|r<;>show _=_<;>rw[r]<;>rfl
             have HABC:=aa (HAB.out wr pp (n-1) hb (by omega) (by rw[show n-1+1=n by omega];exact HUNG.out) HPA.out)
             have hn1c:((n-1:Nat):Int)=(n:Int)-1:=by omega
             rw[hn1c]at HABC;obtain⟨MB,hMB⟩ : ∃B,decide (pp∈gQ l (n-1))=B:=⟨_,rfl⟩;rw[hMB]at HABC HHC;clear hMB hn1c;cases MB with
             |false =>
              go_wp2_with fail
              refine HABC.out.mono ?_;rintro e w2⟨rfl,hw⟩;rw[hw];clear hw;have hR0:R=false:=HNO2.out n hn1 HNL.out (fun h=>by have h1:=h.1;rw[HHC.out]at h1;simp at h1)
              subst hR0;go_wp2;go_ret;exact⟨rfl,hb⟩
             |true =>
              have HHT:Hid (ej l n=true):=by show _=_;rw[HHC.out,HYY.out];rfl
              have HUN2:Hid (fl l (n+1)):=fun j h1 h2=>by
               rcases bU (cC h2)with h3|h3
               ·exact HUNG.out j h1 h3
               ·subst h3;exact ie h1 HHT.out
              go_wp2_with fail
              refine HABC.out.mono ?_;rintro e w2⟨rfl,hw⟩;rw[hw];clear hw HABC;have HADD:Hid (jM l n->∀j,1<=j->j<n+1->jM l j):=fun hk=>vp HNO.out hk;have HTS:Hid (eK l (n+1)=eK l n+(if 1<=n/\pa l n=0/\kd l n=1 then 1 else 0)):=rfl;rw[HP.out,HKN.out]at HTS;by_cases hk1:kn=1
              ·subst hk1
               have HEC:=aa (HEL.out wr n hnq hb HUN2.out HPA.out);obtain⟨EB,hEB⟩ : ∃B,Il l n=B:=⟨_,rfl⟩;have HEB:=aa hEB;rw[hEB]at HEC;clear hEB;cases EB with
               |false =>
                go_wp2_with fail
                refine HEC.out.mono ?_;rintro e w3⟨rfl,hb3⟩;have hbw:=hb.trans (hb3.mono hb.size);replace f0:=(hb3.cell (p:=⟨bl,o+n*8,none⟩) (a8 hbB hb.size)).trans f0;clear hb3;have hR0:R=false:=HNO2.out n hn1 HNL.out (fun h=>by have h1:=h.2.1 HKN.out;rw[HEB.out]at h1;cases h1)
                subst hR0;go_wp2;go_ret;exact⟨rfl,hbw⟩
               |true =>
                go_wp2_with fail
                refine HEC.out.mono ?_;rintro e w3⟨rfl,hb3⟩;have hbw:=hb.trans (hb3.mono hb.size);replace f0:=(hb3.cell (p:=⟨bl,o+n*8,none⟩) (a8 hbB hb.size)).trans f0;clear hb3;have HOK:=aa (HADD.out ⟨HHT.out,fun _=>HEB.out,fun h=>absurd HKN.out h⟩);by_cases hz:(pp:Int)=0
                ·have hzb:((pp:Int)==0)=true:=by simp;omega
                 have HTV:Hid (eK l (n+1)=eK l n+1):=by show _=_;rw[HTS.out,av ⟨hn1,hz,by trivial⟩]
                 clear hz HTS;have htl:=HTL.out;go_wp2
                 go_roundw
                 case rel=>exact⟨n+1,by omega,HNL.out,by go_num,by rw[HTV.out];go_num,HOK.out,hbw⟩
                 case measure=>simp[intOf];omega
                ·have hzb:((pp:Int)==0)=false:=by rw[ak];exact hz
                 have HTV:Hid (eK l (n+1)=eK l n):=by show _=_;rw[HTS.out,am (fun h=>hz h.2.1)];rfl
                 clear hz HTS;go_wp2
                 go_roundw
                 case rel=>exact⟨n+1,by omega,HNL.out,by go_num,by rw[HTV.out],HOK.out,hbw⟩
                 case measure=>simp[intOf];omega
              ·have hk1b:(kn==1)=false:=by rw[ak];exact hk1
               have hk1n:(kn != 1)=true:=by simp[bne,hk1b]
               have HK1:=aa hk1;clear hk1;have HEC:=aa (HOT.out wr n hnq hb);obtain⟨EB,hEB⟩ : ∃B,Hy l n=B:=⟨_,rfl⟩;have HEB:=aa hEB;rw[hEB]at HEC;clear hEB;cases EB with
               |false =>
                go_wp2_with fail
                refine HEC.out.mono ?_;rintro e w3⟨rfl,hb3⟩;have hbw:=hb.trans (hb3.mono hb.size);replace f0:=(hb3.cell (p:=⟨bl,o+n*8,none⟩) (a8 hbB hb.size)).trans f0;clear hb3;have hR0:R=false:=HNO2.out n hn1 HNL.out (fun h=>by have h1:=h.2.2 (by rw[HKN.out];exact HK1.out);rw[HEB.out]at h1;cases h1)
                subst hR0;go_wp2;go_ret;exact⟨rfl,hbw⟩
               |true =>
                go_wp2_with fail
                refine HEC.out.mono ?_;rintro e w3⟨rfl,hb3⟩;have hbw:=hb.trans (hb3.mono hb.size);replace f0:=(hb3.cell (p:=⟨bl,o+n*8,none⟩) (a8 hbB hb.size)).trans f0;clear hb3;have HOK:=aa (HADD.out ⟨HHT.out,fun h=>absurd (HKN.out.symm.trans h) HK1.out,fun _=>HEB.out⟩);have HTV:Hid (eK l (n+1)=eK l n):=by show _=_;rw[HTS.out,am (fun h=>HK1.out h.2.2)];rfl
                clear HTS;by_cases hz:(pp:Int)=0
                ·have hzb:((pp:Int)==0)=true:=by simp;omega
                 clear hz;go_wp2
                 go_roundw
                 case rel=>exact⟨n+1,by omega,HNL.out,by go_num,by rw[HTV.out],HOK.out,hbw⟩
                 case measure=>simp[intOf];omega
                ·have hzb:((pp:Int)==0)=false:=by rw[ak];exact hz
                 clear hz;go_wp2
                 go_roundw
                 case rel=>exact⟨n+1,by omega,HNL.out,by go_num,by rw[HTV.out],HOK.out,hbw⟩
                 case measure=>simp[intOf];omega
        ·have hnz:¬(n:Int)<(q:Int):=by omega
         have hnq':n=l.length:=by rw[HQ.out];omega
         have HALL:Hid (∀j,1<=j->j<l.length->jM l j):=fun j h1 h2=>HNO.out j h1 (by rw[hnq'];exact h2)
         have HTN:Hid (eK l n=eK l l.length):=by show _=_;rw[hnq']
         clear hnq';obtain⟨tt,htt⟩ : ∃t,eK l n=t:=⟨_,rfl⟩;rw[htt]at HTN ⊢;clear htt;by_cases ht1:tt=1
         ·have hR1:R=true:=HTR2.out HALL.out (by rw[<-HTN.out];exact ht1)
          subst hR1;have htb:((tt:Int)==1)=true:=by simp;omega
          clear ht1;go_wp2;go_ret;exact⟨rfl,hb⟩
         ·have hR1:R=false:=HTO2.out (by rw[<-HTN.out];exact ht1)
          subst hR1;have htb:((tt:Int)==1)=false:=by rw[ak];omega
          clear ht1;go_wp2;go_ret;exact⟨rfl,hb⟩
end Go.Proofs.YteinegfbpfhflaaGreatDoor
