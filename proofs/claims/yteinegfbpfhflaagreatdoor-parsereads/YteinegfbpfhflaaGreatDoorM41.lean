/-
  The laws' own look whether the program does anything. Conditions: the tables lie as they are laid, internal/bytealg.MaxLen holds some number. apostilleref07.Few: has a list few nodes, with few things. Conditions: the list lies as it is. apostilleref07.Check: the document's own. Conditions: the list lies as it is; there are not too many nodes, the texts are not too long. What the document asks of a list's prefixes and elements is what the program asks: no walk. Conditions: the nodes hang where they may; no list declares twice. What the document asks of a list is what the program asks: no walk. Conditions: the texts are not too long. A list is formed for the document just if it is for the program: no walk. Conditions: the texts are not too long. DocForms walked. Conditions: the list lies as it is, its texts are not too long; the tables lie as they are laid, internal/bytealg.MaxLen holds some number.
-/
import Derived.Test.YteinegfbpfhflaaGreatDoorM20
import Derived.Test.YteinegfbpfhflaaGreatDoorM09
import Derived.Test.YteinegfbpfhflaaGreatDoorM12
import Derived.Test.YteinegfbpfhflaaGreatDoorM40
import Derived.BigQuiet
namespace Go.Proofs.YteinegfbpfhflaaGreatDoor
open Go.RowKit
open Go.RowKit
open Go.RowKit
open Go.RowKit
set_option linter.unusedVariables false
set_option maxRecDepth 100000
set_option maxHeartbeats 16000000
noncomputable def eI(l:List Nd):Int:=bif fJ l then(bif cX l then 0 else 3)else 2
theorem zz{l:List Nd}{j:Nat}(hj:j<l.length)(h:¬(dp l j<=64/\Ap l j<=64)):cX l=false:=by
 unfold cX;rw[bT];exact fun hh=>h (hh.2 j hj)
theorem uh{l:List Nd}(h:¬l.length<=4000):cX l=false:=by
 unfold cX;rw[bT];exact fun hh=>h hh.1
theorem wM{l:List Nd}(h1:l.length<=4000)(h2:∀i,i<l.length->dp l i<=64/\Ap l i<=64):cX l=true:=by
 unfold cX;rw[bj];exact⟨h1,h2⟩
def IH(w:World)(l:List Nd)(i:Value)(wr:World):Prop:=∃k:Nat,k<=l.length/\i=.int .i64 k/\(∀j,j<k->dp l j<=64/\Ap l j<=64)/\Below w.heap.size w wr
theorem Bo(l:List Nd)(v:Value)(w:World)(hv:eD w w.heap.size v l)(hlen:l.length<=100000)(hs:∀x∈l,Sm x) :
 Calls Tryz.prog 36 #[v] w fun e w'=>e=.returned (.int .i64 (eI l))/\Below w.heap.size w w':=by
 have HFM:=aa (xI l v w hv hlen hs);cases hf:fJ l with
 |false =>
  rw[hf]at HFM;have hR:eI l=2:=by unfold eI;rw[hf];rfl
  rw[hR];obtain⟨A,cap,rfl,hc1,hc2⟩:=hv.slice;clear hv hf hR hs;go_enter Tryz.func36,Tryz.ntmps36
  go_wp2_with fail
  refine HFM.out.mono ?_;rintro e w1⟨rfl,hb1⟩;go_wp2;go_ret;exact⟨rfl,hb1⟩
 |true =>
  rw[hf]at HFM;have hok:ix l:=Classical.byContradiction fun h=>by rw[lD h]at hf;cases hf
  have hh:fl l l.length:=nk (af _) hok.nodes
  have h0:pa l 0 = -1:=by
   obtain⟨h0,h1⟩:=hok.root;unfold eE at h1;simp only[aO,bc]at h1;rw[fS h0];exact h1.2.1
  have HDE:Hid (∀w' n,n<l.length->Below w.heap.size w w'->Calls Tryz.prog 69 #[v,.int .i64 (n:Nat)] w' fun e w''=>e=.returned (.int .i64 (dp l n:Nat))/\w''=w'):=fun w' n hn hb=>Ds l v n w' (hv.later hb) hn (by omega) (hh.mono (by omega)) h0
  have HV:=aa hv;have HSM:=aa hs;obtain⟨R,hR⟩ : ∃R,eI l=R:=⟨_,rfl⟩;rw[hR];have HR3:Hid (cX l=false->R=3):=fun h=>by rw[<-hR,eI,hf,h];rfl
  have HR0:Hid (cX l=true->R=0):=fun h=>by rw[<-hR,eI,hf,h];rfl
  obtain⟨A,cap,rfl,hc1,hc2⟩:=hv.slice;obtain⟨q,hqE⟩ : ∃q,l.length=q:=⟨_,rfl⟩;have HQ:=aa hqE;rw[hqE]at hc1 hlen HDE HFM ⊢;clear hv hf hR hs hok hh h0 hqE;go_enter Tryz.func36,Tryz.ntmps36
  go_wp2_with fail
  refine HFM.out.mono ?_;rintro e w1⟨rfl,hb1⟩;clear HFM;go_wp2
  go_loopw [9] (IH w l) (fun i _=>q-(intOf i).toNat)
  case atStart=>exact⟨0,aM _,rfl,fun j h=>by omega,hb1⟩
  case round =>
   obtain⟨k,hk,rfl,hno,hb⟩:=hrel;rw[HQ.out]at hk;have HNO:=aa hno;clear hno hb1;by_cases hkq:k<q
   ·have hkl:k<l.length:=by rw[HQ.out];exact hkq
    have hkz:(k:Int)<(q:Int):=by omega
    obtain⟨b,o,cap',e,_,_,hbB,hnd⟩:=HV.out.open (by intro h;rw[h]at hkl;simp at hkl)
    simp only[aK]at e;obtain⟨rfl,-,rfl⟩:=e;obtain⟨vd,va,-,-,-,-,-,-,d6,d7,hds,has⟩:=(hnd k hkl).cells;replace d6:=(hb.cell (p:=⟨b,o+k*8+6,none⟩) hbB).trans d6;replace d7:=(hb.cell (p:=⟨b,o+k*8+7,none⟩) hbB).trans d7;have hsx:=HSM.out _ (aJ hkl);have sn1:=hsx.nd;have sn2:=hsx.na;have HMK:Hid (Ap l k=l[k].ds.length+l[k].ats.length):=CS hkl;obtain⟨A1,c1,rfl,-⟩:=hds;obtain⟨A2,c2,rfl,-⟩:=has;have HKL:=aa hkl;have HDK:Hid (∀z,Calls Tryz.prog 69 #[.slice (some ⟨b,o,none⟩) q cap,.int .i64 (k:Nat)] (wr.drewN z) fun e w''=>e=.returned (.int .i64 (dp l k:Nat))/\w''=wr.drewN z):=fun z=>HDE.out (wr.drewN z) k hkq (ay hb _);have HNO3:Hid (¬(dp l k<=64/\Ap l k<=64)->R=3):=fun h=>HR3.out (zz HKL.out h);generalize l[k].ds.length=a1 at *;generalize l[k].ats.length=a2 at *;clear hnd hkl hsx;obtain⟨dk,hdk⟩ : ∃d,dp l k=d:=⟨_,rfl⟩;have HDP:=aa hdk;rw[hdk]at HDK HNO3;have HNX:Hid (dk<=64->a1+a2<=64->∀j,j<k+1->dp l j<=64/\Ap l j<=64):=fun h1 h2=>ke HNO.out ⟨by rw[HDP.out];exact h1,by rw[HMK.out];exact h2⟩
    clear hdk;by_cases hd:(dk:Int)>64
    ·have hR3:R=3:=HNO3.out (fun h=>by omega)
     subst hR3;have hdb:=ax hd
     go_wp2_with fail
     go_quiet (first|(go_at_call 69;refine Calls.quiet_of_same (HDK.out _)))
     go_wp2;go_ret;exact⟨rfl,ay hb _⟩
    ·have hdb:=ap hd
     by_cases hm:(a1:Int)+(a2:Int)>64
     ·have hR3:R=3:=HNO3.out (fun h=>by have:=HMK.out;omega)
      subst hR3;have hmb:=ax hm
      go_wp2_with fail
      go_quiet (first|(go_at_call 69;refine Calls.quiet_of_same (HDK.out _)))
      go_wp2;go_ret;exact⟨rfl,ay hb _⟩
     ·have hmb:=ap hm
      have HNX2:=aa (HNX.out (by omega) (by omega))
      go_wp2_with fail
      go_quiet (first|(go_at_call 69;refine Calls.quiet_of_same (HDK.out _)))
      go_wp2
      go_roundw
      case rel=>exact⟨k+1,HKL.out,by go_num,HNX2.out,ay hb _⟩
      case measure=>simp[intOf];omega
   ·have hkz:¬(k:Int)<(q:Int):=by omega
    have HALL:Hid (∀j,j<l.length->dp l j<=64/\Ap l j<=64):=fun j hj=>HNO.out j (by rw[HQ.out]at hj;omega)
    by_cases hq4:(q:Int)>4000
    ·have hR3:R=3:=HR3.out (uh (by rw[HQ.out];omega))
     subst hR3;go_wp2;go_ret;exact⟨rfl,hb⟩
    ·have hR0:R=0:=HR0.out (wM (by rw[HQ.out];omega) HALL.out)
     subst hR0;have hqb:=ap hq4;go_wp2;go_ret;exact⟨rfl,hb⟩
def yj(ds:List Dc):Prop:=ds.Pairwise fun a b=>a.p.data.toList≠b.p.data.toList
theorem pY:∀{ds:List Dc} (s:List UInt8),yj ds->gc ds.reverse s=fU ds s
 | [],s,_=>rfl
 |d::r,s,h=>by
  have hr:yj r:=(List.pairwise_cons.1 h).2;have hd:=(List.pairwise_cons.1 h).1;have ih:=pY s hr;unfold gc fU at ih ⊢;rw[List.reverse_cons,List.find?_append];by_cases hp:d.p.data.toList=s
  ·have hn:r.find? (fun d=>decide (d.p.data.toList=s))=none:=by
    rw[List.find?_eq_none];intro x hx;simp only[bj];exact fun e=>hd x hx (hp.trans e.symm)
   have hn':r.reverse.find? (fun d=>decide (d.p.data.toList=s))=none:=by
    rw[List.find?_eq_none]at hn ⊢;exact fun x hx=>hn x (List.mem_reverse.1 hx)
   rw[hn'];simp[hp]
  ·have h1:[d].find? (fun d=>decide (d.p.data.toList=s))=none:=by simp[hp]
   have h2:(d::r).find? (fun d=>decide (d.p.data.toList=s))=r.find? (fun d=>decide (d.p.data.toList=s)):=by simp[hp]
   rw[h1,h2,Option.or_none];exact ih
theorem De(A B:List Dc)(s:List UInt8):gc (A++B) s=(gc A s).or (gc B s):=by
 unfold gc;rw[List.find?_append];cases A.find? (fun d=>decide (d.p.data.toList=s))<;>simp
structure oi(l:List Nd)(n:Nat):Prop where
 zero:lF l 0=[]
 ok:∀m,m<=n->∀d∈lF l m,eW d=true
 one:∀m,m<=n->yj (lF l m)
theorem oi.mono{l:List Nd}{n m:Nat}(h:oi l n)(hm:m<=n):oi l m:=⟨h.zero,fun k hk=>h.ok k (by omega),fun k hk=>h.one k (by omega)⟩
theorem Fm{l:List Nd}(hh:fl l l.length)(h0:pa l 0 = -1)(s:List UInt8):∀n,n<l.length->oi l n->gc (kJ l n) s=fL l n s:=by
 intro n
 induction n using Nat.strongRecOn with
 |ind n ih =>
  intro hn hA;rcases bw n with rfl|h1
  ·rw[ut (by rw[h0];omega),show Ba l 0=lF l 0 from rfl,hA.zero,ji];rfl
  ·obtain⟨hp0,hpl⟩:=hh.toNat h1 hn
   obtain⟨p,hp⟩ : ∃p:Nat,pa l n=(p:Int):=⟨(pa l n).toNat,by omega⟩
   rw[hp,cN]at hpl;rw[pe (by rw[hp];omega),hp,cN,De,show Ba l n=lF l n from rfl,pY s (hA.one n (af _)),ih p hpl (by omega) (hA.mono (by omega)),jj s h1 hp hpl]
theorem AO{l:List Nd}(hh:fl l l.length):∀n,n<l.length->oi l n->fL l n dy=none:=by
 intro n
 induction n using Nat.strongRecOn with
 |ind n ih =>
  intro hn hA;rcases bw n with rfl|h1
  ·rw[ji]
  ·obtain⟨hp0,hpl⟩:=hh.toNat h1 hn
   obtain⟨p,hp⟩ : ∃p:Nat,pa l n=(p:Int):=⟨(pa l n).toNat,by omega⟩
   rw[hp,cN]at hpl;rw[jj _ h1 hp hpl,ih p hpl (by omega) (hA.mono (by omega))]
   have:fU (lF l n) dy=none:=np (fun j hj e=>by
    have hd:=hA.ok n (af _) _ (aJ hj);unfold eW at hd;simp only[aO,Bool.not_eq_true']at hd;have:=gi.2 e;rw[hd.2.1]at this;cases this)
   rw[this];rfl
theorem EZ(L:List UInt8):(⟨L.toArray⟩ : ByteArray).toList=L:=by rw[aq]
theorem yH{l:List Nd}(hh:fl l l.length)(h0:pa l 0 = -1){n:Nat}(hn:n<l.length)(hA:oi l n)(p u:ByteArray):iH (kJ l n) p u=((ck l n p).2&&((ck l n p).1.toList==u.toList)):=by
 unfold iH ck;cases hx:dZ p iA with
 |true =>
  simp only[cond_true,Bool.true_and];rw[EZ,bm];unfold dZ;rw[bc,bc];exact eq_comm
 |false =>
  simp only[cond_false];rw[Fm hh h0 _ n hn hA];cases fL l n p.data.toList with
  |some z =>
   simp only[Bool.true_and];rw[bm,bc,bc];exact eq_comm
  |none =>
   show(dZ p []&&dZ u [])=(dZ p []&&_)
   congr 1
   unfold dZ;rw[bm,bc,bc,show(⟨#[]⟩ : ByteArray).toList=[]from by rw[aq]]
   exact eq_comm
theorem pO{l:List Nd}(hh:fl l l.length){n:Nat}(hn:n<l.length)(hA:oi l n){p:ByteArray}(h:(ck l n p).2=true):dZ p dy=false:=by
 cases he:dZ p dy with
 |false=>rfl
 |true =>
  exfalso
  have e:=gi.1 he;unfold ck at h
  have h1:dZ p iA=false:=by
   cases h2:dZ p iA with
   |false=>rfl
   |true=>have:=(gi.1 h2).symm.trans e;simp[iA,dy]at this
  rw[h1,cond_false,e,AO hh n hn hA]at h;have h3:=gi.1 h;rw[e]at h3;simp[dy]at h3
theorem xS(ds:List Dc):(!mA (e8 ds))=true↔yj ds:=by
 unfold mA e8 yj;simp only[Bool.not_not,bj];unfold List.Nodup;rw[List.pairwise_map,List.pairwise_iff_getElem,List.pairwise_iff_getElem]
 constructor<;>intro h i j hi hj hij e<;>refine h i j hi hj hij ?_
 ·rw[e]
 ·simpa using e
theorem ze{ats:List At}(hs:∀a∈ats,a.l.size<=2000000/\a.u.size<=2000000):(!mA (ft ats))=true↔ats.Pairwise fun a b => ¬(a.l.data.toList=b.l.data.toList/\a.u.data.toList=b.u.data.toList):=by
 unfold mA ft;simp only[Bool.not_not,bj];unfold List.Nodup;rw[List.pairwise_map,List.pairwise_iff_getElem,List.pairwise_iff_getElem]
 constructor<;>intro h i j hi hj hij e<;>refine h i j hi hj hij ?_
 ·have e1:ats[i].l=ats[j].l:=cp e.1
  have e2:ats[i].u=ats[j].u:=cp e.2;rw[e1,e2]
 ·have si:=hs _ (aJ hi)
  have sj:=hs _ (aJ hj);obtain⟨e1,e2⟩:=AI si.1 si.2 sj.1 sj.2 e;exact⟨by rw[e1],by rw[e2]⟩
theorem zo{l:List Nd}(hh:fl l l.length)(h0:pa l 0 = -1){n:Nat}(hn:n<l.length)(hA:oi l n)(a:At):mK l n a=true↔gu a=true/\js (kJ l n) a=true:=by
 unfold mK gu js fX;rw[yH hh h0 hn hA];cases hp:dZ a.p []with
 |true =>
  have hx:dZ a.p dy=false:=by
   cases h:dZ a.p dy with
   |false=>rfl
   |true=>have:=(gi.1 hp).symm.trans (gi.1 h);simp[dy]at this
  have hu:((⟨#[]⟩ : ByteArray).toList==a.u.toList)=dZ a.u []:=by
   unfold dZ;rw[bm,bc,bc,show(⟨#[]⟩ : ByteArray).toList=[]from by rw[aq]]
   exact eq_comm
  simp only[hx,cond_true,hu];cases dZ a.u []<;>cases ic a.l<;>cases dZ a.l dy<;>cases tx a.v<;>simp
 |false =>
  have hx:=fun h=>pO (p:=a.p) hh hn hA h;simp only[cond_false];cases hm:(ck l n a.p).2 with
  |false=>simp
  |true =>
   rw[hx hm];cases((ck l n a.p).1.toList==a.u.toList)<;>cases ic a.p<;>cases ic a.l<;>cases tx a.v<;>simp
theorem yE{l:List Nd}(hh:fl l l.length)(h0:pa l 0 = -1){n:Nat}(hn:n<l.length)(hA:oi l n)(x:Nd):rk l n x=true↔iH (kJ l n) x.p x.u=true/\ic x.l=true/\fX x.p=true/\dZ x.t []=true:=by
 unfold rk fX;rw[yH hh h0 hn hA];have hx:=fun h=>pO (p:=x.p) hh hn hA h;cases hm:(ck l n x.p).2 with
 |false=>simp
 |true =>
  rw[hx hm];cases((ck l n x.p).1.toList==x.u.toList)<;>cases ic x.l<;>cases(dZ x.p []||ic x.p)<;>cases dZ x.t []<;>simp
theorem y9{l:List Nd}(hh:fl l l.length)(h0:pa l 0 = -1){n:Nat}(hn:n<l.length)(hA:oi l n)(hs:Sm l[n]):mz l n l[n]=true↔iJ l[n]=true/\jO (kJ l n) l[n]=true:=by
 have hds:∀d∈l[n].ds,eW d=true:=by have:=hA.ok n (af _);rw[nz hn]at this;exact this
 have hdu:yj l[n].ds:=by have:=hA.one n (af _);rw[nz hn]at this;exact this
 have hsa:∀a∈l[n].ats,a.l.size<=2000000/\a.u.size<=2000000:=fun a ha=>⟨(hs.ats a ha).2.1,(hs.ats a ha).2.2.1⟩;generalize l[n]=x at *
 have hF:iJ x=true↔(ic x.l=true/\fX x.p=true/\dZ x.t []=true)/\(∀a∈x.ats,gu a=true)/\x.ats.Pairwise fun a b => ¬(a.l.data.toList=b.l.data.toList/\a.u.data.toList=b.u.data.toList):=by
  unfold iJ;have h1:x.ds.all eW=true:=bK.2 hds;have h2:(!mA (e8 x.ds))=true:=(xS x.ds).2 hdu;rw[h1,h2];simp only[aO,Bool.true_and,bK]
  constructor
  ·rintro⟨a1,a2,a3,a4,a5⟩;exact⟨⟨a1,a2,a3⟩,a4,(ze hsa).1 a5⟩
  ·rintro⟨⟨a1,a2,a3⟩,a4,a5⟩;exact⟨a1,a2,a3,a4,(ze hsa).2 a5⟩
 have hM:jO (kJ l n) x=true↔iH (kJ l n) x.p x.u=true/\∀a∈x.ats,js (kJ l n) a=true:=by
  unfold jO;simp only[aO,bK]
 rw[hF,hM]
 constructor
 ·intro h
  have hok:lJ l n x:=Classical.byContradiction fun hc=>by rw[qc hc]at h;cases h
  obtain⟨n1,n2,n3,n4⟩:=(yE hh h0 hn hA x).1 hok.nm
  have hat:∀a∈x.ats,gu a=true/\js (kJ l n) a=true:=fun a ha=>by
   obtain⟨k,hk,rfl⟩:=List.getElem_of_mem ha;exact(zo hh h0 hn hA _).1 (hok.ats k hk).1
  refine⟨⟨⟨n2,n3,n4⟩,fun a ha=>(hat a ha).1,?_⟩,n1,fun a ha=>(hat a ha).2⟩;rw[List.pairwise_iff_getElem];exact fun i j hi hj hij=>(hok.ats j hj).2 i hi hij
 ·rintro⟨⟨⟨n2,n3,n4⟩,ha,hp⟩,n1,hm⟩
  refine rQ ⟨fun k hk=>⟨hds _ (aJ hk),fun i hi hik => ?_⟩,(yE hh h0 hn hA x).2 ⟨n1,n2,n3,n4⟩,fun k hk=>⟨(zo hh h0 hn hA _).2 ⟨ha _ (aJ hk),hm _ (aJ hk)⟩,fun i hi hik => ?_⟩⟩
  ·unfold yj at hdu
   rw[List.pairwise_iff_getElem]at hdu;exact hdu i k hi hk hik
  ·rw[List.pairwise_iff_getElem]at hp
   exact hp i k hi hk hik
theorem qt(l:List Nd)(n:Nat):∀k m:Nat,dN l n k=(m:Int)->0<m/\m<k/\pa l m=pa l n/\∀j,m<j->j<k->pa l j≠pa l n
 |0,m,h=>by rw[dN]at h;omega
 |k+1,m,h=>by
  rw[dN]at h
  split at h
  ·rename_i hc
   obtain rfl:k=m:=by omega
   exact⟨hc.1,by omega,hc.2,fun j h1 h2=>by omega⟩
  ·rename_i hc
   obtain⟨h1,h2,h3,h4⟩:=qt l n k m h;refine⟨h1,by omega,h3,fun j h5 h6 => ?_⟩
   by_cases he:j=k
   ·subst he;exact fun e=>hc ⟨by omega,e⟩
   ·exact h4 j h5 (by omega)
theorem Bv{l:List Nd}(hh:fl l l.length)(hg:∀i,1<=i->i<l.length->ej l i=true)(hk0:kd l 0=0){n:Nat}(h1:1<=n)(hn:n<l.length)(hk:kd l n=2) :
 (decide (dN l n n<0) || !(kd l (dN l n n).toNat==2)) = !fs l n:=by
 cases hb:fs l n with
 |true =>
  unfold fs at hb;simp only[aO,bc]at hb;obtain⟨_,b2,b3⟩:=hb
  have hn0:0<n-1:=by
   rcases bw (n-1)with h|h
   ·rw[h,hk0]at b2;cases b2
   ·exact h
  have ha:dN l n n=((n-1:Nat):Int):=by
   obtain⟨k,hke⟩ : ∃k,n=k+1:=⟨n-1,by omega⟩
   have hk1:n-1=k:=by omega
   rw[hk1]at b3 hn0 ⊢
   conv=>lhs;arg 3;rw[hke]
   rw[dN,av ⟨hn0,b3.symm⟩]
  rw[ha,cN,b2,ap (by omega)]
  rfl
 |false =>
  rcases kv l n n with ha|⟨a,ha,_⟩
  ·rw[ha];rfl
  ·rw[ha,cN,ap (by omega),Bool.false_or,Bool.not_false,Bool.not_eq_true']
   rw[ak];intro hka;obtain⟨s1,s2,s3,s4⟩:=qt l n n a ha
   have hne:a≠n-1:=fun e=>by
    subst e;unfold fs at hb;rw[hk,hka,s3]at hb;simp at hb
   have hal:a<l.length:=by omega
   have hcl:a+1<l.length:=by omega
   obtain⟨pn0,pnl⟩:=hh n h1 hn;obtain⟨p,hp⟩ : ∃p:Nat,pa l n=(p:Int):=⟨(pa l n).toNat,by omega⟩
   have hpa:pa l a=(p:Int):=s3.trans hp;have hpl:p<a:=by have:=hh a s1 hal;omega
   have hgc:=hg (a+1) (by omega) hcl
   have hmc:=pU hgc;rw[Nat.add_sub_cancel]at hmc;obtain⟨c0,cl⟩:=hh (a+1) (by omega) hcl
   obtain⟨c,hc⟩ : ∃c:Nat,pa l (a+1)=(c:Int):=⟨(pa l (a+1)).toNat,by omega⟩
   rw[hc,cN]at hmc
   have hca:c≠a:=fun e=>by
    unfold ej at hgc;rw[hc,cN,e,hka]at hgc;simp at hgc
   have hmp:=(DC hpa hpl hca).1 hmc;have hcp:=qj hmp;have hcne:c≠p:=fun e=>s4 (a+1) (by omega) (by omega) (by rw[hc,hp,e])
   obtain⟨e1,e2,e3,e4⟩:=vL (show p<l.length by omega)
   have hend:tz l p<=a+1:=by
    rcases Nat.lt_or_ge (a+1) (tz l p)with h|h
    ·have:=e3 (a+1) (by omega) h;omega
    ·exact h
   have hmn:=pU (hg n h1 hn);rw[hp,cN]at hmn;exact FH hh hg (by omega) (n-1) (by omega) (by omega) hmn
theorem Gl(S:ByteArray):Lib.hasSuffix S.data.toList [45]=(!dZ S []&&vq S):=by
 unfold dZ vq Lib.hasSuffix;rw[aq];generalize S.data.toList=s;rcases List.eq_nil_or_concat s with rfl|⟨t,c,rfl⟩
 ·simp
 ·rw[bm,List.isSuffixOf_iff_suffix]
  simp only[List.concat_eq_append,List.getLast?_append,List.getLast?_singleton,Option.some_or,aO,Bool.not_eq_true',ak,bc]
  constructor
  ·rintro⟨u,hu⟩
   have h:=congrArg List.getLast? hu;simp at h;rw[<-h];exact⟨by simp,rfl⟩
  ·rintro⟨_,h⟩
   have:c=45:=cK.1 (by have:c.toNat=45:=by omega
                       rw[this];rfl)
   subst this;exact⟨t,rfl⟩
theorem pX(c a:UInt8)(x y:Int)(h:(a.toNat=120/\x=120/\y=88)∨(a.toNat=109/\x=109/\y=77)∨(a.toNat=108/\x=108/\y=76)):Lib.foldEq c a=lL c x y:=by
 unfold Lib.foldEq lL;rw[bm,bj,Bool.or_eq_true,bc,bc];rcases h with⟨h1,h2,h3⟩|⟨h1,h2,h3⟩|⟨h1,h2,h3⟩<;>rw[h1,h2,h3]<;>omega
theorem zy(S:ByteArray):Lib.equalFold S.data.toList [120,109,108]=jT S:=by
 unfold jT;generalize S.data.toList=s
 match s with
 | []=>rfl
 | [a]=>simp[Lib.equalFold]
 | [a,b]=>simp[Lib.equalFold]
 | [a,b,c] =>
  simp only[Lib.equalFold];rw[pX a 120 120 88 (.inl ⟨rfl,rfl,rfl⟩),pX b 109 109 77 (.inr (.inl ⟨rfl,rfl,rfl⟩)),pX c 108 108 76 (.inr (.inr ⟨rfl,rfl,rfl⟩)),Bool.and_true]
 |a::b::c::d::r=>simp[Lib.equalFold]
theorem tS{x:Nd}(h:d9 x=true):x.ds=[]:=by
 unfold d9 at h;simp only[aO,bj]at h;exact aD h.2.2.1
theorem uT{l:List Nd}(hh:fl l l.length)(hg:∀i,1<=i->i<l.length->ej l i=true)(hk0:kd l 0=0){n:Nat}(h1:1<=n)(hn:n<l.length)(hk:kd l n≠1) :
 im l n l[n]=true↔dg l[n]=true/\fs l n=false/\(pa l n=0->kd l n=3∨kd l n=4):=by
 have hkd:=jN hn;have hpn:=fS hn;by_cases h2:kd l n=2
 ·have hb:=Bv hh hg hk0 h1 hn h2
  unfold im dg;rw[hb,<-hkd,<-hpn,h2];have e1:((2:Int)==2)=true:=rfl;have e2:((2:Int)==1)=false:=rfl;rw[e1,e2,cond_true,cond_false]
  have hp:(pa l n=0->(2:Int)=3∨(2:Int)=4)↔(pa l n==0)=false:=by
   rw[ak]
   constructor
   ·intro h e;rcases h e with h|h<;>cases h
   ·intro h e;exact absurd e h
  rw[hp];cases d9 l[n]<;>cases tx l[n].t<;>cases dZ l[n].l []<;>cases dZ l[n].t []<;>cases(pa l n==0)<;>cases fs l n<;>simp
 ·have hb:fs l n=false:=by
   unfold fs;rw[ak.2 h2];rfl
  rw[hb];by_cases h3:kd l n=3
  ·unfold im dg tR
   rw[<-hkd,h3];have e1:((3:Int)==2)=false:=rfl;have e2:((3:Int)==1)=false:=rfl;have e3:((3:Int)==3)=true:=rfl;rw[e1,e2,e3,Gl];simp only[cond_true,cond_false];cases d9 l[n]<;>cases tx l[n].t<;>cases dZ l[n].l []<;>cases dZ l[n].t []<;>cases jg l[n].t.data.toList [45,45]<;>cases vq l[n].t<;>simp
  ·by_cases h4:kd l n=4
   ·unfold im dg qz zW
    rw[<-hkd,h4];have e1:((4:Int)==2)=false:=rfl;have e2:((4:Int)==1)=false:=rfl;have e3:((4:Int)==3)=false:=rfl;have e4:((4:Int)==4)=true:=rfl;rw[e1,e2,e3,e4,zy];simp only[cond_true,cond_false];cases d9 l[n]<;>cases tx l[n].t<;>cases ic l[n].l<;>cases jT l[n].l<;>cases dZ l[n].t []<;>cases jg l[n].t.data.toList [63,62]<;>cases fb l[n].t<;>simp
   ·unfold im dg
    rw[<-hkd,ak.2 h2,ak.2 h3,ak.2 h4,ak.2 hk];simp
theorem AM{l:List Nd}:fJ l=true↔ix l:=by
 constructor
 ·intro h
  exact Classical.byContradiction fun hc=>by rw[lD hc]at h;cases h
 ·exact nU
open Classical in
theorem nV{l:List Nd}:db l=true↔(∃h:0<l.length,eE l[0]=true)/\(∀i,1<=i->i<l.length->sT l i=true)/\eK l l.length=1/\(∀i (h:i<l.length),1<=i->dg l[i]=true)/\∀j,j<l.length->my l j=true:=by
 match l with
 | []=>simp[db]
 |x::r =>
  rw[show db (x::r)=(eE x&&(dT (x::r)&&(r.all dg&&fZ (x::r))))from rfl];have hp:dT (x::r)=true↔(∀i,1<=i->i<(x::r).length->sT (x::r) i=true)/\eK (x::r) (x::r).length=1:=by unfold dT;rw[bj]
  have hm:fZ (x::r)=true↔∀j,j<(x::r).length->my (x::r) j=true:=by unfold fZ;rw[bj]
  have ha:r.all dg=true↔∀i (h:i<(x::r).length),1<=i->dg (x::r)[i]=true:=by
   rw[bK]
   constructor
   ·intro h i hi h1
    obtain⟨k,rfl⟩ : ∃k,i=k+1:=⟨i-1,by omega⟩
    rw[List.getElem_cons_succ];exact h _ (aJ _)
   ·intro h y hy
    obtain⟨k,hk,rfl⟩:=List.getElem_of_mem hy;have:=h (k+1) (by simpa using hk) (by omega)
    rwa [List.getElem_cons_succ]at this
  simp only[aO];rw[hp,hm,ha]
  constructor
  ·rintro⟨a1,⟨a2,a3⟩,a4,a5⟩;exact⟨⟨by simp,a1⟩,a2,a3,a4,a5⟩
  ·rintro⟨⟨_,a1⟩,a2,a3,a4,a5⟩;exact⟨a1,⟨a2,a3⟩,a4,a5⟩
theorem qZ{l:List Nd}(h:∃h:0<l.length,eE l[0]=true):pa l 0 = -1/\kd l 0=0/\lF l 0=[]:=by
 obtain⟨h0,h⟩:=h;unfold eE at h;simp only[aO,bc]at h;rw[fS h0,jN h0,nz h0];exact⟨h.2.1,h.1,tS h.2.2.2.2⟩
theorem oU:yj []:=List.Pairwise.nil
theorem vz{l:List Nd}(hs:∀x∈l,Sm x):fJ l=db l:=by
 rw[bm,AM,nV]
 constructor
 ·intro h
  obtain⟨h0,hk0,hd0⟩:=qZ h.root;have hg:∀i,1<=i->i<l.length->ej l i=true:=fun i h1 h2=>(h.nodes i h1 h2).1;have hh:fl l l.length:=nk (af _) h.nodes
  have hA:∀n,n<l.length->oi l n:=fun n hn=>by
   have hm:∀m,m<=n->(∀d∈lF l m,eW d=true)/\yj (lF l m):=fun m hmn=>by
    rcases bw m with rfl|h1
    ·rw[hd0];exact⟨fun d hd=>(by cases hd),oU⟩
    ·have hml:m<l.length:=by omega
     rw[nz hml];obtain⟨_,n1,n2⟩:=h.nodes m h1 hml;by_cases hk:kd l m=1
     ·have he:=n1 hk
      rw[tF hml]at he;have hok:lJ l m l[m]:=Classical.byContradiction fun hc=>by rw[qc hc]at he;cases he
      refine⟨fun d hd => ?_,?_⟩
      ·obtain⟨k,hk,rfl⟩:=List.getElem_of_mem hd
       exact(hok.ds k hk).1
      ·unfold yj
       rw[List.pairwise_iff_getElem];exact fun i j hi hj hij=>(hok.ds j hj).2 i hi hij
     ·have ho:=n2 hk
      rw[sS hml]at ho
      have hb:d9 l[m]=true:=by
       unfold im at ho;rw[aO]at ho;exact ho.1
      rw[tS hb];exact⟨fun d hd=>(by cases hd),oU⟩
   exact⟨hd0,fun m hmn=>(hm m hmn).1,fun m hmn=>(hm m hmn).2⟩
  have hel:∀n (hn:n<l.length),1<=n->kd l n=1->iJ l[n]=true/\jO (kJ l n) l[n]=true:=fun n hn h1 hk=>by
   have he:=(h.nodes n h1 hn).2.1 hk;rw[tF hn]at he;exact(y9 hh h0 hn (hA n hn) (hs _ (aJ hn))).1 he
  have hot:∀n (hn:n<l.length),1<=n->kd l n≠1->dg l[n]=true/\fs l n=false/\(pa l n=0->kd l n=3∨kd l n=4):=fun n hn h1 hk=>by
   have he:=(h.nodes n h1 hn).2.2 hk;rw[sS hn]at he;exact(uT hh hg hk0 h1 hn hk).1 he
  refine⟨h.root,fun i h1 h2 => ?_,h.top,fun i h2 h1 => ?_,fun j hj => ?_⟩
  ·unfold sT
   rw[hg i h1 h2];by_cases hk:kd l i=1
   ·have hb:fs l i=false:=by
     unfold fs;rw[hk];rfl
    rw[hb,hk];simp
   ·obtain⟨_,b2,b3⟩:=hot i h2 h1 hk
    rw[b2];by_cases hp:pa l i=0
    ·rcases b3 hp with e|e<;>rw[e]<;>simp
    ·rw[ak.2 hp];simp
  ·by_cases hk:kd l i=1
   ·have:=(hel i h2 h1 hk).1
    unfold dg;rw[<-jN h2,hk,this];rfl
   ·exact(hot i h2 h1 hk).1
  ·rw[oD hj,<-jN hj]
   rcases bw j with rfl|h1
   ·rw[hk0];rfl
   ·by_cases hk:kd l j=1
    ·rw[(hel j hj h1 hk).2];simp
    ·rw[ak.2 hk];rfl
 ·rintro⟨hroot,hok,htop,hnode,helm⟩
  obtain⟨h0,hk0,hd0⟩:=qZ hroot
  have hg:∀i,1<=i->i<l.length->ej l i=true:=fun i h1 h2=>by
   have:=hok i h1 h2;unfold sT at this;rw[aO]at this;exact this.1
  have hh:fl l l.length:=yS hok
  have hA:∀n,n<l.length->oi l n:=fun n hn=>by
   have hm:∀m,m<=n->(∀d∈lF l m,eW d=true)/\yj (lF l m):=fun m hmn=>by
    rcases bw m with rfl|h1
    ·rw[hd0];exact⟨fun d hd=>(by cases hd),oU⟩
    ·have hml:m<l.length:=by omega
     rw[nz hml];have hn:=hnode m hml h1;by_cases hk:l[m].k=1
     ·unfold dg at hn
      rw[hk]at hn;have he:iJ l[m]=true:=hn;unfold iJ at he;simp only[aO,bK]at he;exact⟨he.2.2.2.1,(xS _).1 he.2.2.2.2.2.1⟩
     ·have hb:d9 l[m]=true:=by
       unfold dg at hn;rw[ak.2 hk,cond_false]at hn;cases hbb:d9 l[m]with
       |true=>rfl
       |false =>
        rw[hbb]at hn;simp only[Bool.false_and]at hn;cases(l[m].k==2)<;>cases(l[m].k==3)<;>cases(l[m].k==4)<;>simp at hn
      rw[tS hb];exact⟨fun d hd=>(by cases hd),oU⟩
   exact⟨hd0,fun m hmn=>(hm m hmn).1,fun m hmn=>(hm m hmn).2⟩
  refine⟨hroot,fun n h1 hn=>⟨hg n h1 hn,fun hk => ?_,fun hk => ?_⟩,htop⟩
  ·rw[tF hn]
   have hne:=hnode n hn h1;have hme:=helm n hn;rw[oD hn,<-jN hn,hk]at hme;unfold dg at hne;rw[<-jN hn,hk]at hne;exact(y9 hh h0 hn (hA n hn) (hs _ (aJ hn))).2 ⟨hne,by simpa using hme⟩
  ·rw[sS hn]
   have ho:=hok n h1 hn;unfold sT at ho;rw[hg n h1 hn,Bool.true_and,aO,Bool.not_eq_true']at ho;refine(uT hh hg hk0 h1 hn hk).2 ⟨hnode n hn h1,ho.1,fun hp => ?_⟩;have h2:=ho.2;rw[hp,ak.2 hk]at h2;simpa using h2
end Go.Proofs.YteinegfbpfhflaaGreatDoor
