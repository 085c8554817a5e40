/-
  What the document's own reader keeps: each node hangs on one ahead of it, none is too long, there are not too many. Plain mathematics. Conditions: none.
  apostilleref08.Reader: sees, as a call that only reads. Conditions: the reader lies as it is; the texts are not too long.
  apostilleref08.Reader: inside, its first steps. Conditions: the reader lies as it is; nothing is too long.
-/
import Derived.Test.YteinegfbpfhflaaGreatDoorM47
import Derived.Test.YteinegfbpfhflaaGreatDoorM35
import Derived.Test.YteinegfbpfhflaaGreatDoorM43
import Derived.Test.YteinegfbpfhflaaGreatDoorM44
namespace Go.Proofs.YteinegfbpfhflaaGreatDoor
open Go.RowKit
set_option linter.unusedVariables false
set_option maxRecDepth 100000
set_option maxHeartbeats 8000000
structure Kp(s:Rf):Prop where
 ne:s.ns≠[]
 h0:pa s.ns 0 = -1
 hung:fl s.ns s.ns.length
 sm:∀x∈s.ns,Sm x
theorem Kp.of{s s':Rf}(h:Kp s)(e:s'.ns=s.ns):Kp s':=⟨e ▸ h.ne,e ▸ h.h0,e ▸ h.hung,e ▸ h.sm⟩
theorem Kp.add{s:Rf}(h:Kp s){x:Nd}(hx:Sm x)(h1:0<=x.n)(h2:x.n<(s.ns.length:Int)):Kp (s.add x):=by
 have hp:s.ns <+: s.ns++[x]:=ce _ _;have h0l:0<s.ns.length:=bO.2 h.ne;refine⟨by show s.ns++[x]≠[];simp,(pC hp h0l).trans h.h0,fun j hj1 hj2 => ?_,fun y hy => ?_⟩
 ·have hj2':j<s.ns.length+1:=by
   have:j<(s.ns++[x]).length:=hj2
   rwa [aj,aB]at this
  rcases bU (cC hj2')with hlt|rfl
  ·show 0<=pa (s.ns++[x]) j/\pa (s.ns++[x]) j<(j:Int)
   rw[pC hp hlt];exact h.hung j hj1 hlt
  ·show 0<=pa (s.ns++[x]) s.ns.length/\pa (s.ns++[x]) s.ns.length<(s.ns.length:Int)
   have e:pa (s.ns++[x]) s.ns.length=x.n:=by unfold pa;simp
   rw[e];exact⟨h1,h2⟩
 ·rcases bS.1 (show y∈s.ns++[x]from hy)with hy|hy
  ·exact h.sm y hy
  ·rw[aW.1 hy];exact hx
theorem o8(t:List UInt8)(s:Rf):(cR t s).1.length<=s.rest.length:=by
 unfold cR
 split
 ·next p q hc=>have:=dW hc;dsimp only;omega
 ·simp
theorem tr(s:Rf):(cQ s).1.1.length<=s.rest.length/\(cQ s).1.2.length<=s.rest.length:=by
 unfold cQ
 split
 ·next r hr =>
  refine⟨mi _,?_⟩;have h1:=ib hr;have h2:=(io s).len;have h3:(iR ((dR s).to r)).length<=r.length:=mi r;dsimp only;omega
 ·exact⟨aM _,mi _⟩
theorem xX{n:Int}{s:Rf}(h:Kp s)(hr:s.rest.length<=100000)(h1:0<=n)(h2:n<(s.ns.length:Int)):Kp (fM n s):=by
 have e:fM n s=(cR [45,45,62] (bI [60,33,45,45] s)).2.add ⟨3,n,⟨#[]⟩,⟨#[]⟩,⟨#[]⟩,ba (cR [45,45,62] (bI [60,33,45,45] s)).1,[],[]⟩:=rfl;have hn:(cR [45,45,62] (bI [60,33,45,45] s)).2.ns=s.ns:=by rw[iO,dX]
 have hl:=o8 [45,45,62] (bI [60,33,45,45] s);have hl2:=(cA [60,33,45,45] s).len;rw[e];exact(h.of hn).add (jH fx (gK (by omega))) h1 (by rw[hn];exact h2)
theorem tk{n:Int}{s:Rf}(h:Kp s)(hr:s.rest.length<=100000)(h1:0<=n)(h2:n<(s.ns.length:Int)):Kp (fm n s):=by
 have e:fm n s=(cR [63,62] (gq (dR (bI [60,63] s)))).2.add ⟨4,n,⟨#[]⟩,ba (iR (bI [60,63] s)),⟨#[]⟩,ba (cR [63,62] (gq (dR (bI [60,63] s)))).1,[],[]⟩:=rfl;have hn:(cR [63,62] (gq (dR (bI [60,63] s)))).2.ns=s.ns:=by rw[iO,yR,xx,dX]
 have hl:=o8 [63,62] (gq (dR (bI [60,63] s)));have hl2:=(cA [60,63] s).len;have hl3:=((io (bI [60,63] s)).trans (kO _)).len;have hl4:(iR (bI [60,63] s)).length<=(bI [60,63] s).rest.length:=mi _;rw[e];exact(h.of hn).add (jH (gK (by omega)) (gK (by omega))) h1 (by rw[hn];exact h2)
theorem xi{n:Int}{t:List UInt8}{s:Rf}(h:Kp s)(ht:t.length<=2000000)(h1:0<=n)(h2:n<(s.ns.length:Int)):Kp (cP n t s):=by
 unfold cP
 split
 ·exact h
 ·exact h.add (jH fx (gK ht)) h1 h2
theorem sM(n:Int)(t:List UInt8)(s:Rf):(cP n t s).ns.length=s.ns.length+(if t=[]then 0 else 1):=by
 unfold cP
 split
 ·rfl
 ·show(s.ns++[_]).length=_;simp
theorem AE(s:Rf)(x:Nd):(iT s x).k=x.k/\(iT s x).n=x.n/\(iT s x).p=x.p/\(iT s x).l=x.l/\(iT s x).u=x.u/\(iT s x).t=x.t:=nG _ _ _ _
theorem EY{s:Rf}{x:Nd}(hx:Sm x)(hr:s.rest.length<=100000)(hn:x.ds.length+x.ats.length<=1000000):Sm (iT s x):=by
 have h1:=tr s;have h2:=py (cQ s).2;have h3:=(fE s).len;refine zp hx hn (by omega) (by omega) (gK ?_)
 cases hv:fA (dq (cQ s).2).1 with
 |none=>simp
 |some y=>have:=BV hv;rw[Option.getD_some];omega
theorem CV:∀(k:Nat) (s:Rf) (x:Nd),Sm x->s.rest.length<=100000->x.ds.length+x.ats.length+s.rest.length<=1000000 ->
 Sm (fy k s x).2/\(fy k s x).1.ns=s.ns/\(fy k s x).2.n=x.n/\(fy k s x).2.k=x.k/\(fy k s x).2.p=x.p/\(fy k s x).2.l=x.l/\(fy k s x).2.ds.length+(fy k s x).2.ats.length+(fy k s x).1.rest.length<=x.ds.length+x.ats.length+s.rest.length
 |0,s,x,hx,hr,hn=>⟨hx,rfl,rfl,rfl,rfl,rfl,af _⟩
 |k+1,s,x,hx,hr,hn=>by
  have hb:=(cJ s).len;rw[fy]
  split
  ·exact⟨hx,rfl,rfl,rfl,rfl,rfl,af _⟩
  ·split
   ·exact⟨hx,rfl,rfl,rfl,rfl,rfl,by show x.ds.length+x.ats.length+(bG s).rest.length<=_;omega⟩
   ·split
    ·exact⟨hx,rfl,rfl,rfl,rfl,rfl,by show x.ds.length+x.ats.length+(bG s).rest.length<=_;omega⟩
    ·next hz =>
     have hlt:(bG s).rest.length<s.rest.length:=by unfold fN at hz;show(aI s.rest).length<_;omega
     have hml:=(kN (bG s)).len;have hxl:(iT (bG s) x).ds.length+(iT (bG s) x).ats.length=x.ds.length+x.ats.length+1:=qv _ _ _ _;obtain⟨m1,m2,m3,m4,m5,m6⟩:=AE (bG s) x;obtain⟨a1,a2,a3,a4,a5,a6,a7⟩:=CV k (lx (bG s)) (iT (bG s) x) (EY hx (by omega) (by omega)) (by omega) (by omega)
     exact⟨a1,a2.trans (yI _),a3.trans m2,a4.trans m1,a5.trans m3,a6.trans m4,by omega⟩
theorem GX{l:List Nd}(h:∀x∈l,Sm x)(s:List UInt8):∀n u,fL l n s=some u->u.size<=2000000:=by
 intro n
 induction n using Nat.strongRecOn with
 |ind n ih =>
  intro u hu;rw[mn]at hu
  split at hu
  ·cases hf:fU (lF l n) s with
   |some v =>
    rw[hf]at hu;simp only[Option.some_or,al]at hu;subst hu;unfold fU at hf;obtain⟨d,hd,rfl⟩:=Option.map_eq_some_iff.1 hf;have hm:=List.mem_of_find?_eq_some hd;unfold lF at hm;cases hx:l[n]? with
    |none=>rw[hx]at hm;cases hm
    |some x =>
     rw[hx]at hm;exact((h x (List.mem_of_getElem? hx)).ds d hm).2
   |none =>
    rw[hf,Option.none_or]at hu
    split at hu
    ·next hp=>exact ih _ hp.2 u hu
    ·cases hu
  ·cases hu
theorem vc{l:List Nd}(h:∀x∈l,Sm x)(n:Nat)(p:ByteArray):(ck l n p).1.size<=2000000:=by
 unfold ck;cases dZ p iA with
 |true=>show(⟨mV.toArray⟩ : ByteArray).size<=2000000;decide
 |false =>
  rw[cond_false];cases hf:fL l n p.data.toList with
  |none=>exact fx
  |some u=>exact GX h _ n u hf
theorem zc{l:List Nd}{x:Nd}(h:∀y∈l,Sm y)(hx:Sm x):Sm (d8 l x):=by
 have hl:∀y∈l++[x],Sm y:=fun y hy=>by
  rcases bS.1 hy with hy|hy
  ·exact h y hy
  ·rw[aW.1 hy];exact hx
 refine⟨hx.p,hx.l,vc hl _ _,hx.t,hx.nd,by show(x.ats.map _).length<=_;rw[bN];exact hx.na,hx.ds,fun a ha => ?_⟩
 have ha':a∈x.ats.map (BA (l++[x]) l.length):=ha;obtain⟨b,hb,rfl⟩:=List.mem_map.1 ha';obtain⟨h1,h2,h3,h4⟩:=hx.ats b hb;unfold BA
 split
 ·exact⟨h1,h2,h3,h4⟩
 ·exact⟨h1,h2,vc hl _ _,h4⟩
def ey(s:Rf):Nat:=s.ns.length+2*s.rest.length
def Gb(f:Nat):Prop:=∀(n:Int) (s:Rf),Kp s->s.rest.length<=100000->s.rest.length<=f->0<=n->n<(s.ns.length:Int)->Kp (dj f n s)/\ey (dj f n s)<=ey s+1/\(bX [60] s=true->ey (dj f n s)+1<=ey s)
theorem kV{f:Nat}(hE:Gb f):∀(k:Nat) (n:Int) (t:List UInt8) (s:Rf),Kp s->s.rest.length<=100000->s.rest.length<=f->t.length+4*s.rest.length<=1000000->0<=n->n<(s.ns.length:Int)->Kp (da (dj f) k n t s)/\ey (da (dj f) k n t s)<=ey s+(if t=[]then 0 else 1)
 |0,n,t,s,h,hr,hf,ht,h1,h2=>by
  refine⟨xi h (by omega) h1 h2,?_⟩
  show(cP n t s).ns.length+2*(cP n t s).rest.length<=s.ns.length+2*s.rest.length+_
  rw[sM,(jY n t s).1];omega
 |k+1,n,t,s,h,hr,hf,ht,h1,h2=>by
  have hp2:=(jY n t s).1;have hp2l:(cP n t s).rest.length=s.rest.length:=by rw[hp2]
  have hpl:=sM n t s;have hpk:Kp (cP n t s):=xi h (by omega) h1 h2
  have hpn:n<((cP n t s).ns.length:Int):=by rw[hpl];split<;>omega
  rw[da]
  split
  ·refine⟨hpk,?_⟩
   show(cP n t s).ns.length+2*(cP n t s).rest.length<=s.ns.length+2*s.rest.length+_
   rw[hpl,hp2];omega
  ·next hst =>
   split
   ·next hc =>
    have hl:=iG hc;have hu:=(fd [93,93,62] (bI [60,33,91,67,68,65,84,65,91] s)).len;have hu1:=o8 [93,93,62] (bI [60,33,91,67,68,65,84,65,91] s)
    have hu2:(cR [93,93,62] (bI [60,33,91,67,68,65,84,65,91] s)).1.length+(cR [93,93,62] (bI [60,33,91,67,68,65,84,65,91] s)).2.rest.length<=(bI [60,33,91,67,68,65,84,65,91] s).rest.length:=by
     unfold cR
     split
     ·next p q hc=>have:=dW hc;show p.length+q.length<=_;omega
     ·simp[Rf.fail]
    have hns:(cR [93,93,62] (bI [60,33,91,67,68,65,84,65,91] s)).2.ns=s.ns:=by rw[iO,dX]
    simp only[az,bb]at hl;obtain⟨a1,a2⟩:=kV hE k n (t++(cR [93,93,62] (bI [60,33,91,67,68,65,84,65,91] s)).1) (cR [93,93,62] (bI [60,33,91,67,68,65,84,65,91] s)).2 (h.of hns) (by omega) (by omega) (by rw[aj];omega) h1 (by rw[hns];exact h2)
    refine⟨a1,ag a2 ?_⟩;unfold ey;rw[hns]
    split<;>omega
   ·split
    ·next hc hlt =>
     have hne:s.rest≠[]:=fun e=>hst (.inr (.inl e))
     have hlt':aH [60] s.rest=none:=by
      cases hq:aH [60] s.rest with
      |none=>rfl
      |some r=>rw[dw hq]at hlt;cases hlt
     obtain⟨d,z,hd,hd60⟩:=pz hlt' hne;have hsum:=sh [60] s.rest
     have hA:1<=(cE [60] s.rest).length:=by
      rw[hd];unfold cE;rw[List.takeWhile_cons_of_pos (by simpa using hd60)];simp
     have hcl:((cT (cE [60] s.rest)).getD []).length<=4*(cE [60] s.rest).length:=by
      cases hc:cT (cE [60] s.rest)with
      |none=>simp
      |some y=>rw[Option.getD_some];exact mE hc
     have hns:((s.to (c9 [60] s.rest)).or (cT (cE [60] s.rest)).isNone).ns=s.ns:=rfl;have hrr:((s.to (c9 [60] s.rest)).or (cT (cE [60] s.rest)).isNone).rest=c9 [60] s.rest:=rfl;obtain⟨a1,a2⟩:=kV hE k n (t++(cT (cE [60] s.rest)).getD []) ((s.to (c9 [60] s.rest)).or (cT (cE [60] s.rest)).isNone) (h.of hns) (by rw[hrr];omega) (by rw[hrr];omega) (by rw[aj,hrr];omega) h1 (by rw[hns];exact h2)
     refine⟨a1,ag a2 ?_⟩;unfold ey;rw[hns,hrr]
     split<;>omega
    ·next hc hlt =>
     have hlt':bX [60] s=true:=by simpa using hlt
     split
     ·next hcm =>
      have hcm':bX [60,33,45,45] (cP n t s)=true:=by unfold bX at hcm ⊢;rw[hp2];exact hcm
      have hl:=oK (n:=n) hcm';have hn:=tQ n (cP n t s);obtain⟨a1,a2⟩:=kV hE k n [] (fM n (cP n t s)) (xX hpk (by rw[hp2];exact hr) h1 hpn) (by omega) (by omega) (by simp;omega) h1 (by rw[hn];omega)
      refine⟨a1,ag a2 ?_⟩;unfold ey;rw[hn,hpl,av rfl];omega
     ·split
      ·next hcm =>
       have hcm':bX [60,63] (cP n t s)=true:=by unfold bX at hcm ⊢;rw[hp2];exact hcm
       have hl:=ov (n:=n) hcm';have hn:=ou n (cP n t s);obtain⟨a1,a2⟩:=kV hE k n [] (fm n (cP n t s)) (tk hpk (by rw[hp2];exact hr) h1 hpn) (by omega) (by omega) (by simp;omega) h1 (by rw[hn];omega)
       refine⟨a1,ag a2 ?_⟩;unfold ey;rw[hn,hpl,av rfl];omega
      ·have hlt2:bX [60] (cP n t s)=true:=by unfold bX at hlt' ⊢;rw[hp2];exact hlt'
       obtain⟨b1,b2,b3⟩:=hE n (cP n t s) hpk (by rw[hp2];exact hr) (by rw[hp2];exact hf) h1 hpn
       have b3':=b3 hlt2;have hm:=iq f n (cP n t s);have hml:=hm.len;have hmn:=hm.2.1.length_le;obtain⟨a1,a2⟩:=kV hE k n [] (dj f n (cP n t s)) b1 (by omega) (by omega) (by simp;omega) h1 (by omega)
       refine⟨a1,ag a2 ?_⟩;unfold ey at b3' ⊢;rw[hpl,hp2]at b3';rw[av rfl];omega
theorem A9{n:Int}{p l:List UInt8}(hp:p.length<=2000000)(hl:l.length<=2000000):Sm ⟨1,n,ba p,ba l,⟨#[]⟩,⟨#[]⟩,[],[]⟩:=⟨gK hp,gK hl,fx,fx,aM _,aM _,fun d hd=>(by cases hd),fun a ha=>(by cases ha)⟩
theorem zd{n:Int}{s:Rf}(hr:s.rest.length<=100000):Sm (bZ n s).2/\(bZ n s).1.ns=s.ns/\(bZ n s).2.n=n/\(bZ n s).2.k=1/\(bZ n s).2.p=ba (fg s).1.1/\(bZ n s).2.l=ba (fg s).1.2/\(bZ n s).2.ds.length+(bZ n s).2.ats.length+(bZ n s).1.rest.length<=s.rest.length:=by
 have h1:=tr (bI [60] s);have h2:=(cA [60] s).len;have h3:=((cA [60] s).trans (fE _)).len;have he:(fg s).2.rest.length<=s.rest.length:=h3;obtain⟨a1,a2,a3,a4,a5,a6,a7⟩:=CV ((fg s).2.rest.length+1) (fg s).2 ⟨1,n,ba (fg s).1.1,ba (fg s).1.2,⟨#[]⟩,⟨#[]⟩,[],[]⟩ (A9 (by show(cQ (bI [60] s)).1.1.length<=_;omega) (by show(cQ (bI [60] s)).1.2.length<=_;omega)) (by omega) (by simp;omega)
 refine⟨a1,a2.trans ?_,a3,a4,a5,a6,?_⟩
 ·show(cQ (bI [60] s)).2.ns=s.ns
  rw[nn,dX]
 ·simp only[bb]at a7
  show(fy _ _ _).2.ds.length+(fy _ _ _).2.ats.length+(fy _ _ _).1.rest.length<=_
  omega
theorem Fu(pl:List UInt8×List UInt8)(s:Rf):(qF pl s).ns=s.ns:=by
 show(bI [62] (bG (cQ (bI [60,47] s)).2)).ns=s.ns
 rw[dX]
 show(cQ (bI [60,47] s)).2.ns=s.ns
 rw[nn,dX]
theorem xQ:∀f:Nat,Gb f
 |0=>fun n s h hr hf h1 h2=>by
  refine⟨h,Nat.le_succ _,fun hs => ?_⟩;have:=iG hs;simp only[az,bb]at this;omega
 |f+1=>fun n s h hr hf h1 h2=>by
  obtain⟨m1,m2,m3,m4,m5,m6,m7⟩:=zd (n:=n) hr;have hkM:Kp (bZ n s).1:=h.of m2;have hn':n<((bZ n s).1.ns.length:Int):=by rw[m2];exact h2
  have hmo:=kQ n s;have hml:=hmo.len
  have htk:bX [60] s=true->(bZ n s).1.rest.length+1<=s.rest.length:=fun hs=>by
   have a:=iG hs;have b:=((fE (bI [60] s)).trans (ip ((fg s).2.rest.length+1) (fg s).2 ⟨1,n,ba (fg s).1.1,ba (fg s).1.2,⟨#[]⟩,⟨#[]⟩,[],[]⟩)).len;simp only[az,bb]at a;have b':(bZ n s).1.rest.length<=(bI [60] s).rest.length:=b;omega
  rw[dj]
  split
  ·refine⟨hkM.add m1 (by rw[m3];exact h1) (by rw[m3];exact hn'),?_,fun hs => ?_⟩
   ·show((bZ n s).1.ns++[_]).length+2*(bZ n s).1.rest.length<=s.ns.length+2*s.rest.length+1
    rw[aj,aB,m2];omega
   ·have:=htk hs
    show((bZ n s).1.ns++[_]).length+2*(bZ n s).1.rest.length+1<=s.ns.length+2*s.rest.length
    rw[aj,aB,m2];omega
  ·next hbad =>
   have hgood:bX [60] s=true:=by
    cases hq:bX [60] s with
    |true=>rfl
    |false =>
     exfalso
     refine hbad ((ip _ _ _).1 (tu ?_))
     rw[fa (by
      cases hp:aH [60] s.rest with
      |none=>rfl
      |some r=>rw[dw hp]at hq;cases hq)];rfl
   have hlt:=htk hgood;have hkA:Kp ((bZ n s).1.add (d8 (bZ n s).1.ns (bZ n s).2)):=hkM.add (zc hkM.sm m1) (by show 0<=(bZ n s).2.n;rw[m3];exact h1) (by show(bZ n s).2.n<_;rw[m3];exact hn')
   have hlA:((bZ n s).1.add (d8 (bZ n s).1.ns (bZ n s).2)).ns.length=s.ns.length+1:=by
    show((bZ n s).1.ns++[_]).length=_
    rw[aj,aB,m2]
   split
   ·next hse =>
    have hk2:=hkA.of (dX [47,62] ((bZ n s).1.add (d8 (bZ n s).1.ns (bZ n s).2)));have hl2:=(cA [47,62] ((bZ n s).1.add (d8 (bZ n s).1.ns (bZ n s).2))).len;have hl3:(bI [47,62] ((bZ n s).1.add (d8 (bZ n s).1.ns (bZ n s).2))).rest.length<=(bZ n s).1.rest.length:=hl2
    have hc:ey (bI [47,62] ((bZ n s).1.add (d8 (bZ n s).1.ns (bZ n s).2)))+1<=ey s:=by
     unfold ey;rw[dX,hlA];omega
    exact⟨hk2,by omega,fun _=>hc⟩
   ·have hs2:dt ((bZ n s).1.add (d8 (bZ n s).1.ns (bZ n s).2)) (bI [62] ((bZ n s).1.add (d8 (bZ n s).1.ns (bZ n s).2))):=cA _ _
    have hl2:(bI [62] ((bZ n s).1.add (d8 (bZ n s).1.ns (bZ n s).2))).rest.length<=(bZ n s).1.rest.length:=hs2.len;have hn2:=dX [62] ((bZ n s).1.add (d8 (bZ n s).1.ns (bZ n s).2));obtain⟨a1,a2⟩:=kV (xQ f) ((bZ n s).1.rest.length+1) ((bZ n s).1.ns.length:Nat) [] (bI [62] ((bZ n s).1.add (d8 (bZ n s).1.ns (bZ n s).2))) (hkA.of hn2) (by omega) (by omega) (by simp;omega) (by omega) (by rw[hn2,hlA,m2];omega)
    have hE:=Fu (fg s).1 (da (dj f) ((bZ n s).1.rest.length+1) ((bZ n s).1.ns.length:Nat) [] (bI [62] ((bZ n s).1.add (d8 (bZ n s).1.ns (bZ n s).2))));have hEl:=(kR (fg s).1 (da (dj f) ((bZ n s).1.rest.length+1) ((bZ n s).1.ns.length:Nat) [] (bI [62] ((bZ n s).1.add (d8 (bZ n s).1.ns (bZ n s).2))))).len
    have hc:ey (qF (fg s).1 (da (dj f) ((bZ n s).1.rest.length+1) ((bZ n s).1.ns.length:Nat) [] (bI [62] ((bZ n s).1.add (d8 (bZ n s).1.ns (bZ n s).2)))))+1<=ey s:=by
     rw[av rfl]at a2;unfold ey at a2 ⊢;rw[hE];rw[hn2,hlA]at a2;omega
    exact⟨a1.of hE,by omega,fun _=>hc⟩
theorem Gn(S T:ByteArray)(b:Nat)(v:Value)(s:Rf)(k:Nat)(w:World)(h:eR w b S v s k)(hS:S.size<=1000000)(hT:T.size<=1000000) :
 Calls Tryz.prog 57 #[.pointer (some ⟨b,0,none⟩),.string T] w fun e w'=>e=.returned (.bool (bX T.data.toList s))/\∃m,w'=w.drewN m:=by
 obtain⟨c0,c1,c2,c3⟩:=h.cells;have hk:=h.le;have hlt:=h.lt;have hln:=h.len;have hx:bX T.data.toList s=decide ((S.data.toList.drop k).take T.size=T.data.toList):=by unfold bX;rw[Hu,h.rest,aF T]
 obtain⟨B,hB⟩ : ∃B,bX T.data.toList s=B:=⟨_,rfl⟩;rw[hB]at hx ⊢;clear h c2 c3 hB;by_cases hfit:(S.size:Int)-(k:Int) ≥ (T.size:Int)
 ·have hd:decide ((S.size:Int)-(k:Int) ≥ (T.size:Int))=true:=ax hfit
  obtain⟨Z,hZ⟩ : ∃Z,S.extract k (k+T.size)=Z:=⟨_,rfl⟩
  have hsl:∀w,(Instr.slice 9 (.string S) (some (.int .i64 (k:Int))) (some (.int .i64 ((k:Int)+(T.size:Int)))) none).run Tryz.prog w=.ok (.string Z) w:=fun w=>by
   rw[<-hZ];exact fP S (Nat.le_add_right k T.size) (by omega) w
  have ht:(Z.toList==T.toList)=B:=by
   rw[aq,aq,hx,<-hZ,qq];exact bm.2 (by rw[bc,decide_eq_true_iff])
  clear hx hZ hln;go_enter Tryz.func57,Tryz.ntmps57
  go_wp2_with fail
  go_quiet (fail)
  go_wp2;go_ret;exact⟨rfl,_,rfl⟩
 ·have hd:decide ((S.size:Int)-(k:Int) ≥ (T.size:Int))=false:=ap hfit
  have hB0:B=false:=by
   rw[hx,bT];intro e;have:=congrArg List.length e;rw[aY,bq,<-aF,<-aF]at this;omega
  subst hB0;clear hx hln;go_enter Tryz.func57,Tryz.ntmps57
  go_wp2_with fail
  go_quiet (fail)
  go_wp2;go_ret;exact⟨rfl,_,rfl⟩
theorem Ch{S:ByteArray}{b:Nat}{v:Value}{s:Rf}{k:Nat}{w:World}(T:ByteArray)(h:eR w b S v s k)(hS:S.size<=1000000)(hT:T.size<=1000000)(n:Nat) :
 Calls Tryz.prog 57 #[.pointer (some ⟨b,0,none⟩),.string T] (w.drewN n) fun e w'=>e=.returned (.bool (bX T.data.toList s))/\∃m,w'=w.drewN m:=(Gn S T b v s k _ (h.below (ay (ae _ _) _)) hS hT).mono fun e w' ⟨h1,m,h2⟩=>⟨h1,n+m,by rw[h2];simp[World.drewN,Nat.add_assoc]⟩
def D8(f:Nat):Prop:=∀(S:ByteArray) (B rb:Nat) (s:Rf) (vn:Value) (ys:List Ny) (n:Int) (w:World),eF w B rb S s vn ys->S.size<=100000->s.rest.length<=f->1<=f->Kp s->0<=n->n<(s.ns.length:Int)->ey s<=800000 ->
 Calls Tryz.prog 35 #[.pointer (some ⟨rb,0,none⟩),.int .i64 n] w fun e w'=>e=.returned (.tuple #[])/\eP B rb S (dj f n s) vn w w'
theorem pv(q:List UInt8)(hq:q.length<=100000)(w:World):Calls Tryz.prog 104 #[.string (ba q)] w fun e w'=>e=.returned (.tuple #[.string (ba ((cT q).getD [])),.bool (cT q).isSome])/\Below w.heap.size w w' :=
 (pw (ba q) (by rw[cV];exact hq) w).mono fun e w' ⟨ha,hb⟩=>by
   rw[bp]at ha;rcases ha with⟨Y,h1,rfl⟩|⟨h1,rfl⟩
   ·rw[h1,Option.getD_some,kZ];exact⟨rfl,hb⟩
   ·rw[h1];exact⟨rfl,hb⟩
theorem nF(a b:List UInt8):ba a++ba b=ba (a++b):=by
 apply cp
 rw[bp];simp[ba]
def D5(w:World)(B rb:Nat)(S:ByteArray)(vn:Value)(f:Nat)(n:Int)(T:Rf)(v:Value)(wr:World):Prop :=
 ∃(k:Nat) (t:List UInt8) (s:Rf) (vn':Value) (ys:List Ny),v=.string (ba t)/\s.rest.length<k/\da (dj f) k n t s=T/\eF wr B rb S s vn' ys/\du rb vn vn' w wr/\Below B w wr/\Kp s/\n<(s.ns.length:Int)/\t.length+4*s.rest.length<=1000000/\ey s+(if t=[]then 0 else 1)<=800000/\s.rest.length<=f
def Hj(w:World)(rb:Nat)(S:ByteArray)(v:Value)(s:Rf)(k:Nat)(u:Value)(wr:World):Prop :=
 ∃j:Nat,k<=j/\eR wr rb S v (s.to (S.data.toList.drop j)) j/\dA rb S v (s.to (S.data.toList.drop j)) w wr/\∀c∈(S.data.toList.drop k).take (j-k),c∉([60] : List UInt8)
theorem um{S:ByteArray}{k j:Nat}{r:List UInt8}(hr:r=S.data.toList.drop k)(hkj:k<=j)(hall:∀c∈(S.data.toList.drop k).take (j-k),c∉([60] : List UInt8))(hst:S.data.toList.drop j=[]∨∃z,S.data.toList.drop j=60::z):cE [60] r=(S.data.toList.drop k).take (j-k)/\c9 [60] r=S.data.toList.drop j:=by
 have e:r=(S.data.toList.drop k).take (j-k)++S.data.toList.drop j:=by
  rw[hr]
  conv=>lhs;rw[<-cG (j-k) (S.data.toList.drop k)]
  rw[List.drop_drop,show k+(j-k)=j by omega]
 obtain⟨u1,u2⟩:=jU hall (S.data.toList.drop j);rw[<-e]at u1 u2;rcases hst with h|⟨z,h⟩
 ·rw[h]at u1 u2
  rw[u1,u2,h];exact⟨by simp[cE],rfl⟩
 ·rw[h]at u1 u2
  rw[(jw (by simp)).1,bo]at u1
  rw[(jw (by simp)).2]at u2
  rw[u1,u2,h];exact⟨rfl,rfl⟩
end Go.Proofs.YteinegfbpfhflaaGreatDoor
