/-
  Marks, as the document's own reader and the program's read them. Plain mathematics. Conditions: no byte 13.
  Instructions, as the document's own reader and the program's read them. Plain mathematics. Conditions: no byte 13.
-/
import Derived.Test.YteinegfbpfhflaaGreatDoorM38
namespace Go.Proofs.YteinegfbpfhflaaGreatDoor
open Go.RowKit
set_option linter.unusedVariables false
theorem oO(c:UInt8):fq c=true↔c=32∨c=9∨c=10∨c=13:=by
 unfold fq;simp only[Bool.or_eq_true,bc,or_assoc]
theorem ii{c:UInt8}{z:List UInt8}(h:fq c=false):aI (c::z)=c::z:=by
 unfold aI;rw[List.dropWhile_cons_of_neg (by simp[h])]
theorem nD{s:List UInt8}{c:UInt8}{z:List UInt8}(h:aI s=c::z):fq c=false:=by
 have:=List.head?_dropWhile_not fq s;unfold aI at h;rw[h]at this;simpa using this
theorem lU{c:UInt8}(h:c∉bd):c≠32/\c≠9/\c≠10/\c≠61/\c≠47/\c≠62:=by
 simp only[bd,aU,bE,or_false]at h;refine⟨?_,?_,?_,?_,?_,?_⟩<;>(rintro rfl;exact h (by simp))
theorem xY{c:UInt8}(h:c∉bd)(h13:c≠13):fq c=false:=by
 obtain⟨h1,h2,h3,_⟩:=lU h;cases hb:fq c with
 |false=>rfl
 |true=>rcases(oO c).1 hb with e|e|e|e<;>contradiction
theorem EO{s:Rf}{c:UInt8}{z:List UInt8}(h:s.rest=c::z)(hc:c∉bd)(h13:c≠13):(dq s).2.bad=true:=by
 refine(ni s).1 ?_;have hb:aI s.rest=c::z:=by rw[h];exact ii (xY hc h13)
 rw[fa (s:=bG s) (by show aH [61] (aI s.rest)=none;rw[hb];exact gI (Ne.symm (lU hc).2.2.2.1) _)]
 rfl
theorem uN(s:Rf):(∀r2 q r3,fe s.rest=some r2->e9 r2=some (q,r3)->dq s=(q,s.to r3))/\((fe s.rest=none∨∃r2,fe s.rest=some r2/\e9 r2=none)->(dq s).2.bad=true):=by
 have he:fe s.rest=(aH [61] (bG s).rest).map aI:=rfl;cases h1:aH [61] (bG s).rest with
 |none =>
  rw[h1]at he;refine⟨fun r2 q r3 h=>(by rw[he]at h;cases h),fun _=>(ni s).1 ?_⟩
  rw[fa h1];rfl
 |some r1 =>
  rw[h1]at he;have hst:bG (bI [61] (bG s))=s.to (aI r1):=by rw[dm h1];rfl
  cases h2:aH [39] (aI r1)with
  |some a =>
   have hq:e9 (aI r1)=cW [39] a:=by unfold e9;rw[h2]
   have hr:dq s=cR [39] (s.to a):=by
    unfold dq;rw[hst];rw[show aH [39] (s.to (aI r1)).rest=some a from h2];rfl
   refine⟨fun r2 q r3 h h3 => ?_,fun h => ?_⟩
   ·rw[he]at h
    simp only[Option.map_some,al]at h;subst h;rw[hq]at h3;rw[hr,gG (s:=s.to a) h3];rfl
   ·rcases h with h|⟨r2,h,h3⟩
    ·rw[he]at h;cases h
    ·rw[he]at h
     simp only[Option.map_some,al]at h;subst h;rw[hq]at h3;rw[hr,ij (s:=s.to a) h3];rfl
  |none =>
   cases h3:aH [34] (aI r1)with
   |some a =>
    have hq:e9 (aI r1)=cW [34] a:=by unfold e9;rw[h2,h3]
    have hr:dq s=cR [34] (s.to a):=by
     unfold dq;rw[hst];rw[show aH [39] (s.to (aI r1)).rest=none from h2];dsimp only;rw[show aH [34] (s.to (aI r1)).rest=some a from h3];rfl
    refine⟨fun r2 q r3 h h4 => ?_,fun h => ?_⟩
    ·rw[he]at h
     simp only[Option.map_some,al]at h;subst h;rw[hq]at h4;rw[hr,gG (s:=s.to a) h4];rfl
    ·rcases h with h|⟨r2,h,h4⟩
     ·rw[he]at h;cases h
     ·rw[he]at h
      simp only[Option.map_some,al]at h;subst h;rw[hq]at h4;rw[hr,ij (s:=s.to a) h4];rfl
   |none =>
    have hq:e9 (aI r1)=none:=by unfold e9;rw[h2,h3]
    have hr:dq s=([],(s.to (aI r1)).fail):=by
     unfold dq;rw[hst];rw[show aH [39] (s.to (aI r1)).rest=none from h2];dsimp only;rw[show aH [34] (s.to (aI r1)).rest=none from h3]
    refine⟨fun r2 q r3 h h4 => ?_,fun _=>by rw[hr];rfl⟩
    rw[he]at h;simp only[Option.map_some,al]at h;subst h;rw[hq]at h4;cases h4
theorem CT(s:Rf)(x:Nd)(h13:(13:UInt8)∉s.rest):(∀r x',eV s.rest x=some (r,x')->lx s=s.to r/\iT s x=x')/\(eV s.rest x=none->(lx s).bad=true):=by
 obtain⟨f1,f2⟩:=pW s;cases hs:dL (cE bd s.rest)with
 |none =>
  have hm:eV s.rest x=none:=by unfold eV;rw[hs]
  refine⟨fun r x' h=>(by rw[hm]at h;cases h),fun _=>iQ ?_ _⟩
  rcases f2 hs with hb|⟨c,z,h1,h2,h3⟩
  ·exact(pN _).1 hb
  ·exact EO h1 h3 (fun e=>h13 (e ▸ h2))
 |some q =>
  obtain⟨p,l⟩:=q;have hf:=f1 p l hs;have hfr:(cQ s).2=s.to (c9 bd s.rest):=by rw[hf]
  obtain⟨g1,g2⟩:=uN (s.to (c9 bd s.rest))
  have hm:∀{T},eV s.rest x=T->(match fe (c9 bd s.rest)with
   |none=>none
   |some r2=>match e9 r2 with
    |none=>none
    |some (q,r3)=>match fA q with
     |none=>none
     |some v=>some (r3,fj x p l (ba v)))=T:=fun h=>by rw[<-h];unfold eV;rw[hs];rfl
  cases h1:fe (c9 bd s.rest)with
  |none =>
   refine⟨fun r x' h => ?_,fun _=>iQ (by rw[hfr];exact g2 (.inl h1)) _⟩
   have:=hm h;rw[h1]at this;cases this
  |some r2 =>
   cases h2:e9 r2 with
   |none =>
    refine⟨fun r x' h => ?_,fun _=>iQ (by rw[hfr];exact g2 (.inr ⟨r2,h1,h2⟩)) _⟩
    have:=hm h;rw[h1]at this;dsimp only at this;rw[h2]at this;cases this
   |some qr =>
    obtain⟨q,r3⟩:=qr;have hq:=g1 r2 q r3 h1 h2;cases h3:fA q with
    |none =>
     refine⟨fun r x' h => ?_,fun _ => ?_⟩
     ·have:=hm h
      rw[h1]at this;dsimp only at this;rw[h2]at this;dsimp only at this;rw[h3]at this;cases this
     ·unfold lx;rw[hfr,hq,h3]
      simp[Rf.or]
    |some v =>
     refine⟨fun r x' h => ?_,fun h => ?_⟩
     ·have:=hm h
      rw[h1]at this;dsimp only at this;rw[h2]at this;dsimp only at this;rw[h3]at this;simp only[al,Prod.mk.injEq]at this;obtain⟨rfl,rfl⟩:=this;refine⟨?_,?_⟩
      ·unfold lx;rw[hfr,hq,h3]
       exact cY _
      ·unfold iT;rw[hfr,hq,hf,h3];rfl
     ·have:=hm h
      rw[h1]at this;dsimp only at this;rw[h2]at this;dsimp only at this;rw[h3]at this;cases this
theorem th{k:Nat}{s:Rf}(x:Nd)(h:s.bad=true):(fy k s x).1.bad=true:=(ip k s x).1 h
theorem BH(x:Nd)(N:Nat)(p l:List UInt8)(v:ByteArray):fj (cy x N) p l v=cy (fj x p l v) N:=by
 unfold fj
 split
 ·rfl
 ·split<;>rfl
theorem xB(s:List UInt8)(x:Nd)(N:Nat):eV s (cy x N)=(eV s x).map fun q=>(q.1,cy q.2 N):=by
 unfold eV
 split
 ·rfl
 ·split
  ·rfl
  ·split
   ·rfl
   ·split
    ·rfl
    ·rw[BH];rfl
theorem EW{s r:List UInt8}{x x':Nd}(h:eV s x=some (r,x')):x'.k=x.k:=by
 unfold eV at h
 split at h
 ·cases h
 ·split at h
  ·cases h
  ·split at h
   ·cases h
   ·split at h
    ·cases h
    ·simp only[al,Prod.mk.injEq]at h
     rw[<-h.2];exact(nG _ _ _ _).1
theorem yt(full:List UInt8)(o:Po)(N:Nat):∀(n k:Nat) (st:Rd) (s:Rf) (x:Nd),st.rest=s.rest->s.bad=false->(13:UInt8)∉s.rest->st.rest.length<n->s.rest.length<k ->
 (lr full o n st x=none->(fy k s (cy x N)).1.bad=true) /\
 (∀st',lr full o n st x=some st'->∃s1 x1,fy k s (cy x N)=(s1,cy x1 N)/\x1.k=x.k/\s1.bad=false/\s1.ns=s.ns /\
   ((∃r,aH [62] s1.rest=some r/\st'=jp { st with rest:=r } o x1 full) ∨
    (aH [62] s1.rest=none/\∃r,aH [47,62] s1.rest=some r/\st'=qi (jp { st with rest:=r } o x1 full) st.op ⟨(ed { st with ds:=st.ds++x1.ds } o).ns.length,full,st.ds.length⟩)))
 |0,_,st,_,_,_,_,_,h,_=>by omega
 |_,0,_,s,_,_,_,_,_,h=>by omega
 |n+1,k+1,st,s,x,hr,hb,h13,hn,hk=>by
  rw[fy,am (show ¬s.bad=true by rw[hb];simp),lr]
  have hbr:(bG s).rest=aI st.rest:=by rw[hr];rfl
  cases h1:aH [62] (aI st.rest)with
  |some r =>
   have hs:bX [62] (bG s)=true:=dw (by rw[hbr];exact h1)
   rw[av (show(bX [62] (bG s)||bX [47,62] (bG s))=true by rw[hs];rfl)]
   refine⟨fun h=>(by cases h),fun st' h => ?_⟩
   simp only[al]at h;subst h;exact⟨bG s,x,rfl,rfl,hb,rfl,.inl ⟨r,by rw[hbr];exact h1,rfl⟩⟩
  |none =>
   have hs:bX [62] (bG s)=false:=ek (by rw[hbr];exact h1)
   dsimp only;cases h2:aH [47,62] (aI st.rest)with
   |some r =>
    have hs2:bX [47,62] (bG s)=true:=dw (by rw[hbr];exact h2)
    rw[av (show(bX [62] (bG s)||bX [47,62] (bG s))=true by rw[hs,hs2];rfl)]
    refine⟨fun h=>(by cases h),fun st' h => ?_⟩
    simp only[al]at h;subst h;exact⟨bG s,x,rfl,rfl,hb,rfl,.inr ⟨by rw[hbr];exact h1,r,by rw[hbr];exact h2,rfl⟩⟩
   |none =>
    have hs2:bX [47,62] (bG s)=false:=ek (by rw[hbr];exact h2)
    rw[am (show ¬(bX [62] (bG s)||bX [47,62] (bG s))=true by rw[hs,hs2];simp)]
    dsimp only;have hle:=cB s.rest;by_cases hlt:(aI st.rest).length<st.rest.length
    ·have hbn:¬fN s=0:=by unfold fN;rw[<-hr];omega
     rw[av hlt,am hbn];obtain⟨m1,m2⟩:=CT (bG s) (cy x N) ((cJ s).mem h13);rw[hbr,xB]at m1 m2;cases hm:eV (aI st.rest) x with
     |none =>
      rw[hm]at m2;exact⟨fun _=>th _ (m2 rfl),fun st' h=>(by cases h)⟩
     |some q =>
      obtain⟨r,x'⟩:=q;rw[hm]at m1;obtain⟨e1,e2⟩:=m1 r _ rfl;have hml:=kS hm;dsimp only;rw[e1,e2];have hmo:=((cJ s).trans (kN (bG s)));have:=yt full o N n k { st with rest:=r } ((bG s).to r) x' rfl hb (by rw[<-e1];exact hmo.mem h13) (by show r.length<n;omega) (by show r.length<k;rw[<-hr]at hk;omega)
      rw[EW hm]at this;exact this
    ·have hbn:fN s=0:=by unfold fN;rw[<-hr];omega
     rw[am hlt,av hbn];exact⟨fun _=>rfl,fun st' h=>by cases h⟩
theorem jw{e:List UInt8}{c:UInt8}{z:List UInt8}(h:c∈e):cE e (c::z)=[]/\c9 e (c::z)=c::z :=
 ⟨List.takeWhile_cons_of_neg (by simpa using h),List.dropWhile_cons_of_neg (by simpa using h)⟩
theorem GA:Hp 63:=⟨by decide,by decide⟩
theorem r5(s:List UInt8):∃b,s=b++aI s/\(∀c∈b,fq c=true):=⟨s.takeWhile fq,List.takeWhile_append_dropWhile.symm,fun c hc=>bK.1 List.all_takeWhile c hc⟩
theorem EP{a b:UInt8}{s r:List UInt8}(h:aH [a,b] s=some r):s=a::b::r:=cH h
theorem qn:∀{b:List UInt8} (h:∀c∈b,fq c=true) (x:List UInt8),aI (b++x)=aI x:=fun h x=>List.dropWhile_append_of_pos h
theorem vu(s:Rf)(h13:(13:UInt8)∉s.rest) :
 (cW [63,62] s.rest=none->(cR [63,62] (gq (dR s))).2.bad=true) /\
 (∀p r,cW [63,62] s.rest=some (p,r) ->
   (cR [63,62] (gq (dR s))=(aI (c9 [32,9,10] p),s.to r)/\iR s=cE [32,9,10] p) ∨
   ((cR [63,62] (gq (dR s))).2.bad=true/\¬nm (cE [32,9,10] p))):=by
 obtain⟨n,x,hr⟩:=jA s.rest;have hN63:(63:UInt8)∉bg n:=om GA hr.ok;have hNb:∀c∈bg n,c∉([32,9,10] : List UInt8):=fun c hc hm=>om (Ab c hm) hr.ok hc;have hcut:cW [63,62] s.rest=(cW [63,62] x).map fun q=>(bg n++q.1,q.2):=by rw[hr.eq];exact oH hN63 x
 have hsuf:x <:+ s.rest:=⟨bg n,hr.eq.symm⟩;have hx13:(13:UInt8)∉x:=fun hm=>h13 (hsuf.subset hm);have bads:∀{u:Rf},u.bad=true->(cR [63,62] (gq u)).2.bad=true:=fun hu=>((kO _).trans (fd _ _)).1 hu;obtain⟨b,hb,hball⟩:=r5 x;by_cases hn:n=[]
 ·subst hn
  have hbad:=bads (l7 hr);refine⟨fun _=>hbad,fun p r hp => .inr ⟨hbad,fun hnm => ?_⟩⟩
  have hq:∃y,s.rest=cE [32,9,10] p++y:=by
   obtain⟨k,_,_,rfl,_⟩:=ig hp;exact⟨c9 [32,9,10] (s.rest.take k)++s.rest.drop k,by rw[<-List.append_assoc,kH,cG]⟩
  obtain⟨y,hy⟩:=hq;obtain⟨l,hl,hnl,e⟩:=hnm;rw[e]at hy;obtain⟨d,hd⟩:=mR.most (c:=[]) (a:=[]) (b:=l) (x:=x) (y:=y) rfl (by simpa using hnl) (by rw[<-hy];exact hr.eq.symm) (by simpa using hr.stop)
  exact hl (List.append_eq_nil_iff.1 hd.symm).1
 obtain⟨e1,e2⟩:=lZ hr hn;rw[e1];cases hx:aH [63,62] x with
 |some r0 =>
  have hs:gq (s.to x)=s.to x:=by unfold gq;rw[av (dw (s:=s.to x) hx)]
  have hc:cW [63,62] x=some ([],r0):=by
   rw[EP hx,kq,av (by simp)];rfl
  rw[hc]at hcut;refine⟨fun h=>(by rw[hcut]at h;cases h),fun p r hp => .inl ?_⟩
  rw[hcut]at hp;simp only[Option.map_some,al,Prod.mk.injEq,bo]at hp;obtain⟨rfl,rfl⟩:=hp;rw[hs,gG (s:=s.to x) hc,e2];obtain⟨u1,u2⟩:=jU hNb [];rw[bo]at u1 u2;rw[u1,u2];exact⟨rfl,by simp[cE]⟩
 |none =>
  have hsee:¬bX [63,62] (s.to x)=true:=by rw[ek (s:=s.to x) hx];simp
  have hq:gq (s.to x)=(bG (s.to x)).or (decide (fN (s.to x)=0)):=by unfold gq;rw[am hsee]
  cases hbl:b with
  |nil =>
   rw[hbl,aE]at hb
   have h0:fN (s.to x)=0:=by
    show x.length-(aI x).length=0
    rw[<-hb];omega
   have hbad:(cR [63,62] (gq (s.to x))).2.bad=true:=by
    rw[hq,ax h0,Ku];exact(fd _ _).1 rfl
   refine⟨fun _=>hbad,fun p r hp => .inr ⟨hbad,fun hnm => ?_⟩⟩;rw[hcut]at hp;obtain⟨⟨p1,r1⟩,hp1,he⟩:=Option.map_eq_some_iff.1 hp;simp only[Prod.mk.injEq]at he;obtain⟨rfl,rfl⟩:=he;obtain⟨u1,_⟩:=jU hNb p1;rw[u1]at hnm;cases hxx:x with
   |nil=>rw[hxx,FD]at hp1;cases hp1
   |cons c z =>
    rw[hxx]at hb hp1 hx hx13;have hcb:=nD hb.symm
    rw[kq,am (by
     intro hpre;rw[show aH [63,62] (c::z)=some ((c::z).drop 2)by unfold aH;rw[av hpre];rfl]at hx
     cases hx)]at hp1
    obtain⟨⟨p2,r2⟩,hp2,he⟩:=Option.map_eq_some_iff.1 hp1;simp only[Prod.mk.injEq]at he;obtain⟨rfl,rfl⟩:=he
    have hcn:c∉([32,9,10] : List UInt8):=fun hm=>by
     simp only[aU,bE,or_false]at hm;rcases hm with rfl|rfl|rfl<;>exact absurd hcb (by decide)
    have hu:cE [32,9,10] (c::p2)=c::cE [32,9,10] p2:=by unfold cE;rw[List.takeWhile_cons_of_pos (by simpa using hcn)]
    rw[hu]at hnm;obtain⟨l,hl,hnl,e⟩:=hnm;obtain⟨k,_,_,hk1,hk2⟩:=ig hp2
    have hy:s.rest=bg l++(c9 [32,9,10] p2++z.drop k):=by
     rw[<-e,hr.eq,hxx,List.append_assoc,aA,<-List.append_assoc (cE _ _),kH,hk1,cG]
    obtain⟨d,hd⟩:=mR.most (c:=[]) (a:=n) (b:=l) (x:=x) (y:=c9 [32,9,10] p2++z.drop k) (by simpa using hr.ok) (by simpa using hnl) (by rw[<-hy];exact hr.eq.symm) (by simpa using hr.stop)
    have h1:=congrArg List.length e;rw[hd,de,aj,aj,az]at h1;omega
  |cons c bz =>
   have h0:¬fN (s.to x)=0:=by
    show ¬x.length-(aI x).length=0
    have:=congrArg List.length hb;rw[hbl,aj,az]at this;omega
   have hst:gq (s.to x)=s.to (aI x):=by rw[hq,ap h0,cY];rfl
   have hb63:(63:UInt8)∉b:=fun hm=>absurd (hball _ hm) (by decide)
   have hc2:cW [63,62] x=(cW [63,62] (aI x)).map fun q=>(b++q.1,q.2):=by
    conv=>lhs;rw[hb]
    exact oH hb63 _
   rw[hc2,Option.map_map]at hcut;rw[hst];cases hc3:cW [63,62] (aI x)with
   |none =>
    rw[hc3]at hcut;refine⟨fun _=>by rw[ij (s:=s.to (aI x)) hc3];rfl,fun p r hp=>(by rw[hcut]at hp;cases hp)⟩
   |some q =>
    obtain⟨p2,r2⟩:=q;rw[hc3]at hcut;refine⟨fun h=>(by rw[hcut]at h;cases h),fun p r hp => .inl ?_⟩
    rw[hcut]at hp;simp only[Option.map_some,Function.comp_apply,al,Prod.mk.injEq]at hp;obtain⟨rfl,rfl⟩:=hp;rw[gG (s:=s.to (aI x)) hc3,e2];obtain⟨u1,u2⟩:=jU hNb (b++p2)
    have hcb:c∈([32,9,10] : List UInt8):=by
     have h1:=(oO c).1 (hball c (by rw[hbl];exact List.mem_cons_self))
     have h2:c≠13:=fun e=>hx13 (by rw[hb,hbl,e];simp)
     simp only[aU,bE,or_false];rcases h1 with h|h|h|h
     ·exact .inl h
     ·exact .inr (.inl h)
     ·exact .inr (.inr h)
     ·exact absurd h h2
    have hu:cE [32,9,10] (b++p2)=[]:=by
     rw[hbl,aA];exact(jw hcb).1
    have hub:c9 [32,9,10] (b++p2)=b++p2:=by
     rw[hbl,aA];exact(jw hcb).2
    rw[u1,u2,hu,hub,bo,qn hball];refine⟨?_,rfl⟩
    have hp2:aI p2=p2:=by
     cases hpp:p2 with
     |nil=>rfl
     |cons d z =>
      obtain⟨k,_,_,hk1,_⟩:=ig hc3;rw[hpp]at hk1;cases hxx:aI x with
      |nil=>rw[hxx]at hk1;simp at hk1
      |cons d' z' =>
       rw[hxx]at hk1;cases k with
       |zero=>simp at hk1
       |succ k =>
        rw[List.take_succ_cons]at hk1
        injection hk1 with hd _
        rw[hd];exact ii (nD hxx)
    rw[hp2];rfl
end Go.Proofs.YteinegfbpfhflaaGreatDoor
