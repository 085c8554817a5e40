/-
  A whole text, as both readers read it. Plain mathematics. Conditions: no byte 13.
  The declaration, and a whole text: both readers come to the same nodes, or to none. Plain mathematics. Conditions: no byte 13.
-/
import Derived.Test.YteinegfbpfhflaaGreatDoorM42
import Derived.Test.YteinegfbpfhflaaGreatDoorM09
namespace Go.Proofs.YteinegfbpfhflaaGreatDoor
open Go.RowKit
set_option linter.unusedVariables false
set_option maxHeartbeats 4000000
theorem un{s:List UInt8}:jz s=[]↔∀c∈s,fq c=true:=by
 constructor
 ·intro h c hc
  obtain⟨a,b,e,ha,hb,_⟩:=ln s;rw[h,aE]at e;rw[e,bS]at hc;rw[bK]at ha hb;exact hc.elim (ha c) (hb c)
 ·intro h
  have h1:fO s=[]:=by
   have:=qn h [];rw[bo]at this;exact this
  unfold jz;rw[h1];rfl
def wG(ns:List Nd):Prop:=∀x∈ns,x.k≠1
theorem GO{l:List Nd}{i:Nat}(h:kd l i=1):∃x,l[i]? = some x/\x.k=1:=by
 unfold kd at h;cases hx:l[i]? with
 |none=>rw[hx]at h;simp at h
 |some x=>rw[hx]at h;exact⟨x,rfl,by simpa using h⟩
theorem qR{l:List Nd}(h:wG l):∀n,eK l n=0
 |0=>rfl
 |n+1=>by
  rw[eK,qR h n,am];rintro⟨_,_,hk⟩;obtain⟨x,hx,hk⟩:=GO hk;exact h x (List.mem_of_getElem? hx) hk
theorem nS{l:List Nd}(h:eK l l.length≠1):db l=false:=by
 have hp:dT l=false:=by
  unfold dT;rw[bT];exact fun hh=>h hh.2
 cases l with
 |nil=>rfl
 |cons x r =>
  show(eE x&&(dT (x::r)&&(r.all dg&&fZ (x::r))))=false
  rw[hp];simp
theorem qS(l:List Nd):∀{m n:Nat},m<=n->eK l m<=eK l n:=fun {m n} h=>by
 induction n with
 |zero=>rw[Nat.le_zero.1 h];exact af _
 |succ n ih =>
  rcases bU h with h|h
  ·rw[eK];have:=ih (by omega);omega
  ·rw[h];exact af _
theorem yq{l:List Nd}{i:Nat}{x:Nd}(h1:1<=i)(hx:l[i]? = some x)(hk:x.k=1)(hn:x.n=0):eK l (i+1)=eK l i+1:=by
 rw[eK,av];refine⟨h1,?_,?_⟩
 ·unfold pa;rw[hx];exact hn
 ·unfold kd;rw[hx];exact hk
theorem B7{l:List Nd}{i j:Nat}{x y:Nd}(h1:1<=i)(hij:i<j)(hx:l[i]? = some x)(hxk:x.k=1)(hxn:x.n=0)(hy:l[j]? = some y)(hyk:y.k=1)(hyn:y.n=0):db l=false:=by
 refine nS ?_;have a:=yq h1 hx hxk hxn;have b:=yq (by omega) hy hyk hyn
 have c:=qS l (show i+1<=j by omega)
 have d:=qS l (show j+1<=l.length from(bh.1 hy).1);omega
structure BP(st:Rd)(s:Rf):Prop where
 op:st.op=[⟨0,[],0⟩]
 ds:st.ds=[]
 tx:st.tx=[]
 ns:st.ns=s.ns
 rest:st.rest=s.rest
 bad:s.bad=false
 r13:(13:UInt8)∉s.rest
 ne:s.ns≠[]
theorem Fo{ns:List Nd}(h:ns≠[]):yi ns 0 []:=⟨bO.2 h,fun s=>by rw[ji];rfl⟩
theorem BP.at2{st:Rd}{s:Rf}(h:BP st s):BQ st [] ⟨0,[],0⟩ s:=⟨h.op,h.rest,h.bad,h.r13,by rw[h.ds];exact Fo h.ne⟩
theorem BQ.top{st:Rd}{s:Rf}(h:BQ st [] ⟨0,[],0⟩ s)(hd:st.ds=[])(ht:st.tx=[])(hn:st.ns=s.ns):BP st s:=⟨h.op,hd,ht,hn,h.rest,h.bad,h.r13,uW h.env⟩
def qx(st:Rd)(s s':Rf):Prop :=
 (jS s'/\oh st)∨(s'.bad=false/\(∃c z,s'.rest=c::z/\c≠60)/\oh st) ∨
 ∃st',fD st=fD st'/\BP st' s'/\s.ns <+: s'.ns/\(wG s.ns->wG s'.ns)/\(s'.rest=[]∨((∃r,aH [60] s'.rest=some r)/\aH [60,33,45,45] s'.rest=none/\aH [60,63] s'.rest=none))
theorem qx.step{st st1:Rd}{s s1 s':Rf}(h:qx st1 s1 s')(he:fD st=fD st1)(hp:s.ns <+: s1.ns)(hn:wG s.ns->wG s1.ns):qx st s s':=by
 rcases h with⟨h1,h2⟩|⟨h1,h2,h3⟩|⟨st',h1,h2,h3,h4,h5⟩
 ·exact .inl ⟨h1,dD he h2⟩
 ·exact .inr (.inl ⟨h1,h2,dD he h3⟩)
 ·exact .inr (.inr ⟨st',he.trans h1,h2,hp.trans h3,fun h=>h4 (hn h),h5⟩)
theorem uX{ns:List Nd}(h:wG ns){x:Nd}(hx:x.k≠1):wG (ns++[x]):=fun y hy=>by
 rcases bS.1 hy with hy|hy
 ·exact h y hy
 ·rw[aW.1 hy];exact hx
theorem pz{c:UInt8}{s:List UInt8}(h:aH [c] s=none)(h0:s≠[]):∃d z,s=d::z/\d≠c:=by
 cases s with
 |nil=>exact absurd rfl h0
 |cons d z =>
  refine⟨d,z,rfl,?_⟩;rintro rfl;rw[kK]at h;cases h
theorem DF{st:Rd}{s:Rf}(h:BP st s) :
 (∃c z,aI st.rest=c::z/\c≠60/\oh st)∨((aI st.rest=[]∨∃z,aI st.rest=60::z)/\fD st=fD { st with rest:=aI st.rest }/\BP { st with rest:=aI st.rest } (bG s)):=by
 have hT:BP { st with rest:=aI st.rest } (bG s):=⟨h.op,h.ds,h.tx,h.ns,by show aI st.rest=aI s.rest;rw[h.rest],h.bad,(cJ s).mem h.r13,h.ne⟩
 have hop:st.op=[]++[⟨0,[],0⟩]:=h.op;have hop1:st.op.length=1:=by rw[h.op];rfl
 obtain⟨b,hb,hall⟩:=r5 st.rest
 have hb60:∀c∈b,c∉([60] : List UInt8):=fun c hc hm=>by
  rw[aW]at hm;subst hm;exact absurd (hall 60 hc) (by decide)
 obtain⟨u1,u2⟩:=jU hb60 (aI st.rest);rw[<-hb]at u1 u2
 have key:∀(hq:aI st.rest=[]∨∃z,aI st.rest=60::z),fD st=fD { st with rest:=aI st.rest }:=fun hq=>by
  have hu:cE [60] (aI st.rest)=[]/\c9 [60] (aI st.rest)=aI st.rest:=by
   rcases hq with h|⟨z,h⟩
   ·rw[h];exact⟨rfl,rfl⟩
   ·rw[h];exact jw (by simp)
  rw[hu.1,bo]at u1;rw[hu.2]at u2;cases hbb:b with
  |nil=>rw[hbb,aE]at hb;rw[<-hb]
  |cons c t =>
   have hr0:st.rest≠[]:=by rw[hb,hbb];simp
   have hc60:c≠60:=fun e=>hb60 c (by rw[hbb];exact List.mem_cons_self) (by rw[e];exact aW.2 rfl)
   have hlt:aH [60] st.rest=none:=by rw[hb,hbb,aA];exact gI (Ne.symm hc60) _
   refine eU hop hr0 ?_;rw[sW hlt];unfold lS;rw[av hop1,u1,av (un.2 hall),u2]
 cases hq:aI st.rest with
 |nil=>exact .inr ⟨.inl rfl,by rw[<-hq];exact key (.inl hq),by rw[<-hq];exact hT⟩
 |cons c z =>
  by_cases hc:c=60
  ·subst hc
   exact .inr ⟨.inr ⟨z,rfl⟩,by rw[<-hq];exact key (.inr ⟨z,hq⟩),by rw[<-hq];exact hT⟩
  ·refine .inl ⟨c,z,rfl,hc,dM (eu hop (by rw[hb,hq];simp) ?_)⟩
   have hlt:aH [60] st.rest=none:=by
    rw[hb,hq];cases hbb:b with
    |nil=>exact gI (Ne.symm hc) _
    |cons d t =>
     have hd60:d≠60:=fun e=>hb60 d (by rw[hbb];exact List.mem_cons_self) (by rw[e];exact aW.2 rfl)
     rw[aA];exact gI (Ne.symm hd60) _
   rw[sW hlt];unfold lS;rw[av hop1,am];intro ht;rw[un]at ht
   have hcm:c∈cE [60] st.rest:=by
    rw[u1,hq];refine List.mem_append_right _ ?_;unfold cE;rw[List.takeWhile_cons_of_pos (by simpa using hc)]
    exact List.mem_cons_self
   have h1:=ht c hcm;rw[nD hq]at h1;cases h1
theorem oP:∀(k:Nat) (st:Rd) (s:Rf),BP st s->st.rest.length<k->qx st s (iB k s)
 |0,st,_,_,h=>by omega
 |k+1,st,s,hT,hk=>by
  rw[iB,am (by rw[hT.bad];simp)]
  have hbr:(bG s).rest=aI st.rest:=by rw[hT.rest];rfl
  have hble:=cB st.rest;rcases DF hT with⟨c,z,hq,hc,hD⟩|⟨hq,he,hT1⟩
  ·have n1:aH [60,33,45,45] (bG s).rest=none:=by rw[hbr,hq];unfold aH;rw[am (by simp[List.isPrefixOf,Ne.symm hc])]
   have n2:aH [60,63] (bG s).rest=none:=by rw[hbr,hq];unfold aH;rw[am (by simp[List.isPrefixOf,Ne.symm hc])]
   rw[am (by rw[ek n1];simp),am (by rw[ek n2];simp)]
   exact .inr (.inl ⟨hT.bad,⟨c,z,by rw[hbr];exact hq,hc⟩,hD⟩)
  refine qx.step (s1:=bG s) ?_ he (List.prefix_refl _) id;obtain⟨st1,hst1⟩ : ∃st1,st1={ st with rest:=aI st.rest }:=⟨_,rfl⟩;have hr1:st1.rest=(bG s).rest:=by rw[hst1,hbr]
  rw[<-hst1]at hT1 ⊢;have hlen1:(bG s).rest.length<k+1:=by rw[hbr];omega
  have hq1:(bG s).rest=[]∨∃z,(bG s).rest=60::z:=by rw[hbr];exact hq
  clear hst1 he hT hbr hble hq;generalize bG s=s1 at *;have hop:st1.op=[]++[⟨0,[],0⟩]:=hT1.op;have hns0:(ed st1 ⟨0,[],0⟩).ns=s1.ns:=by rw[oy _ _ hT1.tx];exact hT1.ns
  have hne1:=hT1.ne;cases hcom:aH [60,33,45,45] s1.rest with
  |some q =>
   rw[av (dw hcom)];have hcom1:aH [60,33,45,45] st1.rest=some q:=by rw[hr1];exact hcom
   have hr0:st1.rest≠[]:=nf hcom1 (by simp)
   have hql:=cI hcom;simp only[az,bb]at hql;cases hcut:cW [45,45,62] q with
   |none =>
    left
    refine⟨jS.mono (.inl ?_) (fG k _),dM (eu hop hr0 ?_)⟩
    ·unfold fM;rw[dm hcom,ij (s:=s1.to q) hcut];rfl
    ·rw[sX hcom1];unfold mG;dsimp only;rw[hcut]
   |some pr =>
    obtain⟨p,r⟩:=pr;obtain⟨_,hrl,_⟩:=dW hcut
    have hR:fM 0 s1=(s1.to r).add ⟨3,0,⟨#[]⟩,⟨#[]⟩,⟨#[]⟩,ba p,[],[]⟩:=by
     unfold fM;rw[dm hcom,gG (s:=s1.to q) hcut];rfl
    have hnext:dC st1 [] ⟨0,[],0⟩=some (iw { st1 with rest:=r } ⟨0,[],0⟩ (jn p)):=by
     rw[sX hcom1];unfold mG;dsimp only;rw[hcut]
    have hm:=mc 0 s1
    have hT2:BP (iw { st1 with rest:=r } ⟨0,[],0⟩ (jn p)) (fM 0 s1):=by
     refine⟨hT1.op,hT1.ds,rfl,?_,by rw[hR];rfl,by rw[hR];exact hT1.bad,hm.mem hT1.r13,by rw[hR];simp[Rf.add]⟩
     rw[hR]
     show(ed st1 _).ns++[cy (jn p) 0]=_
     rw[hns0];rfl
    refine(oP k _ (fM 0 s1) hT2 (by show r.length<k;omega)).step (eU hop hr0 hnext) hm.2.1 (fun h => ?_)
    rw[hR];exact uX h (by simp)
  |none =>
  rw[am (by rw[ek hcom];simp)]
  have hcom1:aH [60,33,45,45] st1.rest=none:=by rw[hr1];exact hcom
  cases hins:aH [60,63] s1.rest with
  |some q =>
   rw[av (dw hins)];have hins1:aH [60,63] st1.rest=some q:=by rw[hr1];exact hins
   have hcd1:aH [60,33,91,67,68,65,84,65,91] st1.rest=none:=sN hins1 _ (by decide)
   have hr0:st1.rest≠[]:=nf hins1 (by simp)
   have hql:=cI hins;simp only[az,bb]at hql;have hq13:(13:UInt8)∉q:=fun hm=>hT1.r13 ((eY hins).subset hm);obtain⟨i1,i2⟩:=vu (s1.to q) hq13;have hm:=l8 0 s1;cases hcut:cW [63,62] q with
   |none =>
    left
    refine⟨jS.mono (.inl ?_) (fG k _),dM (eu hop hr0 ?_)⟩
    ·unfold fm;rw[dm hins];exact i1 hcut
    ·rw[pF hcom1 hcd1 hins1];unfold kh;dsimp only;rw[hcut]
   |some pr =>
    obtain⟨p,r⟩:=pr;obtain⟨_,hrl,_⟩:=dW hcut
    have hnext:dC st1 [] ⟨0,[],0⟩=some (iw { st1 with rest:=r } ⟨0,[],0⟩ (gU (cE [32,9,10] p) (aI (c9 [32,9,10] p)))):=by
     rw[pF hcom1 hcd1 hins1];unfold kh;dsimp only;rw[hcut]
    rcases i2 p r hcut with⟨g1,g2⟩|⟨g1,g2⟩
    ·have hR:fm 0 s1=(s1.to r).add ⟨4,0,⟨#[]⟩,ba (cE [32,9,10] p),⟨#[]⟩,ba (aI (c9 [32,9,10] p)),[],[]⟩:=by
      unfold fm;rw[dm hins,g1,g2];rfl
     have hT2:BP (iw { st1 with rest:=r } ⟨0,[],0⟩ (gU (cE [32,9,10] p) (aI (c9 [32,9,10] p)))) (fm 0 s1):=by
      refine⟨hT1.op,hT1.ds,rfl,?_,by rw[hR];rfl,by rw[hR];exact hT1.bad,hm.mem hT1.r13,by rw[hR];simp[Rf.add]⟩
      rw[hR]
      show(ed st1 _).ns++[cy (gU _ _) 0]=_
      rw[hns0];rfl
     refine(oP k _ (fm 0 s1) hT2 (by show r.length<k;omega)).step (eU hop hr0 hnext) hm.2.1 (fun h => ?_)
     rw[hR];exact uX h (by simp)
    ·left
     refine⟨jS.mono (.inl ?_) (fG k _),dD (eU hop hr0 hnext) (mC ?_)⟩
     ·unfold fm;rw[dm hins];exact g1
     ·show ky ((ed st1 _).ns++[cy (gU _ _) 0])
      exact jq (by rw[hns0];exact hne1) (yr g2)
  |none =>
  rw[am (by rw[ek hins];simp)]
  refine .inr (.inr ⟨st1,rfl,hT1,List.prefix_refl _,id,?_⟩);cases hl:aH [60] s1.rest with
  |some r=>exact .inr ⟨⟨r,rfl⟩,hcom,hins⟩
  |none =>
   rcases hq1 with h|⟨z,h⟩
   ·exact .inl h
   ·rw[h,kK]at hl;cases hl
theorem ko(x y z:UInt8)(h:(65<=y.toNat/\y.toNat<=90/\z.toNat=y.toNat+32)∨(¬(65<=y.toNat/\y.toNat<=90)/\¬(97<=y.toNat/\y.toNat<=122)/\z=y)):Lib.foldEq x y=decide (zN x=z):=by
 have hx:=x.toNat_lt;have hy:=y.toNat_lt;unfold Lib.foldEq zN;refine decide_eq_decide.2 ?_
 split
 ·next hu =>
  have he:(x+32).toNat=x.toNat+32:=by rw[UInt8.toNat_add];show(x.toNat+32)%256=_;omega
  rw[<-cK,he];rcases h with h|⟨h1,h2,rfl⟩<;>omega
 ·next hu =>
  rw[<-cK];rcases h with h|⟨h1,h2,rfl⟩<;>omega
theorem yO(v:List UInt8):jd v=decide (jW v=[117,116,102,45,56]):=by
 have c1:=fun x=>ko x 85 117 (.inl (by decide))
 have c2:=fun x=>ko x 84 116 (.inl (by decide))
 have c3:=fun x=>ko x 70 102 (.inl (by decide))
 have c4:=fun x=>ko x 45 45 (.inr (by decide))
 have c5:=fun x=>ko x 56 56 (.inr (by decide))
 unfold jd jW
 match v with
 | []=>rfl
 | [a]=>simp[Lib.equalFold]
 | [a,b]=>simp[Lib.equalFold]
 | [a,b,c]=>simp[Lib.equalFold]
 | [a,b,c,d]=>simp[Lib.equalFold]
 | [a,b,c,d,e]=>simp[Lib.equalFold,c1,c2,c3,c4,c5]
 |a::b::c::d::e::f::t=>simp[Lib.equalFold]
theorem pq(key:List UInt8)(may:List UInt8->Bool)(s:Rf)(hb:s.bad=false) :
 (ea key s=(none,s)/\bQ key may s.rest=none) ∨
 (∃v r,ea key s=(some v,s.to r)/\bQ key may s.rest=if may v=true then some r else none) ∨
 (∃v,(ea key s).1=some v/\(ea key s).2.bad=true/\bQ key may s.rest=none/\∃r,aH key (aI s.rest)=some r):=by
 have hle:=cB s.rest;by_cases hlt:(aI s.rest).length<s.rest.length
 rotate_left 1
 ·left
  refine⟨?_,?_⟩
  ·unfold ea;rw[av (.inl (by unfold fN;omega))]
  ·unfold bQ;rw[am hlt]
 have hbn:¬fN s=0:=by unfold fN;omega
 cases hp:aH key (aI s.rest)with
 |none =>
  left
  refine⟨?_,?_⟩
  ·unfold ea;rw[av (.inr (ek hp))]
  ·unfold bQ;rw[av hlt,hp]
 |some r =>
  right
  have hs:ea key s=(some (dq (s.to r)).1,(dq (s.to r)).2):=by
   unfold ea;rw[am (by rw[dw (s:=bG s) hp];simp[hbn]),dm (s:=bG s) hp];rfl
  obtain⟨q1,q2⟩:=uN (s.to r);cases he:fe r with
  |none =>
   right
   refine⟨_,by rw[hs],by rw[hs];exact q2 (.inl he),?_,r,rfl⟩
   unfold bQ;rw[av hlt,hp];dsimp only;rw[he]
  |some r2 =>
   cases hq:e9 r2 with
   |none =>
    right
    refine⟨_,by rw[hs],by rw[hs];exact q2 (.inr ⟨r2,he,hq⟩),?_,r,rfl⟩
    unfold bQ;rw[av hlt,hp];dsimp only;rw[he];dsimp only;rw[hq]
   |some vr =>
    obtain⟨v,r3⟩:=vr
    left
    have:=q1 r2 v r3 he hq;refine⟨v,r3,by rw[hs,this];rfl,?_⟩
    unfold bQ;rw[av hlt,hp];dsimp only;rw[he];dsimp only;rw[hq]
theorem Bf(s:Rf)(hb:s.bad=false):(∃r,lH s=s.to r/\bQ gp ru s.rest=some r)∨((lH s).bad=true/\bQ gp ru s.rest=none):=by
 rcases pq gp ru s hb with⟨h1,h2⟩|⟨v,r,h1,h2⟩|⟨v,h1,h2,h3,_⟩
 ·right;refine⟨?_,h2⟩
  unfold lH;rw[h1];simp[Rf.or]
 ·by_cases hv:v=[49,46,48]
  ·left
   refine⟨r,?_,?_⟩
   ·unfold lH;rw[h1];dsimp only;rw[ap (by simp[hv]),cY]
   ·rw[h2,av (by unfold ru;exact ax hv)]
  ·right
   refine⟨?_,?_⟩
   ·unfold lH;rw[h1];dsimp only;rw[ax hv];simp[Rf.or]
   ·rw[h2,am (by unfold ru;rw[ap hv];simp)]
 ·right;refine⟨?_,h3⟩
  unfold lH;exact iQ h2 _
theorem Bd(s:Rf)(hb:s.bad=false):lf s=s.to ((bQ eb jd s.rest).getD s.rest)∨((lf s).bad=true/\bQ eb jd s.rest=none/\∃r,aH eb (aI s.rest)=some r):=by
 rcases pq eb jd s hb with⟨h1,h2⟩|⟨v,r,h1,h2⟩|⟨v,h1,h2,h3,h4⟩
 ·left
  unfold lf;rw[h1,h2];dsimp only;rw[cY];rfl
 ·by_cases hv:jd v=true
  ·left
   rw[h2,av hv];rw[yO,bj]at hv;unfold lf;rw[h1];dsimp only;rw[ap (by simp[hv]),cY];rfl
  ·right
   have hp:∃r,aH eb (aI s.rest)=some r:=by
    cases hp:aH eb (aI s.rest)with
    |some r=>exact⟨r,rfl⟩
    |none =>
     exfalso
     have:ea eb s=(none,s):=by unfold ea;rw[av (.inr (ek hp))]
     rw[this]at h1;cases h1
   refine⟨?_,by rw[h2,am hv],hp⟩
   rw[yO,bj]at hv;unfold lf;rw[h1];dsimp only;rw[ax hv];simp[Rf.or]
 ·right;exact⟨by unfold lf;exact iQ h2 _,h3,h4⟩
theorem Bc(s:Rf)(hb:s.bad=false):ld s=s.to ((bQ fc nj s.rest).getD s.rest)∨((ld s).bad=true/\bQ fc nj s.rest=none/\∃r,aH fc (aI s.rest)=some r):=by
 rcases pq fc nj s hb with⟨h1,h2⟩|⟨v,r,h1,h2⟩|⟨v,h1,h2,h3,h4⟩
 ·left
  unfold ld;rw[h1,h2];dsimp only;rw[cY];rfl
 ·have hS:nj v = !(decide (v≠[121,101,115])&&decide (v≠[110,111])):=by
   unfold nj;by_cases a:v=[121,101,115]<;>by_cases b:v=[110,111]<;>simp[a,b]
  by_cases hv:nj v=true
  ·left
   rw[h2,av hv];rw[hS]at hv;unfold ld;rw[h1];dsimp only;rw[show(decide (v≠[121,101,115])&&decide (v≠[110,111]))=false from(by rw[Bool.not_eq_true']at hv;exact hv),cY];rfl
  ·right
   have hp:∃r,aH fc (aI s.rest)=some r:=by
    cases hp:aH fc (aI s.rest)with
    |some r=>exact⟨r,rfl⟩
    |none =>
     exfalso
     have:ea fc s=(none,s):=by unfold ea;rw[av (.inr (ek hp))]
     rw[this]at h1;cases h1
   refine⟨?_,by rw[h2,am hv],hp⟩
   rw[hS]at hv;unfold ld;rw[h1];dsimp only;rw[show(decide (v≠[121,101,115])&&decide (v≠[110,111]))=true from(by rw[Bool.not_eq_true',Bool.not_eq_false]at hv;exact hv)];simp[Rf.or]
 ·right;exact⟨by unfold ld;exact iQ h2 _,h3,h4⟩
theorem tj{c d:UInt8}{t t' s r:List UInt8}(h:aH (c::t) s=some r)(hd:d≠c):aH (d::t') s=none:=by
 rw[cH h];unfold aH;rw[am (by simp[List.isPrefixOf,hd])]
theorem Cj{c d:UInt8}{t t' s r:List UInt8}{may:List UInt8->Bool}(h:aH (c::t) (aI s)=some r)(hd:d≠c):bQ (d::t') may s=none:=by
 unfold bQ
 split
 ·rw[tj h hd]
 ·rfl
theorem Al(s:Rf):dt s (lf s):=(jb _ _).trans (f6 _ _)
theorem rm(s:Rf):dt s (ld s):=(jb _ _).trans (f6 _ _)
theorem Fy(s:List UInt8)(h13:(13:UInt8)∉s):gZ (fR s)=(fR s).to (dG s)∨((gZ (fR s)).bad=true/\oh (oa (dG s))):=by
 cases hx:aH [60,63,120,109,108] s with
 |none =>
  left
  have h1:it s=false:=by unfold it;rw[hx]
  unfold gZ dG;rw[am (by show ¬it s=true;rw[h1];simp),hx];rfl
 |some r =>
  by_cases hd:it s=true
  rotate_left 1
  ·left
   have hn:bQ gp ru r=none:=by
    cases r with
    |nil=>rfl
    |cons c z =>
     have hc:fq c=false:=by
      unfold it at hd;rw[hx]at hd;simpa using hd
     unfold bQ;rw[ii hc,am (by omega)]
   unfold gZ dG;rw[am (by show ¬it s=true;exact hd),hx]
   dsimp only;rw[hn];rfl
  have hdec:gZ (fR s)=bI [63,62] (bG (ld (lf (lH ((fR s).to r))))):=by
   unfold gZ;rw[av (show it (fR s).rest=true from hd),dm (s:=fR s) hx]
  have hdoom:dG s=s->oh (oa (dG s)):=fun he=>by
   rw[he];have hs:=cH hx;have h60:aH [60] s=some ([63,120,109,108]++r):=by rw[hs];rfl
   have c1:aH [60,33,45,45] s=none:=by rw[hs];rfl
   have c2:aH [60,33,91,67,68,65,84,65,91] s=none:=by rw[hs];rfl
   have c3:aH [60,63] s=some ([120,109,108]++r):=by rw[hs];rfl
   have hr0:(oa s).rest≠[]:=by show s≠[];rw[hs];simp
   have hop:(oa s).op=[]++[⟨0,[],0⟩]:=rfl;have hn1:dC (oa s) [] ⟨0,[],0⟩=kh { oa s with rest:=[120,109,108]++r } ⟨0,[],0⟩:=pF (st:=oa s) c1 c2 c3;cases r with
   |nil=>unfold it at hd;rw[hx]at hd;cases hd
   |cons c z =>
    have hc:fq c=true:=by unfold it at hd;rw[hx]at hd;exact hd
    have hc13:c≠13:=fun e=>h13 (by rw[hs,e];simp)
    have hcb:c∈([32,9,10] : List UInt8):=by
     simp only[aU,bE,or_false];rcases(oO c).1 hc with h|h|h|h
     ·exact .inl h
     ·exact .inr (.inl h)
     ·exact .inr (.inr h)
     ·exact absurd h hc13
    have hc63:(63:UInt8)∉([120,109,108,c] : List UInt8):=by
     intro hm;simp only[aU,bE,or_false]at hm;rcases hm with h|h|h|h
     ·exact absurd h (by decide)
     ·exact absurd h (by decide)
     ·exact absurd h (by decide)
     ·rw[<-h]at hc;exact absurd hc (by decide)
    have hcut:cW [63,62] ([120,109,108]++c::z)=(cW [63,62] z).map fun q=>([120,109,108,c]++q.1,q.2):=oH hc63 z;cases hcz:cW [63,62] z with
    |none =>
     rw[hcz]at hcut;refine dM (eu hop hr0 ?_);rw[hn1];unfold kh;dsimp only;rw[hcut];rfl
    |some q =>
     obtain⟨p,y⟩:=q;rw[hcz]at hcut
     have hn2:dC (oa s) [] ⟨0,[],0⟩=some (iw { oa s with rest:=y } ⟨0,[],0⟩ (gU (cE [32,9,10] ([120,109,108,c]++p)) (aI (c9 [32,9,10] ([120,109,108,c]++p))))):=by
      rw[hn1];unfold kh;dsimp only;rw[hcut];rfl
     refine dD (eU hop hr0 hn2) (mC ?_)
     have hu:cE [32,9,10] ([120,109,108,c]++p)=[120,109,108]:=by
      have:=(jU (e:=[32,9,10]) (a:=[120,109,108]) (fun d hd=>by
       simp only[aU,bE,or_false]at hd;rcases hd with rfl|rfl|rfl<;>decide) (c::p)).1
      rw[(jw hcb).1]at this;exact this
     show ky ([cM]++_++[cy (gU (cE [32,9,10] ([120,109,108,c]++p)) _) 0])
     refine jq (by simp) ?_
     rw[hu]
     have ht:qz (ba [120,109,108])=false:=by
      unfold qz;rw[bp,show Lib.equalFold [120,109,108] [120,109,108]=true by decide];simp
     unfold dg
     show(bif ((4:Int)==1)then _ else bif ((4:Int)==2)then _ else bif ((4:Int)==3)then _ else bif ((4:Int)==4)then _&&(qz (ba [120,109,108])&&_)else false)=false
     rw[ht,show((4:Int)==1)=false from rfl,show((4:Int)==2)=false from rfl,show((4:Int)==3)=false from rfl,show((4:Int)==4)=true from rfl];simp
  rw[hdec]
  have hP:∀{T},(match bQ gp ru r with
   |none=>s
   |some r1=>match aH [63,62] (aI ((bQ fc nj ((bQ eb jd r1).getD r1)).getD ((bQ eb jd r1).getD r1)))with
    |none=>s
    |some r4=>r4)=T->dG s=T:=fun h=>by rw[<-h];unfold dG;rw[hx];rfl
  rcases Bf ((fR s).to r) rfl with⟨r1,a1,a2⟩|⟨a1,a2⟩
  rotate_left 1
  ·have a2':bQ gp ru r=none:=a2
   exact .inr ⟨((Al _).trans ((rm _).trans ((cJ _).trans (cA _ _)))).1 a1,hdoom (hP (by rw[a2']))⟩
  have a2':bQ gp ru r=some r1:=a2;rw[a1];rcases Bd (((fR s).to r).to r1) rfl with b1|⟨b1,b2,q,b3⟩
  rotate_left 1
  ·have b2':bQ eb jd r1=none:=b2
   have b3':aH eb (aI r1)=some q:=b3;refine .inr ⟨((rm _).trans ((cJ _).trans (cA _ _))).1 b1,hdoom (hP ?_)⟩;have n1:bQ fc nj r1=none:=Cj (d:=115) b3' (by decide)
   have n2:aH [63,62] (aI r1)=none:=tj (d:=63) b3' (by decide)
   rw[a2'];dsimp only;rw[b2',Option.getD_none,n1,Option.getD_none,n2]
  rw[b1];rcases Bc ((((fR s).to r).to r1).to ((bQ eb jd (((fR s).to r).to r1).rest).getD (((fR s).to r).to r1).rest)) rfl with c1|⟨c1,c2,q,c3⟩
  rotate_left 1
  ·have c2':bQ fc nj ((bQ eb jd r1).getD r1)=none:=c2
   have c3':aH fc (aI ((bQ eb jd r1).getD r1))=some q:=c3;refine .inr ⟨((cJ _).trans (cA _ _)).1 c1,hdoom (hP ?_)⟩;have n2:aH [63,62] (aI ((bQ eb jd r1).getD r1))=none:=tj (d:=63) c3' (by decide)
   rw[a2'];dsimp only;rw[c2',Option.getD_none,n2]
  rw[c1];generalize hr3:((bQ fc nj ((bQ eb jd r1).getD r1)).getD ((bQ eb jd r1).getD r1))=r3 at hP
  have hst:bG ((((((fR s).to r).to r1).to ((bQ eb jd (((fR s).to r).to r1).rest).getD (((fR s).to r).to r1).rest))).to ((bQ fc nj ((((fR s).to r).to r1).to ((bQ eb jd (((fR s).to r).to r1).rest).getD (((fR s).to r).to r1).rest)).rest).getD ((((fR s).to r).to r1).to ((bQ eb jd (((fR s).to r).to r1).rest).getD (((fR s).to r).to r1).rest)).rest))=(fR s).to (aI r3):=by
   rw[<-hr3];rfl
  rw[hst]
  have hP2:∀{T},(match aH [63,62] (aI r3)with
   |none=>s
   |some r4=>r4)=T->dG s=T:=fun h=>by
   rw[<-h];unfold dG;rw[hx];dsimp only;rw[a2'];dsimp only;rw[hr3]
   rfl
  cases h4:aH [63,62] (aI r3)with
  |none =>
   right
   refine⟨by rw[fa (s:=(fR s).to (aI r3)) h4];rfl,hdoom (hP2 (by rw[h4]))⟩
  |some r4 =>
   left
   rw[dm (s:=(fR s).to (aI r3)) h4,hP2 (T:=r4) (by rw[h4])];rfl
theorem yF{s:Rf}{c:UInt8}{z:List UInt8}(h:s.rest=c::z)(hc:Hp c):(dR s).bad=true:=by
 obtain⟨n,x,hr⟩:=jA s.rest;cases n with
 |nil=>exact l7 hr
 |cons r n =>
  exfalso
  have hp:=dY r;have he:=hr.eq;rw[h,cZ]at he;cases hb:bD r with
  |nil=>rw[hb]at hp;simp at hp
  |cons d t =>
   rw[hb]at he;simp only[aA,aV]at he;refine om hc hr.ok ?_;rw[cZ,hb,he.1];simp
theorem oE{f:Nat}{n:Int}{s:Rf}(h:(bI [60] s).bad=true∨(dR (bI [60] s)).bad=true):jS (dj (f+1) n s):=by
 refine nw ?_;unfold bZ;refine th _ ?_;unfold fg;rcases h with h|h
 ·exact tu h
 ·exact vy h
theorem uo{st:Rd}{s:Rf}(f:Nat)(hT:BP st s)(hf:st.rest.length<=f)(hl:∃r,aH [60] s.rest=some r)(hcom:aH [60,33,45,45] s.rest=none)(hins:aH [60,63] s.rest=none) :
 D7 st [] ⟨0,[],0⟩ s (dj f 0 s):=by
 obtain⟨r,hr⟩:=hl;have hrl:=cI hr;simp only[az,bb]at hrl;have hrm:aH [60] st.rest=some r:=hT.rest ▸ hr;have hcomm:aH [60,33,45,45] st.rest=none:=hT.rest ▸ hcom;have hinsm:aH [60,63] st.rest=none:=hT.rest ▸ hins;have hr0:st.rest≠[]:=nf hrm (by simp)
 have hop:st.op=[]++[⟨0,[],0⟩]:=hT.op;have hop1:st.op.length=1:=by rw[hT.op];rfl
 obtain⟨g,rfl⟩ : ∃g,f=g+1:=⟨f-1,by rw[hT.rest]at hf;omega⟩
 have htk:bI [60] s=s.to r:=dm hr;cases hcd:aH [60,33,91,67,68,65,84,65,91] st.rest with
 |some q =>
  left
  refine⟨oE (.inr ?_),dM (eu hop hr0 ?_)⟩
  ·have h2:=cH hcd
   have h1:=cH hrm;rw[h2]at h1;simp only[aA,aE,aV,true_and]at h1;rw[htk];exact yF (s:=s.to r) (c:=33) h1.symm ⟨by decide,by decide⟩
  ·rw[xr hcomm hcd];unfold nB;dsimp only
   cases cW [93,93,62] q with
   |none=>rfl
   |some pr=>dsimp only;rw[av hop1]
 |none =>
  cases h47:aH [60,47] st.rest with
  |some q =>
   left
   refine⟨oE (.inr ?_),dM (eu hop hr0 ?_)⟩
   ·have h2:=cH h47
    have h1:=cH hrm;rw[h2]at h1;simp only[aA,aE,aV,true_and]at h1;rw[htk];exact yF (s:=s.to r) (c:=47) h1.symm ⟨by decide,by decide⟩
   ·rw[CE hcomm hcd hinsm h47];unfold gd;dsimp only;rw[av hop1]
  |none =>
   exact za (g+1) st [] ⟨0,[],0⟩ s r hT.at2 (by rw[oy _ _ hT.tx];exact hT.ns) hf hrm hcomm hcd hinsm h47
theorem uI(s:List UInt8)(h13:(13:UInt8)∉s):(∃l,lc s=some l/\fD (oa (dG s))=some l)∨((∀l,lc s=some l->db l=false)/\oh (oa (dG s))):=by
 have hfell:jS (gx s)->∀l,lc s=some l->db l=false:=fun h l hl=>by
  unfold lc at hl
  split at hl
  ·cases hl
  ·next hb =>
   simp only[al]at hl;subst hl;rcases h with h|h
   ·exact absurd (.inl h) hb
   ·exact qp h
 have mBC:dt (fB s) (gx s):=by
  unfold gx;split
  ·exact dt.refl _
  ·exact fG _ _
 have mAB:dt (ik s) (fB s):=by
  unfold fB;split
  ·exact dt.refl _
  ·exact iq _ _ _
 rcases Fy s h13 with hd|⟨hd,hD⟩
 rotate_left 1
 ·exact .inr ⟨hfell (.inl (mBC.1 (mAB.1 ((fG _ _).1 hd)))),hD⟩
 have hdl:=tK s;have hAe:ik s=iB (s.length+1) ((fR s).to (dG s)):=by unfold ik;rw[hd]
 have hm0:dt (fR s) ((fR s).to (dG s)):=by
  have:=ma (fR s);rw[hd]at this;exact this
 have hT0:BP (oa (dG s)) ((fR s).to (dG s)):=⟨rfl,rfl,rfl,rfl,rfl,rfl,hm0.mem h13,by simp[fR,Rf.to]⟩
 have hA:=oP (s.length+1) (oa (dG s)) ((fR s).to (dG s)) hT0 (by show(dG s).length<_;omega)
 have hlA:(ik s).rest.length<=(dG s).length:=by
  have:=(fG (s.length+1) ((fR s).to (dG s))).len;rw[<-hAe]at this;exact this
 rw[<-hAe]at hA;rcases hA with⟨h1,h2⟩|⟨h1,⟨c,z,h2,h3⟩,h4⟩|⟨st1,g1,hT1,g2,g3,g4⟩
 ·exact .inr ⟨hfell (h1.mono (mAB.trans mBC)),h2⟩
 ·refine .inr ⟨hfell (jS.mono ?_ mBC),h4⟩
  unfold fB;rw[am (by rw[h1];simp)]
  refine oE (.inl ?_);rw[fa (by rw[h2];exact gI (Ne.symm h3) _)];rfl
 rcases g4 with g4|⟨g4,g5,g6⟩
 ·refine .inr ⟨hfell (jS.mono ?_ mBC),?_⟩
  ·unfold fB
   rw[am (by rw[hT1.bad];simp)]
   refine oE (.inl ?_);rw[fa (by rw[g4];exact i8 _ _)];rfl
  ·intro l hl
   rw[g1,sR (by rw[hT1.rest];exact g4),av (by rw[hT1.op];rfl),hT1.ns]at hl
   simp only[al]at hl;subst hl
   have hno:wG (ik s).ns:=g3 (fun x hx=>by
    have:x=cM:=by simpa [fR,Rf.to]using hx
    rw[this];simp[cM])
   refine nS ?_;rw[qR hno];simp
 have hB:=uo (s.length+1) hT1 (by rw[hT1.rest];omega) g4 g5 g6
 have hBe:fB s=dj (s.length+1) 0 (ik s):=by unfold fB;rw[am (by rw[hT1.bad];simp)]
 rw[<-hBe]at hB;rcases hB with⟨k1,k2⟩|⟨st2,k1,k2,k3,k4,k5,k6,⟨x,kx,kxk,kxn⟩,k7⟩
 ·exact .inr ⟨hfell (k1.mono mBC),dD g1 k2⟩
 have hT2:BP st2 (fB s):=k2.top (k3.trans hT1.ds) k4 k5;have hCe:gx s=iB (s.length+1) (fB s):=by unfold gx;rw[am (by rw[hT2.bad];simp)]
 have hC:=oP (s.length+1) st2 (fB s) hT2 (by rw[hT2.rest];omega)
 rw[<-hCe]at hC;rcases hC with⟨m1,m2⟩|⟨m1,⟨c,z,m2,m3⟩,m4⟩|⟨st3,m1,hT3,m2,_,m4⟩
 ·exact .inr ⟨hfell m1,dD g1 (dD k1 m2)⟩
 ·refine .inr ⟨fun l hl => ?_,dD g1 (dD k1 m4)⟩
  unfold lc at hl;rw[av (.inr (by rw[m2];simp))]at hl;cases hl
 rcases m4 with m4|⟨m4,m5,m6⟩
 ·left
  refine⟨(gx s).ns,?_,?_⟩
  ·unfold lc
   rw[am (by rw[m4,hT3.bad];simp)]
  ·rw[g1,k1,m1,sR (by rw[hT3.rest];exact m4),av (by rw[hT3.op];rfl),hT3.ns]
 ·right
  obtain⟨r,hr⟩:=m4;refine⟨fun l hl => ?_,?_⟩
  ·unfold lc at hl
   rw[av (.inr (nf hr (by simp)))]at hl;cases hl
  ·refine dD g1 (dD k1 (dD m1 ?_))
   have hlB:(gx s).rest.length<=(fB s).rest.length:=mBC.len;rcases uo (s.length+1) hT3 (by rw[hT3.rest];omega) ⟨r,hr⟩ m5 m6 with⟨_,n2⟩|⟨st4,n1,n2,_,_,n5,n6,⟨y,ny,nyk,nyn⟩,_⟩
   ·exact n2
   ·refine dD n1 (fun l hl => ?_)
    have hp:=yB hl;rw[n5]at hp;refine B7 (i:=(ik s).ns.length) (j:=(gx s).ns.length) (x:=x) (y:=y) (bO.2 hT1.ne) ?_ (tW (m2.trans (n6.trans hp)) kx) kxk kxn (tW hp ny) nyk nyn;have h1:=(bh.1 kx).1;have h2:=m2.length_le;omega
end Go.Proofs.YteinegfbpfhflaaGreatDoor
