/-
  Elements, as the document's own reader and the program's read them: one after the other, they come to the same nodes. Plain mathematics. Conditions: no byte 13.
  Elements with all that is in them, as both readers read them. Plain mathematics. Conditions: no byte 13.
-/
import Derived.Test.YteinegfbpfhflaaGreatDoorM39
import Derived.Test.YteinegfbpfhflaaGreatDoorM41
namespace Go.Proofs.YteinegfbpfhflaaGreatDoor
open Go.RowKit
set_option linter.unusedVariables false
set_option maxHeartbeats 8000000
structure yi(ns:List Nd)(n:Nat)(ds:List Dc):Prop where
 lt:n<ns.length
 up:∀s,fU ds.reverse s=fL ns n s
theorem pC{ns l:List Nd}(hp:ns <+: l){m:Nat}(h:m<ns.length):pa l m=pa ns m:=by
 obtain⟨t,rfl⟩:=hp;unfold pa;rw[List.getElem?_append_left h]
theorem Fv{ns l:List Nd}(hp:ns <+: l){m:Nat}(h:m<ns.length):lF l m=lF ns m:=by
 obtain⟨t,rfl⟩:=hp;unfold lF;rw[List.getElem?_append_left h]
theorem mn(l:List Nd)(n:Nat)(s:List UInt8):fL l n s=if 0<n then(fU (lF l n) s).or (if 0<=pa l n/\(pa l n).toNat<n then fL l (pa l n).toNat s else none)else none:=by
 conv=>lhs;rw[fL]
 rfl
theorem mm{ns l:List Nd}(hp:ns <+: l)(s:List UInt8):∀n,n<ns.length->fL l n s=fL ns n s:=by
 intro n
 induction n using Nat.strongRecOn with
 |ind n ih =>
  intro hn;rw[mn l,mn ns,Fv hp hn,pC hp hn];by_cases h2:0<=pa ns n/\(pa ns n).toNat<n
  ·rw[ih _ h2.2 (by omega)]
  ·rw[am h2,am h2]
theorem yi.pre{ns l:List Nd}{n:Nat}{ds:List Dc}(h:yi ns n ds)(hp:ns <+: l):yi l n ds:=⟨a8 h.lt hp.length_le,fun s=>by rw[h.up,mm hp s n h.lt]⟩
theorem Db(a b:List Dc)(s:List UInt8):fU (a++b) s=(fU a s).or (fU b s):=by
 unfold fU;rw[List.find?_append];cases a.find? (fun d=>decide (d.p.data.toList=s))<;>simp
theorem yi.down{ns:List Nd}{n:Nat}{ds:List Dc}(h:yi ns n ds)(x:Nd)(hx:x.n=(n:Int))(hu:yj x.ds):yi (ns++[x]) ns.length (ds++x.ds):=by
 have hn:=h.lt;refine⟨by simp,fun s => ?_⟩
 have hp:pa (ns++[x]) ns.length=(n:Int):=by unfold pa;simp[hx]
 have hd:lF (ns++[x]) ns.length=x.ds:=by unfold lF;simp
 rw[jj s (by omega) hp hn,hd,mm (ce _ _) s n hn,<-h.up,List.reverse_append,Db]
 congr 1
 exact pY s hu
theorem nN{ns:List Nd}{n:Nat}{ds:List Dc}(h:yi ns n ds)(p:ByteArray):f8 ds p=(ck ns n p).1:=by
 unfold f8 ck;by_cases hp:p.data.toList=[120,109,108]
 ·rw[av hp,show dZ p iA=true from gi.2 hp];rfl
 ·have he:dZ p iA=false:=by
   cases hq:dZ p iA with
   |false=>rfl
   |true=>exact absurd (gi.1 hq) hp
  rw[am hp,he,cond_false,h.up];cases fL ns n p.data.toList<;>rfl
theorem xA{l l':List Nd}{n:Nat}(h:∀s,fL l n s=fL l' n s)(p:ByteArray):ck l n p=ck l' n p:=by
 unfold ck;rw[h]
theorem Ft{ns:List Nd}{n:Nat}{ds:List Dc}(h:yi ns n ds)(x:Nd)(hx:x.n=(n:Int))(hu:yj x.ds):Ef (ds++x.ds) x=d8 ns x:=by
 have hd:=h.down x hx hu;unfold Ef d8;have h1:f8 (ds++x.ds) x.p=(ck (ns++[x]) ns.length x.p).1:=nN hd _
 have h2:iU (ds++x.ds)=BA (ns++[x]) ns.length:=by
  funext a
  unfold iU BA;rw[nN hd]
 rw[h1,h2]
theorem tG{x:Nd}(hk:x.k=1)(hu:¬yj x.ds):dg x=false:=by
 have h2:(!mA (e8 x.ds))=false:=by
  cases h:(!mA (e8 x.ds))with
  |false=>rfl
  |true=>exact absurd ((xS x.ds).1 h) hu
 unfold dg;rw[show(x.k==1)=true by rw[bc];exact hk,cond_true]
 unfold iJ;rw[h2];simp
theorem yr{n:Int}{t y:List UInt8}(h:¬nm t):dg ⟨4,n,⟨#[]⟩,ba t,⟨#[]⟩,ba y,[],[]⟩=false:=by
 have hn:ic (ba t)=false:=by
  unfold ic;rw[bp];exact pK h
 unfold dg;have h1:((4:Int)==1)=false:=rfl;have h2:((4:Int)==2)=false:=rfl;have h3:((4:Int)==3)=false:=rfl;have h4:((4:Int)==4)=true:=rfl;dsimp only;rw[h1,h2,h3,h4,cond_false,cond_false,cond_false,cond_true];unfold qz;rw[hn];simp
structure BQ(st:Rd)(fr:List Po)(o:Po)(s:Rf):Prop where
 op:st.op=fr++[o]
 rest:st.rest=s.rest
 bad:s.bad=false
 r13:(13:UInt8)∉s.rest
 env:yi s.ns o.node st.ds
theorem vM(st:Rd)(o:Po)(s:Rf)(h:st.ns=s.ns):(ed st o).ns=(cP o.node st.tx s).ns:=by
 unfold ed cP;by_cases ht:st.tx=[]
 ·rw[av ht,av ht,bo,h]
 ·rw[am ht,am ht,h];rfl
theorem jY(n:Int)(t:List UInt8)(s:Rf):(cP n t s).rest=s.rest/\(cP n t s).bad=s.bad:=by
 unfold cP;split<;>exact⟨rfl,rfl⟩
theorem sX{st:Rd}{fr:List Po}{o:Po}{r:List UInt8}(h:aH [60,33,45,45] st.rest=some r):dC st fr o=mG { st with rest:=r } o:=by unfold dC;rw[h]
theorem xr{st:Rd}{fr:List Po}{o:Po}{r:List UInt8}(h1:aH [60,33,45,45] st.rest=none)(h:aH [60,33,91,67,68,65,84,65,91] st.rest=some r):dC st fr o=nB { st with rest:=r }:=by
 unfold dC;rw[h1];dsimp only;rw[h]
theorem pF{st:Rd}{fr:List Po}{o:Po}{r:List UInt8}(h1:aH [60,33,45,45] st.rest=none)(h2:aH [60,33,91,67,68,65,84,65,91] st.rest=none)(h:aH [60,63] st.rest=some r):dC st fr o=kh { st with rest:=r } o:=by
 unfold dC;rw[h1];dsimp only;rw[h2];dsimp only;rw[h]
theorem CE{st:Rd}{fr:List Po}{o:Po}{r:List UInt8}(h1:aH [60,33,45,45] st.rest=none)(h2:aH [60,33,91,67,68,65,84,65,91] st.rest=none)(h3:aH [60,63] st.rest=none)(h:aH [60,47] st.rest=some r):dC st fr o=gd { st with rest:=r } fr o:=by
 unfold dC;rw[h1];dsimp only;rw[h2];dsimp only;rw[h3];dsimp only;rw[h]
theorem GD{st:Rd}{fr:List Po}{o:Po}{r:List UInt8}(h1:aH [60,33,45,45] st.rest=none)(h2:aH [60,33,91,67,68,65,84,65,91] st.rest=none)(h3:aH [60,63] st.rest=none)(h4:aH [60,47] st.rest=none)(h:aH [60] st.rest=some r):dC st fr o=lq { st with rest:=r } o:=by
 unfold dC;rw[h1];dsimp only;rw[h2];dsimp only;rw[h3];dsimp only;rw[h4];dsimp only;rw[h]
theorem sW{st:Rd}{fr:List Po}{o:Po}(h:aH [60] st.rest=none):dC st fr o=lS st:=by
 have key:∀t,aH (60::t) st.rest=none:=fun t=>by
  cases hr:st.rest with
  |nil=>exact i8 _ _
  |cons c z =>
   rw[hr]at h;unfold aH at h ⊢
   rw[am (fun hp=>by
    rw[List.isPrefixOf_cons_cons,aO]at hp;rw[av (by rw[List.isPrefixOf_cons_cons,hp.1];rfl)]at h
    cases h)]
 unfold dC;rw[key];dsimp only;rw[key];dsimp only;rw[key];dsimp only;rw[key];dsimp only;rw[h]
theorem nf{p s r:List UInt8}(h:aH p s=some r)(hp:p≠[]):s≠[]:=by
 rintro rfl;cases p with
 |nil=>exact hp rfl
 |cons c t=>rw[i8]at h;cases h
def D7(st:Rd)(fr:List Po)(o:Po)(s s':Rf):Prop :=
 (jS s'/\oh st)∨∃st',fD st=fD st'/\BQ st' fr o s'/\st'.ds=st.ds/\st'.tx=[]/\st'.ns=s'.ns/\s.ns <+: s'.ns/\(∃x,s'.ns[s.ns.length]? = some x/\x.k=1/\x.n=o.node)/\s'.rest.length<s.rest.length
def ua(st:Rd)(fr:List Po)(o:Po)(s s':Rf):Prop :=
 (jS s'/\oh st)∨∃st',fD st=fD st'/\BQ st' fr o s'/\st'.ds=st.ds/\(ed st' o).ns=s'.ns/\s.ns <+: s'.ns/\(s'.rest=[]∨bX [60,47] s'=true)/\s'.rest.length<=s.rest.length
theorem ua.step{st st1:Rd}{fr:List Po}{o:Po}{s s1 s':Rf}(h:ua st1 fr o s1 s')(he:fD st=fD st1)(hd:st1.ds=st.ds)(hp:s.ns <+: s1.ns)(hr:s1.rest.length<=s.rest.length):ua st fr o s s':=by
 rcases h with⟨h1,h2⟩|⟨st',h1,h2,h3,h4,h5,h6,h7⟩
 ·exact .inl ⟨h1,dD he h2⟩
 ·exact .inr ⟨st',he.trans h1,h2,h3.trans hd,h4,hp.trans h5,h6,ag h7 hr⟩
def D6(f:Nat):Prop:=∀(st:Rd) (fr:List Po) (o:Po) (s:Rf) (r:List UInt8),BQ st fr o s->(ed st o).ns=s.ns->st.rest.length<=f->aH [60] st.rest=some r ->
 aH [60,33,45,45] st.rest=none->aH [60,33,91,67,68,65,84,65,91] st.rest=none->aH [60,63] st.rest=none->aH [60,47] st.rest=none->D7 st fr o s (dj f o.node s)
theorem uW{ns:List Nd}{n:Nat}{ds:List Dc}(h:yi ns n ds):ns≠[]:=by
 have:=h.lt;rintro rfl;simp at this
theorem jf{E:Int->Rf->Rf}(hE:∀n s,dt s (E n s)){k:Nat}{n:Int}{t:List UInt8}{s:Rf}(h:jS s):jS (da E k n t s):=h.mono (fT hE k n t s)
theorem kW{f:Nat}(hE:D6 f):∀(k:Nat) (st:Rd) (fr:List Po) (o:Po) (s:Rf),fr≠[]->BQ st fr o s->st.ns=s.ns->st.rest.length<=f->st.rest.length<k->ua st fr o s (da (dj f) k o.node st.tx s)
 |0,st,_,_,_,_,_,_,_,h=>by omega
 |k+1,st,fr,o,s,hfr,hA,hns,hf,hk=>by
  have hmE:=iq f;obtain⟨hop,hrest,hbad,h13,henv⟩:=hA
  have hlen1:st.op.length≠1:=by
   rw[hop,aj,aB];have:=bO.2 hfr;omega
  rw[da];by_cases hstop:s.bad=true∨s.rest=[]∨bX [60,47] s=true
  ·rw[av hstop]
   obtain⟨p1,p2⟩:=jY o.node st.tx s;refine .inr ⟨st,rfl,⟨hop,by rw[p1];exact hrest,by rw[p2];exact hbad,by rw[p1];exact h13,henv.pre (f5 _ _ _).2.1⟩,rfl,vM st o s hns,(f5 _ _ _).2.1,?_,by rw[p1];exact af _⟩
   rcases hstop with h|h|h
   ·rw[hbad]at h;cases h
   ·exact .inl (by rw[p1];exact h)
   ·right;unfold bX at h ⊢;rw[p1];exact h
  rw[am hstop];have hr0:st.rest≠[]:=fun h=>hstop (.inr (.inl (hrest ▸ h)))
  have h47:aH [60,47] st.rest=none:=by
   cases h:aH [60,47] st.rest with
   |none=>rfl
   |some r=>exact absurd (dw (s:=s) (by rw[<-hrest];exact h)) (fun e=>hstop (.inr (.inr e)))
  cases hc:aH [60,33,91,67,68,65,84,65,91] st.rest with
  |some q =>
   have hcs:aH [60,33,91,67,68,65,84,65,91] s.rest=some q:=hrest ▸ hc;rw[av (dw hcs),dm hcs]
   have hcom:aH [60,33,45,45] st.rest=none:=by
    rw[cH hc];rfl
   have hql:=cI hc;simp only[az,bb]at hql;cases hcut:cW [93,93,62] q with
   |none =>
    left
    refine⟨jf hmE (.inl ?_),dM (eu hop hr0 ?_)⟩
    ·rw[ij (s:=s.to q) hcut];rfl
    ·rw[xr hcom hc];unfold nB;dsimp only;rw[hcut]
   |some pr =>
    obtain⟨p,r⟩:=pr;rw[gG (s:=s.to q) hcut];obtain⟨_,hrl,_⟩:=dW hcut
    have hnext:dC st fr o=some { st with rest:=r,tx:=st.tx++p }:=by
     rw[xr hcom hc];unfold nB;dsimp only;rw[hcut];dsimp only;rw[am hlen1]
    have hm:dt s (s.to r):=fH s ((zj hcut).trans (eY hcs));have hA':BQ { st with rest:=r,tx:=st.tx++p } fr o (s.to r):=⟨hop,rfl,hbad,hm.mem h13,henv⟩;exact(kW hE k { st with rest:=r,tx:=st.tx++p } fr o (s.to r) hfr hA' hns (by show r.length<=f;omega) (by show r.length<k;omega)).step (eU hop hr0 hnext) rfl hm.2.1 hm.len
  |none =>
  have hcs:aH [60,33,91,67,68,65,84,65,91] s.rest=none:=hrest ▸ hc;rw[am (by rw[ek hcs];simp)]
  cases hlt:aH [60] st.rest with
  |none =>
   have hlts:aH [60] s.rest=none:=hrest ▸ hlt;rw[av (ek hlts)];have hm:dt s (s.to (c9 [60] s.rest)):=fH s (wP _ _);cases hcont:cT (cE [60] st.rest)with
   |none =>
    left
    refine⟨jf hmE (.inl ?_),dM (eu hop hr0 ?_)⟩
    ·rw[<-hrest,hcont];simp[Rf.or]
    ·rw[sW hlt];unfold lS;rw[am hlen1,hcont]
   |some y =>
    have hnext:dC st fr o=some { st with rest:=c9 [60] st.rest,tx:=st.tx++y }:=by
     rw[sW hlt];unfold lS;rw[am hlen1,hcont]
    have hdec:=pL hop hr0 hnext;have hA':BQ { st with rest:=c9 [60] st.rest,tx:=st.tx++y } fr o (s.to (c9 [60] s.rest)):=⟨hop,by show c9 [60] st.rest=c9 [60] s.rest;rw[hrest],hbad,hm.mem h13,henv⟩
    have:=(kW hE k { st with rest:=c9 [60] st.rest,tx:=st.tx++y } fr o (s.to (c9 [60] s.rest)) hfr hA' hns (by show(c9 [60] st.rest).length<=f;have:=hdec;dsimp only at this;omega) (by show(c9 [60] st.rest).length<k;have:=hdec;dsimp only at this;omega)).step (eU hop hr0 hnext) rfl hm.2.1 hm.len
    rw[<-hrest,hcont,Option.getD_some,Option.isNone_some,cY];rw[<-hrest]at this;exact this
  |some r1 =>
  have hlts:aH [60] s.rest=some r1:=hrest ▸ hlt;rw[am (by rw[dw hlts];simp)]
  obtain⟨p1,p2⟩:=jY o.node st.tx s;have hpm:=f5 o.node st.tx s;have hput:=vM st o s hns;have henv':yi (cP o.node st.tx s).ns o.node st.ds:=henv.pre hpm.2.1;cases hcom:aH [60,33,45,45] st.rest with
  |some q =>
   have hcoms:aH [60,33,45,45] s.rest=some q:=hrest ▸ hcom;rw[av (dw hcoms)];have hql:=cI hcom;simp only[az,bb]at hql;have htk:bI [60,33,45,45] (cP o.node st.tx s)=(cP o.node st.tx s).to q:=dm (by rw[p1];exact hcoms)
   cases hcut:cW [45,45,62] q with
   |none =>
    left
    refine⟨jf hmE (.inl ?_),dM (eu hop hr0 ?_)⟩
    ·unfold fM;rw[htk,ij (s:=(cP o.node st.tx s).to q) hcut];rfl
    ·rw[sX hcom];unfold mG;dsimp only;rw[hcut]
   |some pr =>
    obtain⟨p,r⟩:=pr;obtain⟨_,hrl,_⟩:=dW hcut
    have hR:fM o.node (cP o.node st.tx s)=((cP o.node st.tx s).to r).add ⟨3,o.node,⟨#[]⟩,⟨#[]⟩,⟨#[]⟩,ba p,[],[]⟩:=by
     unfold fM;rw[htk,gG (s:=(cP o.node st.tx s).to q) hcut];rfl
    have hnext:dC st fr o=some (iw { st with rest:=r } o (jn p)):=by
     rw[sX hcom];unfold mG;dsimp only;rw[hcut]
    have hm:dt s (fM o.node (cP o.node st.tx s)):=hpm.trans (mc _ _)
    have hns':(iw { st with rest:=r } o (jn p)).ns=(fM o.node (cP o.node st.tx s)).ns:=by
     rw[hR]
     show(ed st o).ns++[cy (jn p) o.node]=_
     rw[hput];rfl
    have hA':BQ (iw { st with rest:=r } o (jn p)) fr o (fM o.node (cP o.node st.tx s)):=⟨hop,by rw[hR];rfl,by rw[hR];exact p2.trans hbad,hm.mem h13,henv.pre hm.2.1⟩
    exact(kW hE k (iw { st with rest:=r } o (jn p)) fr o (fM o.node (cP o.node st.tx s)) hfr hA' hns' (by show r.length<=f;omega) (by show r.length<k;omega)).step (eU hop hr0 hnext) rfl hm.2.1 hm.len
  |none =>
  have hcoms:aH [60,33,45,45] s.rest=none:=hrest ▸ hcom;rw[am (by rw[ek hcoms];simp)]
  cases hins:aH [60,63] st.rest with
  |some q =>
   have hinss:aH [60,63] s.rest=some q:=hrest ▸ hins;rw[av (dw hinss)];have hql:=cI hins;simp only[az,bb]at hql;have htk:bI [60,63] (cP o.node st.tx s)=(cP o.node st.tx s).to q:=dm (by rw[p1];exact hinss)
   have hq13:(13:UInt8)∉q:=fun hm=>h13 ((eY hinss).subset hm);obtain⟨i1,i2⟩:=vu ((cP o.node st.tx s).to q) hq13;have hm:dt s (fm o.node (cP o.node st.tx s)):=hpm.trans (l8 _ _);cases hcut:cW [63,62] q with
   |none =>
    left
    refine⟨jf hmE (.inl ?_),dM (eu hop hr0 ?_)⟩
    ·unfold fm;rw[htk];exact i1 hcut
    ·rw[pF hcom hc hins];unfold kh;dsimp only;rw[hcut]
   |some pr =>
    obtain⟨p,r⟩:=pr;obtain⟨_,hrl,_⟩:=dW hcut
    have hnext:dC st fr o=some (iw { st with rest:=r } o (gU (cE [32,9,10] p) (aI (c9 [32,9,10] p)))):=by
     rw[pF hcom hc hins];unfold kh;dsimp only;rw[hcut]
    rcases i2 p r hcut with⟨g1,g2⟩|⟨g1,g2⟩
    ·have hR:fm o.node (cP o.node st.tx s)=((cP o.node st.tx s).to r).add ⟨4,o.node,⟨#[]⟩,ba (cE [32,9,10] p),⟨#[]⟩,ba (aI (c9 [32,9,10] p)),[],[]⟩:=by
      unfold fm;rw[htk,g1,g2];rfl
     have hns':(iw { st with rest:=r } o (gU (cE [32,9,10] p) (aI (c9 [32,9,10] p)))).ns=(fm o.node (cP o.node st.tx s)).ns:=by
      rw[hR]
      show(ed st o).ns++[cy (gU _ _) o.node]=_
      rw[hput];rfl
     have hA':BQ (iw { st with rest:=r } o (gU (cE [32,9,10] p) (aI (c9 [32,9,10] p)))) fr o (fm o.node (cP o.node st.tx s)):=⟨hop,by rw[hR];rfl,by rw[hR];exact p2.trans hbad,hm.mem h13,henv.pre hm.2.1⟩
     exact(kW hE k (iw { st with rest:=r } o (gU (cE [32,9,10] p) (aI (c9 [32,9,10] p)))) fr o (fm o.node (cP o.node st.tx s)) hfr hA' hns' (by show r.length<=f;omega) (by show r.length<k;omega)).step (eU hop hr0 hnext) rfl hm.2.1 hm.len
    ·left
     refine⟨jf hmE (.inl ?_),dD (eU hop hr0 hnext) (mC ?_)⟩
     ·unfold fm;rw[htk];exact g1
     ·show ky ((ed st o).ns++[cy (gU _ _) o.node])
      exact jq (by rw[hput];exact uW henv') (yr g2)
  |none =>
  have hinss:aH [60,63] s.rest=none:=hrest ▸ hins;rw[am (by rw[ek hinss];simp)]
  have hA1:BQ st fr o (cP o.node st.tx s):=⟨hop,by rw[p1];exact hrest,p2.trans hbad,by rw[p1];exact h13,henv'⟩
  rcases hE st fr o (cP o.node st.tx s) r1 hA1 hput hf hlt hcom hc hins h47 with⟨g1,g2⟩|⟨st',g1,g2,g3,g4,g5,g6,_,g7⟩
  ·exact .inl ⟨jf hmE g1,g2⟩
  ·rw[p1]at g7
   have hl':st'.rest.length<st.rest.length:=by rw[g2.rest,hrest];exact g7
   have:=(kW hE k st' fr o (dj f o.node (cP o.node st.tx s)) hfr g2 g5 (by omega) (by omega)).step g1 g3 (hpm.2.1.trans g6) (be g7)
   rw[g4]at this;exact this
theorem pj{s p l:List UInt8}(h:dL s=some (p,l)):lh s p l:=by
 unfold dL at h
 split at h
 ·next hx =>
  simp only[al]at h;have:=hx.choose_spec;rw[h]at this;exact this
 ·cases h
theorem AL{s s' p l:List UInt8}(h:lh s p l)(h':lh s' p l):s=s':=by
 rcases h with⟨h1,h2,_⟩|⟨h1,_,h2⟩<;>rcases h' with⟨k1,k2,_⟩|⟨k1,_,k2⟩
 ·rw[<-h2,<-k2]
 ·rw[h1]at k1;exact absurd rfl (CJ k1)
 ·rw[k1]at h1;exact absurd rfl (CJ h1)
 ·rw[h2,k2]
theorem Cx(p r:List UInt8):aH p (p++r)=some r:=by
 unfold aH;rw[av (by rw[bV];exact ce _ _),List.drop_left]
theorem Dh(s:Rf){full p l:List UInt8}(hF:dL full=some (p,l))(hfn:∀c∈full,c∉bd)(h13:(13:UInt8)∉s.rest) :
 (∀q1 q2,aH full s.rest=some q1->aH [62] (aI q1)=some q2->(bI [62] (bG (cQ s).2)).or (decide ((cQ s).1≠(p,l)))=s.to q2) /\
 ((aH full s.rest=none∨∃q1,aH full s.rest=some q1/\aH [62] (aI q1)=none)->((bI [62] (bG (cQ s).2)).or (decide ((cQ s).1≠(p,l)))).bad=true):=by
 obtain⟨f1,f2⟩:=pW s
 constructor
 ·intro q1 q2 h1 h2
  have hs:=cH h1
  have hq:cE bd q1=[]/\c9 bd q1=q1:=by
   cases hq1:q1 with
   |nil=>rw[hq1]at h2;exact absurd h2 (by rw[show aI []=[]from rfl,i8];simp)
   |cons c z =>
    refine jw ?_;by_cases hb:fq c=true
    ·have hc13:c≠13:=fun e=>h13 (by rw[hs,hq1,e];simp)
     rcases(oO c).1 hb with e|e|e|e
     ·rw[e];decide
     ·rw[e];decide
     ·rw[e];decide
     ·exact absurd e hc13
    ·rw[hq1,ii (by simpa using hb)]at h2
     have:=cH h2
     injection this with e _
     rw[e];decide
  obtain⟨u1,u2⟩:=jU hfn q1;rw[<-hs,hq.1,bo]at u1;rw[<-hs,hq.2]at u2;have hf:=f1 p l (by rw[u1];exact hF)
  rw[hf,u2,dm (s:=bG (s.to q1)) h2,ap (by simp),cY];rfl
 ·intro h
  cases hsp:dL (cE bd s.rest)with
  |none =>
   refine iQ ?_ _;rcases f2 hsp with hb|⟨c,z,h1,h2,h3⟩
   ·exact((cJ _).trans (cA _ _)).1 hb
   ·have hc13:c≠13:=fun e=>h13 (e ▸ h2)
    rw[fa (by
     show aH [62] (aI (cQ s).2.rest)=none
     rw[h1,ii (xY h3 hc13)];exact gI (Ne.symm (lU h3).2.2.2.2.2) _)]
    rfl
  |some q =>
   obtain⟨p',l'⟩:=q;have hf:=f1 p' l' hsp;rw[hf];by_cases hpl:(p',l')=(p,l)
   ·rw[hpl]at hsp
    have he:cE bd s.rest=full:=AL (pj hsp) (pj hF)
    have hp:aH full s.rest=some (c9 bd s.rest):=by
     conv=>lhs;rw[<-kH bd s.rest,he]
     exact Cx _ _
    rcases h with h|⟨q1,h1,h2⟩
    ·rw[hp]at h;cases h
    ·rw[hp]at h1
     simp only[al]at h1;subst h1;refine iQ ?_ _;rw[fa (s:=bG (s.to (c9 bd s.rest))) h2];rfl
   ·rw[ax hpl];simp[Rf.or]
theorem Dq{pl:List UInt8×List UInt8}{s:Rf}(h:(bI [60,47] s).bad=true):(qF pl s).bad=true:=((fE _).trans ((cJ _).trans ((cA _ _).trans (f6 _ _)))).1 h
theorem sN{c d:UInt8}{s r:List UInt8}(h:aH [c,d] s=some r)(t:List UInt8){e:UInt8}(he:e≠d):aH (c::e::t) s=none:=by
 rw[cH h];unfold aH;rw[am];simp[List.isPrefixOf,he]
theorem lN{ds ds':List Dc}:(ds++ds').take ds.length=ds:=List.take_left
theorem nw{f:Nat}{n:Int}{s:Rf}(h:(bZ n s).1.bad=true):jS (dj (f+1) n s):=by
 rw[dj,av h];exact .inl h
theorem Dp{f:Nat}{n:Int}{s:Rf}(h:ky ((bZ n s).1.ns++[d8 (bZ n s).1.ns (bZ n s).2])):jS (dj (f+1) n s):=by
 rw[dj]
 split
 ·next hb=>exact .inl hb
 ·have hF:jS ((bZ n s).1.add (d8 (bZ n s).1.ns (bZ n s).2)):=.inr h
  split
  ·exact hF.mono (cA _ _)
  ·exact hF.mono ((cA _ _).trans ((fT (iq f) _ _ _ _).trans (kR _ _)))
theorem za:∀f:Nat,D6 f
 |0=>by
  intro st fr o s r hA hns hf hr _ _ _ _;have:=cI hr;simp only[az,bb]at this;omega
 |f+1=>by
  intro st fr o s r hA hns hf hr hc1 hc2 hc3 hc4;have hE:=za f;obtain⟨hop,hrest,hbad,h13,henv⟩:=hA;have hrs:aH [60] s.rest=some r:=hrest ▸ hr;have hr0:st.rest≠[]:=nf hr (by simp)
  have hrl:=cI hr;simp only[az,bb]at hrl;have hr13:(13:UInt8)∉r:=fun hm=>h13 ((eY hrs).subset hm);have htk:bI [60] s=s.to r:=dm hrs;have hnx:dC st fr o=lq { st with rest:=r } o:=GD hc1 hc2 hc3 hc4 hr;obtain⟨f1,f2⟩:=pW (s.to r);have heN:fg s=cQ (s.to r):=by unfold fg;rw[htk]
  cases hsp:dL (cE bd r)with
  |none =>
   left
   refine⟨nw ?_,dM (eu hop hr0 (by rw[hnx];unfold lq;dsimp only;rw[hsp]))⟩
   unfold bZ;rw[heN];rcases f2 hsp with hb|⟨c,z,h1,h2,h3⟩
   ·exact th _ hb
   ·have hc13:c≠13:=fun e=>hr13 (e ▸ h2)
    have hst:aI (cQ (s.to r)).2.rest=c::z:=by rw[h1];exact ii (xY h3 hc13)
    obtain⟨_,_,_,_,n47,n62⟩:=lU h3;rw[fy]
    split
    ·next hb=>exact hb
    ·rw[am (by
      have a1:bX [62] (bG (cQ (s.to r)).2)=false:=ek (by show aH [62] (aI _)=none;rw[hst];exact gI (Ne.symm n62) _)
      have a2:bX [47,62] (bG (cQ (s.to r)).2)=false:=ek (by show aH [47,62] (aI _)=none;rw[hst];simp[aH,List.isPrefixOf,Ne.symm n47])
      rw[a1,a2];simp),av (by unfold fN;rw[hst,h1];omega)]
     rfl
  |some q =>
  obtain⟨p,l⟩:=q;have hful:=f1 p l hsp;have hN2:(fg s).2=s.to (c9 bd r):=by rw[heN,hful];rfl
  have hN1:(fg s).1=(p,l):=by rw[heN,hful]
  have hub:=gM bd r;have hub13:(13:UInt8)∉c9 bd r:=fun hm=>hr13 ((wP _ _).subset hm)
  have htp:lq { st with rest:=r } o=lr (cE bd r) o ((c9 bd r).length+1) { st with rest:=c9 bd r } ⟨1,0,ba p,ba l,⟨#[]⟩,⟨#[]⟩,[],[]⟩:=by
   unfold lq;dsimp only;rw[hsp]
  have heM:bZ o.node s=fy ((c9 bd r).length+1) (s.to (c9 bd r)) (cy ⟨1,0,ba p,ba l,⟨#[]⟩,⟨#[]⟩,[],[]⟩ o.node):=by
   unfold bZ;rw[hN2,hN1];rfl
  obtain⟨t1,t2⟩:=yt (cE bd r) o o.node ((c9 bd r).length+1) ((c9 bd r).length+1) { st with rest:=c9 bd r } (s.to (c9 bd r)) ⟨1,0,ba p,ba l,⟨#[]⟩,⟨#[]⟩,[],[]⟩ rfl hbad hub13 (Nat.lt_succ_self _) (Nat.lt_succ_self _);rw[<-heM]at t1 t2;cases htl:lr (cE bd r) o ((c9 bd r).length+1) { st with rest:=c9 bd r } ⟨1,0,ba p,ba l,⟨#[]⟩,⟨#[]⟩,[],[]⟩with
  |none =>
   left
   exact⟨nw (t1 htl),dM (eu hop hr0 (by rw[hnx,htp,htl]))⟩
  |some st1 =>
  have hstep:fD st=fD st1:=eU hop hr0 (by rw[hnx,htp,htl])
  obtain⟨s1,x1,hM,hxk,hb1,hns1,hend⟩:=t2 st1 htl;have hns1':s1.ns=s.ns:=hns1
  have hmS:dt s s1:=by
   have:=kQ o.node s;rw[hM]at this;exact this
  have hXn:(cy x1 o.node).n=(o.node:Int):=rfl;have hXd:(cy x1 o.node).ds=x1.ds:=rfl;have hXe:∀ds,cy (Ef ds x1) o.node=Ef ds (cy x1 o.node):=fun ds=>rfl
  have hbegns:∀r',(jp { st with rest:=r' } o x1 (cE bd r)).ns=s.ns++[Ef (st.ds++x1.ds) (cy x1 o.node)]:=fun r'=>by
   rw[<-hXe,<-hns];rfl
  by_cases hu:yj x1.ds
  rotate_left 1
  ·-- a prefix declared twice
   left
   refine⟨Dp ?_,dD hstep (mC ?_)⟩
   ·rw[hM]
    exact jq (by rw[hns1'];exact uW henv) (tG (hxk ▸ rfl) hu)
   ·rcases hend with⟨r2,_,rfl⟩|⟨_,r2,_,rfl⟩
    ·show ky (jp { st with rest:=r2 } o x1 (cE bd r)).ns
     rw[hbegns];exact jq (uW henv) (tG (hxk ▸ rfl) hu)
    ·refine tU (mu (jp { st with rest:=r2 } o x1 (cE bd r)) _) ?_
     rw[hbegns];exact jq (uW henv) (tG (hxk ▸ rfl) hu)
  have hUri:Ef (st.ds++x1.ds) (cy x1 o.node)=d8 s.ns (cy x1 o.node):=Ft henv (cy x1 o.node) hXn hu;have hatx:(s.ns++[d8 s.ns (cy x1 o.node)])[s.ns.length]? = some (d8 s.ns (cy x1 o.node)):=by simp
  have hxk1:(d8 s.ns (cy x1 o.node)).k=1:=hxk;rcases hend with⟨r2,hr2,rfl⟩|⟨hno,r2,hr2,rfl⟩
  ·-- a start tag
   have hsee:bX [47,62] s1=false:=ek (by rw[cH hr2];rfl)
   have hl2:=cI hr2;simp only[az,bb]at hl2;have hl1:=hmS.len
   have hR:dj (f+1) o.node s=qF (p,l) (da (dj f) (s1.rest.length+1) (s.ns.length:Nat) [] ((s1.add (d8 s.ns (cy x1 o.node))).to r2)):=by
    rw[dj,hM,am (by rw[hb1];simp),am (by rw[hsee];simp),hN1,hns1',dm (s:=s1.add (d8 s.ns (cy x1 o.node))) hr2]
   rw[hR];obtain⟨st1,hst1⟩ : ∃st1,st1=jp { st with rest:=r2 } o x1 (cE bd r):=⟨_,rfl⟩;have hstep':fD st=fD st1:=by rw[hst1];exact hstep
   have ho1:st1.op=(fr++[o])++[⟨s.ns.length,cE bd r,st.ds.length⟩]:=by rw[hst1,<-hop,<-hns];rfl
   have hns1e:st1.ns=s.ns++[d8 s.ns (cy x1 o.node)]:=by
    rw[hst1,<-hUri];exact hbegns r2
   have hmS2:dt s ((s1.add (d8 s.ns (cy x1 o.node))).to r2):=hmS.trans ((f7 _ _).trans (fH _ (eY hr2)))
   have hA1:BQ st1 (fr++[o]) ⟨s.ns.length,cE bd r,st.ds.length⟩ ((s1.add (d8 s.ns (cy x1 o.node))).to r2):=by
    refine⟨ho1,by rw[hst1];rfl,hb1,hmS2.mem h13,?_⟩
    have:=henv.down (d8 s.ns (cy x1 o.node)) hXn hu;rw[hst1]
    show yi (s1.ns++[d8 s.ns (cy x1 o.node)]) s.ns.length (st.ds++x1.ds)
    rw[hns1'];exact this
   have htx1:st1.tx=[]:=by rw[hst1];rfl
   have hds1:st1.ds=st.ds++x1.ds:=by rw[hst1];rfl
   have hrest1:st1.rest=r2:=by rw[hst1];rfl
   have hIN:=kW hE (s1.rest.length+1) st1 (fr++[o]) ⟨s.ns.length,cE bd r,st.ds.length⟩ ((s1.add (d8 s.ns (cy x1 o.node))).to r2) (by simp) hA1 (by rw[hns1e];show _=s1.ns++[_];rw[hns1']) (by rw[hrest1];rw[hrest]at hf;omega) (by rw[hrest1];omega)
   rw[htx1]at hIN;dsimp only at hIN;generalize hS3:da (dj f) (s1.rest.length+1) (s.ns.length:Nat) [] ((s1.add (d8 s.ns (cy x1 o.node))).to r2)=s3 at hIN ⊢;rcases hIN with⟨g1,g2⟩|⟨st2,g1,g2,g3,g4,g5,g6,g7⟩
   ·exact .inl ⟨g1.mono (kR _ _),dD hstep' g2⟩
   have hpre:s.ns++[d8 s.ns (cy x1 o.node)] <+: s3.ns:=by
    have e:((s1.add (d8 s.ns (cy x1 o.node))).to r2).ns=s.ns++[d8 s.ns (cy x1 o.node)]:=by show s1.ns++[_]=_;rw[hns1']
    rw[e]at g5;exact g5
   have g7':s3.rest.length<=r2.length:=g7;have hlen2:st2.op.length≠1:=by rw[g2.op];simp
   rcases g6 with g6|g6
   ·left
    refine⟨.inl (Dq ?_),dD hstep' (dD g1 (dM ?_))⟩
    ·rw[fa (by rw[g6];exact i8 _ _)];rfl
    ·rw[sR (by rw[g2.rest];exact g6),am hlen2]
   obtain⟨q,hq⟩:=sx.1 g6;have hql:=cI hq;simp only[az,bb]at hql;have hqm:aH [60,47] st2.rest=some q:=by rw[g2.rest];exact hq
   have hq0:st2.rest≠[]:=nf hqm (by simp)
   have hq13:(13:UInt8)∉q:=fun hm=>g2.r13 ((eY hq).subset hm)
   have hnx2:dC st2 (fr++[o]) ⟨s.ns.length,cE bd r,st.ds.length⟩=gd { st2 with rest:=q } (fr++[o]) ⟨s.ns.length,cE bd r,st.ds.length⟩ :=
    CE (sN hqm _ (by decide)) (sN hqm _ (by decide)) (sN hqm _ (by decide)) hqm
   obtain⟨b1,b2⟩:=Dh (s3.to q) hsp (fun c hc=>B0 hc) hq13
   have hEE:qF (p,l) s3=(bI [62] (bG (cQ (s3.to q)).2)).or (decide ((cQ (s3.to q)).1≠(p,l))):=by
    unfold qF;rw[dm hq]
   rw[hEE];cases hp1:aH (cE bd r) q with
   |none =>
    left
    refine⟨.inl (b2 (.inl hp1)),dD hstep' (dD g1 (dM (eu g2.op hq0 ?_)))⟩;rw[hnx2];unfold gd;dsimp only;rw[am hlen2,hp1]
   |some q1 =>
    cases hp2:aH [62] (aI q1)with
    |none =>
     left
     refine⟨.inl (b2 (.inr ⟨q1,hp1,hp2⟩)),dD hstep' (dD g1 (dM (eu g2.op hq0 ?_)))⟩;rw[hnx2];unfold gd;dsimp only;rw[am hlen2,hp1];dsimp only;rw[hp2]
    |some q2 =>
     right
     have hnx3:dC st2 (fr++[o]) ⟨s.ns.length,cE bd r,st.ds.length⟩=some { qi { st2 with rest:=aI q1 } (fr++[o]) ⟨s.ns.length,cE bd r,st.ds.length⟩with rest:=q2 }:=by
      rw[hnx2];unfold gd;dsimp only;rw[am hlen2,hp1];dsimp only;rw[hp2]
     have hs4:=b1 q1 q2 hp1 hp2;rw[hs4];have hs2q:q2 <:+ s3.rest:=(eY hp2).trans ((zl _).trans ((eY hp1).trans (eY hq)));have hlq:=hs2q.length_le;have hp2l:=cI hp2;have hp1l:=cI hp1;have hbq:=cB q1;simp only[az,bb]at hp2l;refine⟨_,(hstep'.trans g1).trans (eU g2.op hq0 hnx3),⟨rfl,rfl,g2.bad,fun hm=>g2.r13 (hs2q.subset hm),?_⟩,?_,rfl,g4,(ce _ _).trans hpre,⟨_,tW hpre hatx,hxk1,rfl⟩,?_⟩
     ·show yi s3.ns o.node (st2.ds.take st.ds.length)
      rw[g3,hds1,lN];exact henv.pre ((ce _ _).trans hpre)
     ·show st2.ds.take st.ds.length=st.ds
      rw[g3,hds1,lN]
     ·show q2.length<s.rest.length
      omega
  ·-- an empty tag
   have hsee:bX [47,62] s1=true:=dw hr2;have hl2:=cI hr2;simp only[az,bb]at hl2;have hl1:=hmS.len
   have hR:dj (f+1) o.node s=(s1.add (d8 s.ns (cy x1 o.node))).to r2:=by
    rw[dj,hM,am (by rw[hb1];simp),av hsee,hns1',dm (s:=s1.add (d8 s.ns (cy x1 o.node))) hr2]
   rw[hR];have hmS2:dt s ((s1.add (d8 s.ns (cy x1 o.node))).to r2):=hmS.trans ((f7 _ _).trans (fH _ (eY hr2)))
   right
   refine⟨_,hstep,⟨hop,rfl,hb1,hmS2.mem h13,?_⟩,?_,rfl,?_,hmS2.2.1,⟨_,?_,hxk1,rfl⟩,?_⟩
   ·show yi (s1.ns++[d8 s.ns (cy x1 o.node)]) o.node ((st.ds++x1.ds).take st.ds.length)
    rw[lN,hns1'];exact henv.pre (ce _ _)
   ·show(st.ds++x1.ds).take st.ds.length=st.ds
    exact lN
   ·show(qi (jp { st with rest:=r2 } o x1 (cE bd r)) _ _).ns=s1.ns++[d8 s.ns (cy x1 o.node)]
    rw[hns1',<-hUri,<-hbegns r2];exact oy _ _ rfl
   ·show(s1.ns++[d8 s.ns (cy x1 o.node)])[s.ns.length]? = _
    rw[hns1'];exact hatx
   ·show r2.length<s.rest.length
    omega
end Go.Proofs.YteinegfbpfhflaaGreatDoor
