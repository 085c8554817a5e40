/-
  apostilleref08.Reader: marks. Conditions: the reader and the element lie as they are; nothing is too long.
-/
import Derived.Test.YteinegfbpfhflaaGreatDoorM46
namespace Go.Proofs.YteinegfbpfhflaaGreatDoor
open Go.RowKit
set_option linter.unusedVariables false
set_option maxRecDepth 100000
set_option maxHeartbeats 64000000
theorem uR{w:World}{B W0 e s n:Nat}{v:Value}{xs:List Value}(h:w.ownsRow W0 e s v n xs)(hB:B<=W0):w.ownsRow B e s v n xs:=by
 obtain⟨h1,h2 |⟨g,cap,cur,rfl,hg,hr⟩⟩:=h
 ·exact⟨h1,.inl h2⟩
 ·exact⟨h1,.inr ⟨g,cap,cur,rfl,ag hB hg,hr⟩⟩
abbrev Ah:Value:=.slice none 0 0
theorem tg:Ah.ownBlock=none:=rfl
structure se(w:World)(B W0 rb xb:Nat)(S:ByteArray)(s:Rf)(vn:Value)(ys:List Ny)(x:Nd):Prop where
 rd:eF w B rb S s vn ys
 bx:W0<=xb
 nx:vn.ownBlock≠some xb
 at':∃vD vA,w.heap[xb]? = some (.cells #[.int .i64 x.k,.int .i64 x.n,.string x.p,.string x.l,.string x.u,.string x.t,vD,vA] 42 (0,0))/\gR w W0 ys Ah vD vA x.ds x.ats
structure iz(W0 rb:Nat)(w w':World):Prop where
 els:∀b,b<W0->b≠rb->w'.heap[b]? = w.heap[b]?
 size:w.heap.size<=w'.heap.size
theorem iz.refl(W0 rb:Nat)(w:World):iz W0 rb w w:=⟨fun _ _ _=>rfl,af _⟩
theorem iz.trans{W0 rb:Nat}{w w1 w2:World}(h:iz W0 rb w w1)(h':iz W0 rb w1 w2):iz W0 rb w w2:=⟨fun b h1 h2=>(h'.els b h1 h2).trans (h.els b h1 h2),ag h.size h'.size⟩
theorem iz.rst{W0 rb:Nat}{S:ByteArray}{v:Value}{s:Rf}{w w':World}(hr:dA rb S v s w w')(hW:W0<=w.heap.size):iz W0 rb w w':=⟨fun b h1 h2=>hr.other b (by omega) h2,hr.size⟩
theorem iz.of{W0 rb:Nat}{w w':World}(h:Below W0 w w'):iz W0 rb w w':=⟨fun b h1 _=>h.block b h1,h.size⟩
theorem se.rst{w w':World}{B W0 rb xb:Nat}{S:ByteArray}{s s':Rf}{vn:Value}{ys:List Ny}{x:Nd}(h:se w B W0 rb xb S s vn ys x)(hr:dA rb S vn s' w w')(hn:s'.ns=s.ns):se w' B W0 rb xb S s' vn ys x:=by
 obtain⟨k,hk⟩:=h.rd.rc;obtain⟨vD,vA,hb,hx⟩:=h.at';have hoth:∀(b:Nat) (e:TypeId) (cs:Array Value),e≠64->w.heap[b]? = some (.cells cs e (0,0))->w'.heap[b]? = w.heap[b]?:=fun b e cs he hb=>hr.other b (au hb) (br hb hk.box he);exact⟨h.rd.rst hr hn,h.bx,h.nx,vD,vA,(hoth xb _ _ (by decide) hb).trans hb,aR hx.rD (fun b _ ⟨cs,hb⟩=>hoth b _ cs (by decide) hb),aR hx.rA (fun b _ ⟨cs,hb⟩=>hoth b _ cs (by decide) hb),hx.dd,hx.yd,hx.ya⟩
theorem se.below{w w':World}{B W0 rb xb:Nat}{S:ByteArray}{s:Rf}{vn:Value}{ys:List Ny}{x:Nd}(h:se w B W0 rb xb S s vn ys x)(hb:Below w.heap.size w w'):se w' B W0 rb xb S s vn ys x:=by
 obtain⟨k,hk⟩:=h.rd.rc;exact h.rst (dA.of hk hb) rfl
theorem eF.setNode{w:World}{B rb:Nat}{S:ByteArray}{s:Rf}{vn:Value}{ys:List Ny}(h:eF w B rb S s vn ys){z j:Nat}{cs:Array Value}{u:Value}(hz:w.heap[z]? = some (.cells cs 42 (0,0)))(hn:vn.ownBlock≠some z):eF (w.setCell ⟨z,j,none⟩ u) B rb S s vn ys:=by
 obtain⟨k,hk⟩:=h.rc;refine⟨h.lo,⟨k,hk.le,hk.rest,(ao _ _ _ _ (fun e=>br hk.box hz (by decide) e)).trans hk.box⟩,h.ns,aR h.rn (fun b hb _=>ao _ _ _ _ (fun e=>hn (hb.trans (congrArg some e)))),fun y hy=>⟨aR (h.ry y hy).1 (fun b _ ⟨cs,hc⟩=>ao _ _ _ _ (fun e=>br hc hz (by decide) e)),aR (h.ry y hy).2 (fun b _ ⟨cs,hc⟩=>ao _ _ _ _ (fun e=>br hc hz (by decide) e))⟩⟩
theorem ow{w w1:World}{B W0 rb:Nat}{S:ByteArray}{s:Rf}{vn vD vA v1:Value}{ys:List Ny}{ds:List Dc}{as':List At}{d:Dc}(h:eF w B rb S s vn ys)(hx:gR w W0 ys Ah vD vA ds as')(hoth:∀b,b<w.heap.size->vD.ownBlock≠some b->w1.heap[b]? = w.heap[b]?)(hat:v1.ownBlock=vD.ownBlock∨∀b,v1.ownBlock=some b->w.heap.size<=b)(hown:w1.ownsRow W0 48 2 v1 (ds.length+1) ((ds++[d]).flatMap jP)) :
 eF w1 B rb S s vn ys/\gR w1 W0 ys Ah v1 vA (ds++[d]) as':=by
 have hgn:∀{b0 e q n:Nat} {v:Value} {xs:List Value},w.ownsRow b0 e q v n xs->(v.ownBlock=none∨v.ownBlock≠vD.ownBlock)->v.ownBlock=none∨v.ownBlock≠v1.ownBlock:=fun {b0 e q n v xs} ho hne=>by
  rcases hat with h1|h1
  ·rw[h1];exact hne
  ·cases hv:v.ownBlock with
   |none=>exact .inl rfl
   |some b =>
    refine .inr (fun e0 => ?_);have:=h1 b e0.symm;have:=(ho.lt b hv).2;omega
 have keep:∀{b0 e q n:Nat} {v:Value} {xs:List Value},w.ownsRow b0 e q v n xs->(v.ownBlock=none∨v.ownBlock≠vD.ownBlock)->w1.ownsRow b0 e q v n xs:=fun {b0 e q n v xs} ho hne=>aR ho (fun b hb ⟨cs,hc⟩=>hoth b (au hc) (fun e0=>by
  rcases hne with h0|h0
  ·rw[hb]at h0;cases h0
  ·exact h0 (hb.trans e0.symm)))
 have kt:∀{b0 e q n:Nat} {v:Value} {xs:List Value},w.ownsRow b0 e q v n xs->e≠48->w1.ownsRow b0 e q v n xs:=fun {b0 e q n v xs} ho he=>aR ho (fun b hb ⟨cs,hc⟩=>hoth b (au hc) (dQ hx.rD hc (Ne.symm he)));obtain⟨k,hk⟩:=h.rc;refine⟨⟨h.lo,⟨k,hk.le,hk.rest,(hoth rb hk.lt (dQ hx.rD hk.box (by decide))).trans hk.box⟩,h.ns,kt h.rn (by decide),fun y hy=>⟨keep (h.ry y hy).1 (hx.yd y hy),kt (h.ry y hy).2 (by decide)⟩⟩,⟨(by rw[aj,aB];exact hown),kt hx.rA (by decide),(by cases hq:v1.ownBlock with|none=>exact .inl rfl|some b=>exact .inr (by rw[tg];simp)),fun y hy=>hgn (h.ry y hy).1 (hx.yd y hy),hx.ya⟩⟩
theorem ox{w w1:World}{B W0 rb:Nat}{S:ByteArray}{s:Rf}{vn vD vA v1:Value}{ys:List Ny}{ds:List Dc}{as':List At}{a:At}(h:eF w B rb S s vn ys)(hx:gR w W0 ys Ah vD vA ds as')(hoth:∀b,b<w.heap.size->vA.ownBlock≠some b->w1.heap[b]? = w.heap[b]?)(hat:v1.ownBlock=vA.ownBlock∨∀b,v1.ownBlock=some b->w.heap.size<=b)(hown:w1.ownsRow W0 73 4 v1 (as'.length+1) ((as'++[a]).flatMap jt)) :
 eF w1 B rb S s vn ys/\gR w1 W0 ys Ah vD v1 ds (as'++[a]):=by
 have hgn:∀{b0 e q n:Nat} {v:Value} {xs:List Value},w.ownsRow b0 e q v n xs->(v.ownBlock=none∨v.ownBlock≠vA.ownBlock)->v.ownBlock=none∨v.ownBlock≠v1.ownBlock:=fun {b0 e q n v xs} ho hne=>by
  rcases hat with h1|h1
  ·rw[h1];exact hne
  ·cases hv:v.ownBlock with
   |none=>exact .inl rfl
   |some b =>
    refine .inr (fun e0 => ?_);have:=h1 b e0.symm;have:=(ho.lt b hv).2;omega
 have keep:∀{b0 e q n:Nat} {v:Value} {xs:List Value},w.ownsRow b0 e q v n xs->(v.ownBlock=none∨v.ownBlock≠vA.ownBlock)->w1.ownsRow b0 e q v n xs:=fun {b0 e q n v xs} ho hne=>aR ho (fun b hb ⟨cs,hc⟩=>hoth b (au hc) (fun e0=>by
  rcases hne with h0|h0
  ·rw[hb]at h0;cases h0
  ·exact h0 (hb.trans e0.symm)))
 have kt:∀{b0 e q n:Nat} {v:Value} {xs:List Value},w.ownsRow b0 e q v n xs->e≠73->w1.ownsRow b0 e q v n xs:=fun {b0 e q n v xs} ho he=>aR ho (fun b hb ⟨cs,hc⟩=>hoth b (au hc) (dQ hx.rA hc (Ne.symm he)));obtain⟨k,hk⟩:=h.rc;refine⟨⟨h.lo,⟨k,hk.le,hk.rest,(hoth rb hk.lt (dQ hx.rA hk.box (by decide))).trans hk.box⟩,h.ns,kt h.rn (by decide),fun y hy=>⟨kt (h.ry y hy).1 (by decide),keep (h.ry y hy).2 (hx.ya y hy)⟩⟩,⟨kt hx.rD (by decide),(by rw[aj,aB];exact hown),hx.dd,hx.yd,fun y hy=>hgn (h.ry y hy).2 (hx.ya y hy)⟩⟩
theorem py(s:Rf):(dq s).1.length<=s.rest.length:=by
 have hl:=((cJ s).trans ((cA [61] _).trans (cJ _))).len;unfold dq
 split
 ·next r hr =>
  have h1:=ib hr;unfold cR
  split
  ·next p q hc=>have:=dW hc;dsimp only[Rf.to]at this ⊢;omega
  ·simp
 ·split
  ·next r hr =>
   have h1:=ib hr;unfold cR
   split
   ·next p q hc=>have:=dW hc;dsimp only[Rf.to]at this ⊢;omega
   ·simp
  ·simp
theorem xf(q:List UInt8)(hq:q.length<=100000)(w:World):Calls Tryz.prog 103 #[.string (ba q)] w fun e w'=>e=.returned (.tuple #[.string (ba ((fA q).getD [])),.bool (fA q).isSome])/\Below w.heap.size w w' :=
 (sF (ba q) (by rw[cV];exact hq) w).mono fun e w' ⟨ha,hb⟩=>by
   rw[bp]at ha;rcases ha with⟨Y,h1,rfl⟩|⟨h1,rfl⟩
   ·rw[h1,Option.getD_some,kZ];exact⟨rfl,hb⟩
   ·rw[h1];exact⟨rfl,hb⟩
theorem yI(s:Rf):(lx s).ns=s.ns:=by
 unfold lx
 show(dq (cQ s).2).2.ns=s.ns
 rw[sK,nn]
def D4(w:World)(B W0 rb xb:Nat)(S:ByteArray)(vn:Value)(ys:List Ny)(M:Nat)(T:Rf×Nd)(v:Value)(wr:World):Prop :=
 ∃(n:Nat) (s:Rf) (x:Nd),s.rest.length<n/\fy n s x=T/\se wr B W0 rb xb S s vn ys x/\iz W0 rb w wr/\Below B w wr/\x.ds.length+x.ats.length+s.rest.length<=M
theorem Aw(S:ByteArray)(B W0 rb xb:Nat)(s:Rf)(vn:Value)(ys:List Ny)(x:Nd)(n:Nat)(w:World)(h:se w B W0 rb xb S s vn ys x)(hB:B<=W0)(hW:W0<=w.heap.size)(hS:S.size<=100000)(hn:s.rest.length<n)(hM:x.ds.length+x.ats.length+s.rest.length<=800000) :
 Calls Tryz.prog 66 #[.pointer (some ⟨rb,0,none⟩),.pointer (some ⟨xb,0,none⟩)] w fun e w'=>e=.returned (.tuple #[])/\se w' B W0 rb xb S (fy n s x).1 vn ys (fy n s x).2/\iz W0 rb w w'/\Below B w w':=by
 have hBs:B<=w.heap.size:=ag hB hW;have HLO:=aa h.rd.lo;obtain⟨T,hT⟩ : ∃T,fy n s x=T:=⟨_,rfl⟩;rw[hT];have HREL:Hid (∀v,D4 w B W0 rb xb S vn ys 800000 T v w):=fun v=>⟨n,s,x,hn,hT,h,iz.refl _ _ _,ae _ _,hM⟩;clear h hT hn hM;go_enter Tryz.func66,Tryz.ntmps66;go_wp2
 go_loopw [12] (D4 w B W0 rb xb S vn ys 800000 T) (fun _ wr=>S.size-lk wr rb)
 case atStart=>exact HREL.out _
 case round =>
  clear HREL;obtain⟨n,s,x,hn,hT,h,hg,hb,hM⟩:=hrel;obtain⟨k,hk⟩:=h.rd.rc;have c3:=hk.cells.2.2.2;have hlt:=hk.lt;have hpos:S.size-lk wr rb=s.rest.length:=by rw[eB hk,hk.len]
  have hsl:s.rest.length<=100000:=by have:=hk.len;omega
  have HPOS:=aa hpos;have H:=aa h;have HG:=aa hg;have HB:=aa hb;have HK:=aa hk;clear h hg hb hk hpos;cases n with
  |zero=>omega
  |succ n =>
  rw[fy]at hT;cases hbad:s.bad with
  |true =>
   rw[hbad]at c3 hT;rw[av rfl]at hT;have HT:=aa hT;clear hT;go_wp2
   go_end0
   exact⟨rfl,HT.out ▸ H.out,HG.out,HB.out⟩
  |false =>
   rw[hbad]at c3 hT;rw[am (by simp)]at hT
   have HBL:=aa (eN S rb vn s k wr HK.out (by omega))
   have hns1:(bG s).ns=s.ns:=rfl;have hl1:=(cJ s).len;have hblt:fN s≠0->(bG s).rest.length<s.rest.length:=fun h0=>by unfold fN at h0;show(aI s.rest).length<_;omega
   obtain⟨bn,hbn⟩ : ∃bn,fN s=bn:=⟨_,rfl⟩;rw[hbn]at HBL hT hblt;clear hbn;generalize bG s=s1 at *;have HSG:Hid (∀w' k',eR w' rb S vn s1 k'->Calls Tryz.prog 57 #[.pointer (some ⟨rb,0,none⟩),.string ⟨#[62]⟩] w' fun e w''=>e=.returned (.bool (bX [62] s1))/\dA rb S vn s1 w' w''):=fun w' k' hm=>dP S ⟨#[62]⟩ rb vn s1 k' w' hm (by omega) (by decide)
   have HSE:Hid (∀w' k',eR w' rb S vn s1 k'->Calls Tryz.prog 57 #[.pointer (some ⟨rb,0,none⟩),.string ⟨#[47,62]⟩] w' fun e w''=>e=.returned (.bool (bX [47,62] s1))/\dA rb S vn s1 w' w''):=fun w' k' hm=>dP S ⟨#[47,62]⟩ rb vn s1 k' w' hm (by omega) (by decide)
   have HFU:Hid (∀w' k',eR w' rb S vn s1 k'->_):=fun w' k' hm=>pV S rb vn s1 k' w' hm (by omega)
   have HNS:=aa hns1;have HTT:=aa hT;clear hT hns1
   go_wp2_with fail
   refine HBL.out.mono ?_;rintro e w1⟨rfl,hr1⟩;have hWr:W0<=wr.heap.size:=by have:=HG.out.size;omega
   have h1:=H.out.rst hr1 HNS.out;obtain⟨k1,hm1⟩:=h1.rd.rc;have HC1:=aa (HSG.out w1 k1 hm1);have H1:=aa h1;have HG1:=aa (HG.out.trans (iz.rst hr1 hWr));have HB1:=aa (HB.out.trans (hr1.below HLO.out (by omega)))
   have hW1:W0<=w1.heap.size:=by have:=hr1.size;omega
   clear hr1 h1 hm1;cases hc:bX [62] s1 with
   |true =>
    rw[hc]at HC1
    have HT:Hid ((s1,x)=T):=by
     have:=HTT.out;rw[av (by rw[hc];rfl)]at this
     exact this
    clear HTT hc
    go_wp2_with fail
    refine HC1.out.mono ?_;rintro e w2⟨rfl,hr2⟩;have H2:=aa (H1.out.rst hr2 rfl);have HG2:=aa (HG1.out.trans (iz.rst hr2 hW1));have HB2:=aa (HB1.out.trans (hr2.below HLO.out (by omega)))
    clear hr2;go_wp2;refine bodyPost_ret (results_none rfl _ _ _) rfl ?_;rw[<-HT.out];exact⟨rfl,H2.out,HG2.out,HB2.out⟩
   |false =>
    rw[hc]at HC1
    go_wp2_with fail
    refine HC1.out.mono ?_;rintro e w2⟨rfl,hr2⟩;have h2:=H1.out.rst hr2 rfl;obtain⟨k2,hm2⟩:=h2.rd.rc;have HC2:=aa (HSE.out w2 k2 hm2);have H2:=aa h2;have HG2:=aa (HG1.out.trans (iz.rst hr2 hW1));have HB2:=aa (HB1.out.trans (hr2.below HLO.out (by omega)))
    have hW2:W0<=w2.heap.size:=by have:=hr2.size;omega
    clear hr2 h2 hm2;cases he:bX [47,62] s1 with
    |true =>
     rw[he]at HC2
     have HT:Hid ((s1,x)=T):=by
      have:=HTT.out;rw[av (by rw[he];simp)]at this
      exact this
     clear HTT hc he
     go_wp2_with fail
     refine HC2.out.mono ?_;rintro e w3⟨rfl,hr3⟩;have H3:=aa (H2.out.rst hr3 rfl);have HG3:=aa (HG2.out.trans (iz.rst hr3 hW2));have HB3:=aa (HB2.out.trans (hr3.below HLO.out (by omega)))
     clear hr3;go_wp2;refine bodyPost_ret (results_none rfl _ _ _) rfl ?_;rw[<-HT.out];exact⟨rfl,H3.out,HG3.out,HB3.out⟩
    |false =>
     rw[he]at HC2
     have HT1:Hid ((if bn=0 then(s1.fail,x)else fy n (lx s1) (iT s1 x))=T):=by
      have:=HTT.out;rw[am (by rw[hc,he];simp)]at this
      exact this
     clear HTT hc he
     go_wp2_with fail
     refine HC2.out.mono ?_;rintro e w3⟨rfl,hr3⟩;have h3:=H2.out.rst hr3 rfl;obtain⟨k3,hm3⟩:=h3.rd.rc;have q3:=hm3.cells.2.2.2;have qf3:=hm3.frozen 3;have ql3:=hm3.lt;have HM3:=aa hm3;have HC3:=aa (HFU.out w3 k3 hm3);have H3:=aa h3;have HG3:=aa (HG2.out.trans (iz.rst hr3 hW2));have HB3:=aa (HB2.out.trans (hr3.below HLO.out (by omega)))
     have hW3:W0<=w3.heap.size:=by have:=hr3.size;omega
     clear hr3 h3 hm3;by_cases hz:bn=0
     ·have hzz:((bn:Int)==0)=true:=by rw[hz];rfl
      have HT:Hid ((s1.fail,x)=T):=by
       have:=HT1.out;rw[av hz]at this;exact this
      clear HT1 hz hblt;go_wp2;refine bodyPost_ret (results_none rfl _ _ _) rfl ?_;rw[<-HT.out];have hr4:=dA.mark HM3.out true;exact⟨rfl,H3.out.rst hr4 rfl,HG3.out.trans (iz.rst hr4 hW3),HB3.out.trans (hr4.below HLO.out (by omega))⟩
     ·have hzz:((bn:Int)==0)=false:=by rw[ak];omega
      have HT:Hid (fy n (lx s1) (iT s1 x)=T):=by
       have:=HT1.out;rw[am hz]at this;exact this
      have hdec:=hblt hz;clear HT1 hz hblt q3 qf3 ql3;have hmS:lx s1=(dq (cQ s1).2).2.or (fA (dq (cQ s1).2).1).isNone:=rfl;have hmX:iT s1 x=fj x (cQ s1).1.1 (cQ s1).1.2 (ba ((fA (dq (cQ s1).2).1).getD [])):=rfl;have hml:=(kN s1).len;have hmn:=yI s1;have hxl:(iT s1 x).ds.length+(iT s1 x).ats.length=x.ds.length+x.ats.length+1:=by rw[hmX];exact qv _ _ _ _
      have HMN:=aa (bM hmn (bM hml hxl));have hq1:=py (cQ s1).2;have hq2:=(fE s1).len;have hfn:=nn s1;have hqn:=sK (cQ s1).2;generalize (cQ s1).1.1=p at *;generalize (cQ s1).1.2=l at *;generalize (cQ s1).2=s2 at *;have HQU:Hid (∀w' k',eR w' rb S vn s2 k'->_):=fun w' k' hm=>nL S rb vn s2 k' w' hm (by omega)
      have HVA:Hid (∀w',_):=fun w'=>xf (dq s2).1 (by omega) w'
      generalize (dq s2).1=q at *;generalize (dq s2).2=s3 at *;obtain⟨okb,hok⟩ : ∃okb,(fA q).isSome=okb:=⟨_,rfl⟩;have hno:(fA q).isNone = !okb:=by rw[<-hok];cases fA q<;>rfl
      rw[hok]at HVA;rw[hno]at hmS;generalize ba ((fA q).getD [])=V at *;clear hok hno;have HMS:=aa hmS;have HMX:=aa hmX;have HFN:=aa (bM hfn hqn);generalize hms:lx s1=sm at *;generalize hmx:iT s1 x=xm at *;clear hmS hmX hmn hml hxl hq1 hfn hqn hms hmx
      go_wp2_with fail
      refine HC3.out.mono ?_;rintro e w4⟨rfl,hr4⟩;have h4:=H3.out.rst hr4 HFN.out.1;obtain⟨k4,hm4⟩:=h4.rd.rc;have HC4:=aa (HQU.out w4 k4 hm4);have H4:=aa h4;have HG4:=aa (HG3.out.trans (iz.rst hr4 hW3));have HB4:=aa (HB3.out.trans (hr4.below HLO.out (by omega)))
      have hW4:W0<=w4.heap.size:=by have:=hr4.size;omega
      clear hr4 h4 hm4
      go_wp2_with fail
      refine HC4.out.mono ?_;rintro e w5⟨rfl,hr5⟩;have h5:=H4.out.rst hr5 HFN.out.2;have H5:=aa h5;have HG5:=aa (HG4.out.trans (iz.rst hr5 hW4));have HB5:=aa (HB4.out.trans (hr5.below HLO.out (by omega)))
      have hW5:W0<=w5.heap.size:=by have:=hr5.size;omega
      have HC5:=aa (HVA.out w5);clear hr5 h5
      go_wp2_with fail
      refine HC5.out.mono ?_;rintro e w6⟨rfl,hb6⟩;have h6:=H5.out.below hb6;obtain⟨k6,hm6⟩:=h6.rd.rc;have q3:=hm6.cells.2.2.2;have qf3:=hm6.frozen 3;have ql3:=hm6.lt;have HM6:=aa hm6;have H6:=aa h6;have HG6:=aa (HG5.out.trans (iz.of (hb6.mono hW5)));have HB6:=aa (HB5.out.trans (hb6.mono (by omega)))
      have hW6:W0<=w6.heap.size:=by have:=hb6.size;omega
      clear hb6 h6 hm6;have HOR:Hid (∀z,z=(s3.bad || !okb)->({ s3 with bad:=z }:Rf)=sm):=fun z hz=>by rw[HMS.out,hz];rfl
      obtain⟨P,hP⟩ : ∃P,ba p=P:=⟨_,rfl⟩;obtain⟨L,hL⟩ : ∃L,ba l=L:=⟨_,rfl⟩;have hPl:P.data.toList=p:=by rw[<-hP,bp]
      have hLl:L.data.toList=l:=by rw[<-hL,bp]
      have HPL:=aa (bM hP hL);rw[hP,hL];clear hP hL
      go_upto_region 7 with fail
      cases hsb:s3.bad with
      |true =>
       rw[hsb]at q3 HOR
       go_upto_region 9 with fail
       have hr7:=dA.mark HM6.out true;rw[HOR.out true rfl]at hr7;clear q3 qf3 ql3 hsb HOR;generalize w6.setCell ⟨rb,3,none⟩ (.bool true)=w7 at *;have h7:=H6.out.rst hr7 (by rw[HMN.out.1,HFN.out.2,HFN.out.1])
       have HG7:=aa (HG6.out.trans (iz.rst hr7 hW6));have HB7:=aa (HB6.out.trans (hr7.below HLO.out (by omega)))
       have hW7:W0<=w7.heap.size:=by have:=hr7.size;omega
       obtain⟨vD,vA,hbx7,hx7⟩:=h7.at';obtain⟨Ad,cd,rfl,_,_⟩:=aP hx7.rD;obtain⟨Aa,ca,rfl,_,_⟩:=aP hx7.rA;have p6:w7.cell? ⟨xb,6,none⟩=some (.slice Ad x.ds.length cd):=by rw[ai w7 xb 6 _ _ _ hbx7];rfl
       have p7:w7.cell? ⟨xb,7,none⟩=some (.slice Aa x.ats.length ca):=by rw[ai w7 xb 7 _ _ _ hbx7];rfl
       have HX7:=aa hx7;have HBX7:=aa hbx7;have H7:=aa h7;clear hr7 h7 hx7 hbx7;have hxd:x.ds.length<=900000:=by omega
       have hxa:x.ats.length<=900000:=by omega
       by_cases hp:p=iM
       ·have tp:(P.toList == [120,109,108,110,115])=true:=by rw[aq,hPl,hp];rfl
        have hxm:xm={ x with ds:=x.ds++[⟨L,V⟩] }:=by
         rw[HMX.out];unfold fj;rw[am (by rw[hp];simp[iM]),av hp,HPL.out.2]
        have HXM:=aa hxm;clear hp hPl hLl hxm
        go_wp2_with (first
         |(at_builtin;refine ks rfl (.tmp 69) (.tmp 73) rfl W0 (.slice Ad x.ds.length cd) x.ds rfl (HX7.out.rD.alloc _) w7.heap.size ⟨L,V⟩ rfl (ar w7 _) (by omega) (by simp;omega) ?_;intro v1 wa hown hgrow hat;have hka:=(hgrow.block xb (by have:=au HBX7.out;simp;omega) (fun e=>dQ HX7.out.rD HBX7.out (by decide) e.symm)).trans ((((ae w7.heap.size w7).alloc (af _) _).block xb (au HBX7.out)).trans HBX7.out);have kc:wa.cell? ⟨xb,6,none⟩=some (.slice Ad x.ds.length cd):=(by rw[ai wa xb 6 _ _ _ hka];rfl);have kf:wa.frozen? ⟨xb,6,none⟩=false:=(by unfold World.frozen?;rw[hka];simp);have HKA:=aa hka;have HOW:=aa hown;have HGR:=aa hgrow;have HAT:=aa hat;obtain⟨A1,c1,rfl,_,_⟩:=aP hown;clear hka hown hgrow hat p6 p7)
         |fail)
        have HEND:Hid (se (wa.setCell ⟨xb,6,none⟩ (.slice A1 (x.ds.length+1) c1)) B W0 rb xb S sm vn ys xm/\iz W0 rb w (wa.setCell ⟨xb,6,none⟩ (.slice A1 (x.ds.length+1) c1))/\Below B w (wa.setCell ⟨xb,6,none⟩ (.slice A1 (x.ds.length+1) c1))):=by
         have hoth:∀b,b<w7.heap.size->((.slice Ad x.ds.length cd):Value).ownBlock≠some b->wa.heap[b]? = w7.heap[b]?:=fun b hb hne=>by
          rw[HGR.out.block b (by simp;omega) (fun e=>hne e.symm)]
          exact((ae w7.heap.size w7).alloc (af _) _).block b hb
         obtain⟨g1,g2⟩:=ow H7.out.rd HX7.out hoth (by
          rcases HAT.out with h1|h1
          ·exact .inl h1
          ·exact .inr (fun b hb=>by
            rw[h1]at hb;simp only[al]at hb;rw[<-hb];simp)) HOW.out
         have hnode:∀{b0 e q n:Nat} {v:Value} {xs:List Value},e≠42->wa.ownsRow b0 e q v n xs->(wa.setCell ⟨xb,6,none⟩ (.slice A1 (x.ds.length+1) c1)).ownsRow b0 e q v n xs:=fun {b0 e q n v xs} he hh=>aR hh (fun b _ ⟨cs,hc⟩=>ao _ _ _ _ (br hc HKA.out he));have hbw:Below W0 w7 (wa.setCell ⟨xb,6,none⟩ (.slice A1 (x.ds.length+1) c1)):=(((ae W0 w7).alloc hW7 _).grown HGR.out (by simp;omega) (fun q hq=>(HX7.out.rD.lt q hq).1)).setCell (p:=⟨xb,6,none⟩) H7.out.bx _
         refine⟨⟨g1.setNode HKA.out H7.out.nx,H7.out.bx,H7.out.nx,(.slice A1 (x.ds.length+1) c1),(.slice Aa x.ats.length ca),?_,?_⟩,HG7.out.trans (iz.of hbw),HB7.out.trans (hbw.mono hB)⟩
         ·rw[HXM.out,aL HKA.out];rfl
         ·rw[HXM.out];exact⟨hnode (by decide) g2.rD,hnode (by decide) g2.rA,g2.dd,g2.yd,g2.ya⟩
        clear HKA HOW HGR HAT kc kf
        go_roundw
        case rel=>exact⟨n,sm,xm,by have:=HMN.out.2.1;omega,HT.out,HEND.out.1,HEND.out.2.1,HEND.out.2.2,by have:=HMN.out.2.1;have:=HMN.out.2.2;omega⟩
        case measure =>
         obtain⟨k9,hm9⟩:=HEND.out.1.rd.rc;have:=HMN.out.2.1;rw[HPOS.out,eB hm9,<-hm9.len];omega
       ·have tp:(P.toList == [120,109,108,110,115])=false:=by rw[aq,hPl,ak];exact hp
        by_cases hpe:p=[]
        ·have te:(P.toList == [])=true:=by rw[aq,hPl,hpe];rfl
         have te2:P.toList.isEmpty=true:=by rw[aq,hPl,hpe];rfl
         by_cases hl:l=iM
         ·have tl:(L.toList == [120,109,108,110,115])=true:=by rw[aq,hLl,hl];rfl
          have hxm:xm={ x with ds:=x.ds++[⟨⟨#[]⟩,V⟩] }:=by
           rw[HMX.out];unfold fj;rw[av ⟨hpe,hl⟩]
          have HXM:=aa hxm;clear hp hpe hl hPl hLl hxm
          go_wp2_with (first
           |(at_builtin;refine ks rfl (.tmp 88) (.tmp 91) rfl W0 (.slice Ad x.ds.length cd) x.ds rfl (HX7.out.rD.alloc _) w7.heap.size ⟨⟨#[]⟩,V⟩ rfl (ar w7 _) (by omega) (by simp;omega) ?_;intro v1 wa hown hgrow hat;have hka:=(hgrow.block xb (by have:=au HBX7.out;simp;omega) (fun e=>dQ HX7.out.rD HBX7.out (by decide) e.symm)).trans ((((ae w7.heap.size w7).alloc (af _) _).block xb (au HBX7.out)).trans HBX7.out);have kc:wa.cell? ⟨xb,6,none⟩=some (.slice Ad x.ds.length cd):=(by rw[ai wa xb 6 _ _ _ hka];rfl);have kf:wa.frozen? ⟨xb,6,none⟩=false:=(by unfold World.frozen?;rw[hka];simp);have HKA:=aa hka;have HOW:=aa hown;have HGR:=aa hgrow;have HAT:=aa hat;obtain⟨A1,c1,rfl,_,_⟩:=aP hown;clear hka hown hgrow hat p6 p7)
           |fail)
          have HEND:Hid (se (wa.setCell ⟨xb,6,none⟩ (.slice A1 (x.ds.length+1) c1)) B W0 rb xb S sm vn ys xm/\iz W0 rb w (wa.setCell ⟨xb,6,none⟩ (.slice A1 (x.ds.length+1) c1))/\Below B w (wa.setCell ⟨xb,6,none⟩ (.slice A1 (x.ds.length+1) c1))):=by
           have hoth:∀b,b<w7.heap.size->((.slice Ad x.ds.length cd):Value).ownBlock≠some b->wa.heap[b]? = w7.heap[b]?:=fun b hb hne=>by
            rw[HGR.out.block b (by simp;omega) (fun e=>hne e.symm)]
            exact((ae w7.heap.size w7).alloc (af _) _).block b hb
           obtain⟨g1,g2⟩:=ow H7.out.rd HX7.out hoth (by
            rcases HAT.out with h1|h1
            ·exact .inl h1
            ·exact .inr (fun b hb=>by
              rw[h1]at hb;simp only[al]at hb;rw[<-hb];simp)) HOW.out
           have hnode:∀{b0 e q n:Nat} {v:Value} {xs:List Value},e≠42->wa.ownsRow b0 e q v n xs->(wa.setCell ⟨xb,6,none⟩ (.slice A1 (x.ds.length+1) c1)).ownsRow b0 e q v n xs:=fun {b0 e q n v xs} he hh=>aR hh (fun b _ ⟨cs,hc⟩=>ao _ _ _ _ (br hc HKA.out he));have hbw:Below W0 w7 (wa.setCell ⟨xb,6,none⟩ (.slice A1 (x.ds.length+1) c1)):=(((ae W0 w7).alloc hW7 _).grown HGR.out (by simp;omega) (fun q hq=>(HX7.out.rD.lt q hq).1)).setCell (p:=⟨xb,6,none⟩) H7.out.bx _
           refine⟨⟨g1.setNode HKA.out H7.out.nx,H7.out.bx,H7.out.nx,(.slice A1 (x.ds.length+1) c1),(.slice Aa x.ats.length ca),?_,?_⟩,HG7.out.trans (iz.of hbw),HB7.out.trans (hbw.mono hB)⟩
           ·rw[HXM.out,aL HKA.out];rfl
           ·rw[HXM.out];exact⟨hnode (by decide) g2.rD,hnode (by decide) g2.rA,g2.dd,g2.yd,g2.ya⟩
          clear HKA HOW HGR HAT kc kf
          go_roundw
          case rel=>exact⟨n,sm,xm,by have:=HMN.out.2.1;omega,HT.out,HEND.out.1,HEND.out.2.1,HEND.out.2.2,by have:=HMN.out.2.1;have:=HMN.out.2.2;omega⟩
          case measure =>
           obtain⟨k9,hm9⟩:=HEND.out.1.rd.rc;have:=HMN.out.2.1;rw[HPOS.out,eB hm9,<-hm9.len];omega
         ·have tl:(L.toList == [120,109,108,110,115])=false:=by rw[aq,hLl,ak];exact hl
          have hxm:xm={ x with ats:=x.ats++[⟨P,L,⟨#[]⟩,V⟩] }:=by
           rw[HMX.out];unfold fj;rw[am (fun h=>hl h.2),am hp,HPL.out.1,HPL.out.2]
          have HXM:=aa hxm;clear hp hpe hl hPl hLl hxm
          go_wp2_with (first
           |(at_builtin;refine ku rfl (.tmp 53) (.tmp 58) rfl W0 (.slice Aa x.ats.length ca) x.ats rfl (HX7.out.rA.alloc _) w7.heap.size ⟨P,L,⟨#[]⟩,V⟩ rfl (ar w7 _) (by omega) (by simp;omega) ?_;intro v1 wa hown hgrow hat;have hka:=(hgrow.block xb (by have:=au HBX7.out;simp;omega) (fun e=>dQ HX7.out.rA HBX7.out (by decide) e.symm)).trans ((((ae w7.heap.size w7).alloc (af _) _).block xb (au HBX7.out)).trans HBX7.out);have kc:wa.cell? ⟨xb,7,none⟩=some (.slice Aa x.ats.length ca):=(by rw[ai wa xb 7 _ _ _ hka];rfl);have kf:wa.frozen? ⟨xb,7,none⟩=false:=(by unfold World.frozen?;rw[hka];simp);have HKA:=aa hka;have HOW:=aa hown;have HGR:=aa hgrow;have HAT:=aa hat;obtain⟨A1,c1,rfl,_,_⟩:=aP hown;clear hka hown hgrow hat p6 p7)
           |fail)
          have HEND:Hid (se (wa.setCell ⟨xb,7,none⟩ (.slice A1 (x.ats.length+1) c1)) B W0 rb xb S sm vn ys xm/\iz W0 rb w (wa.setCell ⟨xb,7,none⟩ (.slice A1 (x.ats.length+1) c1))/\Below B w (wa.setCell ⟨xb,7,none⟩ (.slice A1 (x.ats.length+1) c1))):=by
           have hoth:∀b,b<w7.heap.size->((.slice Aa x.ats.length ca):Value).ownBlock≠some b->wa.heap[b]? = w7.heap[b]?:=fun b hb hne=>by
            rw[HGR.out.block b (by simp;omega) (fun e=>hne e.symm)]
            exact((ae w7.heap.size w7).alloc (af _) _).block b hb
           obtain⟨g1,g2⟩:=ox H7.out.rd HX7.out hoth (by
            rcases HAT.out with h1|h1
            ·exact .inl h1
            ·exact .inr (fun b hb=>by
              rw[h1]at hb;simp only[al]at hb;rw[<-hb];simp)) HOW.out
           have hnode:∀{b0 e q n:Nat} {v:Value} {xs:List Value},e≠42->wa.ownsRow b0 e q v n xs->(wa.setCell ⟨xb,7,none⟩ (.slice A1 (x.ats.length+1) c1)).ownsRow b0 e q v n xs:=fun {b0 e q n v xs} he hh=>aR hh (fun b _ ⟨cs,hc⟩=>ao _ _ _ _ (br hc HKA.out he));have hbw:Below W0 w7 (wa.setCell ⟨xb,7,none⟩ (.slice A1 (x.ats.length+1) c1)):=(((ae W0 w7).alloc hW7 _).grown HGR.out (by simp;omega) (fun q hq=>(HX7.out.rA.lt q hq).1)).setCell (p:=⟨xb,7,none⟩) H7.out.bx _
           refine⟨⟨g1.setNode HKA.out H7.out.nx,H7.out.bx,H7.out.nx,(.slice Ad x.ds.length cd),(.slice A1 (x.ats.length+1) c1),?_,?_⟩,HG7.out.trans (iz.of hbw),HB7.out.trans (hbw.mono hB)⟩
           ·rw[HXM.out,aL HKA.out];rfl
           ·rw[HXM.out];exact⟨hnode (by decide) g2.rD,hnode (by decide) g2.rA,g2.dd,g2.yd,g2.ya⟩
          clear HKA HOW HGR HAT kc kf
          go_roundw
          case rel=>exact⟨n,sm,xm,by have:=HMN.out.2.1;omega,HT.out,HEND.out.1,HEND.out.2.1,HEND.out.2.2,by have:=HMN.out.2.1;have:=HMN.out.2.2;omega⟩
          case measure =>
           obtain⟨k9,hm9⟩:=HEND.out.1.rd.rc;have:=HMN.out.2.1;rw[HPOS.out,eB hm9,<-hm9.len];omega
        ·have te:(P.toList == [])=false:=by rw[aq,hPl,ak];exact hpe
         have te2:P.toList.isEmpty=false:=by rw[aq,hPl];cases p with|nil=>exact absurd rfl hpe|cons c z=>rfl
         have hxm:xm={ x with ats:=x.ats++[⟨P,L,⟨#[]⟩,V⟩] }:=by
          rw[HMX.out];unfold fj;rw[am (fun h=>hpe h.1),am hp,HPL.out.1,HPL.out.2]
         have HXM:=aa hxm;clear hp hpe hPl hLl hxm
         go_wp2_with (first
          |(at_builtin;refine ku rfl (.tmp 53) (.tmp 58) rfl W0 (.slice Aa x.ats.length ca) x.ats rfl (HX7.out.rA.alloc _) w7.heap.size ⟨P,L,⟨#[]⟩,V⟩ rfl (ar w7 _) (by omega) (by simp;omega) ?_;intro v1 wa hown hgrow hat;have hka:=(hgrow.block xb (by have:=au HBX7.out;simp;omega) (fun e=>dQ HX7.out.rA HBX7.out (by decide) e.symm)).trans ((((ae w7.heap.size w7).alloc (af _) _).block xb (au HBX7.out)).trans HBX7.out);have kc:wa.cell? ⟨xb,7,none⟩=some (.slice Aa x.ats.length ca):=(by rw[ai wa xb 7 _ _ _ hka];rfl);have kf:wa.frozen? ⟨xb,7,none⟩=false:=(by unfold World.frozen?;rw[hka];simp);have HKA:=aa hka;have HOW:=aa hown;have HGR:=aa hgrow;have HAT:=aa hat;obtain⟨A1,c1,rfl,_,_⟩:=aP hown;clear hka hown hgrow hat p6 p7)
          |fail)
         have HEND:Hid (se (wa.setCell ⟨xb,7,none⟩ (.slice A1 (x.ats.length+1) c1)) B W0 rb xb S sm vn ys xm/\iz W0 rb w (wa.setCell ⟨xb,7,none⟩ (.slice A1 (x.ats.length+1) c1))/\Below B w (wa.setCell ⟨xb,7,none⟩ (.slice A1 (x.ats.length+1) c1))):=by
          have hoth:∀b,b<w7.heap.size->((.slice Aa x.ats.length ca):Value).ownBlock≠some b->wa.heap[b]? = w7.heap[b]?:=fun b hb hne=>by
           rw[HGR.out.block b (by simp;omega) (fun e=>hne e.symm)]
           exact((ae w7.heap.size w7).alloc (af _) _).block b hb
          obtain⟨g1,g2⟩:=ox H7.out.rd HX7.out hoth (by
           rcases HAT.out with h1|h1
           ·exact .inl h1
           ·exact .inr (fun b hb=>by
             rw[h1]at hb;simp only[al]at hb;rw[<-hb];simp)) HOW.out
          have hnode:∀{b0 e q n:Nat} {v:Value} {xs:List Value},e≠42->wa.ownsRow b0 e q v n xs->(wa.setCell ⟨xb,7,none⟩ (.slice A1 (x.ats.length+1) c1)).ownsRow b0 e q v n xs:=fun {b0 e q n v xs} he hh=>aR hh (fun b _ ⟨cs,hc⟩=>ao _ _ _ _ (br hc HKA.out he));have hbw:Below W0 w7 (wa.setCell ⟨xb,7,none⟩ (.slice A1 (x.ats.length+1) c1)):=(((ae W0 w7).alloc hW7 _).grown HGR.out (by simp;omega) (fun q hq=>(HX7.out.rA.lt q hq).1)).setCell (p:=⟨xb,7,none⟩) H7.out.bx _
          refine⟨⟨g1.setNode HKA.out H7.out.nx,H7.out.bx,H7.out.nx,(.slice Ad x.ds.length cd),(.slice A1 (x.ats.length+1) c1),?_,?_⟩,HG7.out.trans (iz.of hbw),HB7.out.trans (hbw.mono hB)⟩
          ·rw[HXM.out,aL HKA.out];rfl
          ·rw[HXM.out];exact⟨hnode (by decide) g2.rD,hnode (by decide) g2.rA,g2.dd,g2.yd,g2.ya⟩
         clear HKA HOW HGR HAT kc kf
         go_roundw
         case rel=>exact⟨n,sm,xm,by have:=HMN.out.2.1;omega,HT.out,HEND.out.1,HEND.out.2.1,HEND.out.2.2,by have:=HMN.out.2.1;have:=HMN.out.2.2;omega⟩
         case measure =>
          obtain⟨k9,hm9⟩:=HEND.out.1.rd.rc;have:=HMN.out.2.1;rw[HPOS.out,eB hm9,<-hm9.len];omega
      |false =>
       rw[hsb]at q3 HOR;have hor:(false || !okb) = !okb:=rfl
       go_upto_region 9 with fail
       have hr7:=dA.mark HM6.out (!okb);rw[HOR.out (!okb) rfl]at hr7;clear q3 qf3 ql3 hsb HOR;generalize w6.setCell ⟨rb,3,none⟩ (.bool !okb)=w7 at *;have h7:=H6.out.rst hr7 (by rw[HMN.out.1,HFN.out.2,HFN.out.1])
       have HG7:=aa (HG6.out.trans (iz.rst hr7 hW6));have HB7:=aa (HB6.out.trans (hr7.below HLO.out (by omega)))
       have hW7:W0<=w7.heap.size:=by have:=hr7.size;omega
       obtain⟨vD,vA,hbx7,hx7⟩:=h7.at';obtain⟨Ad,cd,rfl,_,_⟩:=aP hx7.rD;obtain⟨Aa,ca,rfl,_,_⟩:=aP hx7.rA;have p6:w7.cell? ⟨xb,6,none⟩=some (.slice Ad x.ds.length cd):=by rw[ai w7 xb 6 _ _ _ hbx7];rfl
       have p7:w7.cell? ⟨xb,7,none⟩=some (.slice Aa x.ats.length ca):=by rw[ai w7 xb 7 _ _ _ hbx7];rfl
       have HX7:=aa hx7;have HBX7:=aa hbx7;have H7:=aa h7;clear hr7 h7 hx7 hbx7;have hxd:x.ds.length<=900000:=by omega
       have hxa:x.ats.length<=900000:=by omega
       by_cases hp:p=iM
       ·have tp:(P.toList == [120,109,108,110,115])=true:=by rw[aq,hPl,hp];rfl
        have hxm:xm={ x with ds:=x.ds++[⟨L,V⟩] }:=by
         rw[HMX.out];unfold fj;rw[am (by rw[hp];simp[iM]),av hp,HPL.out.2]
        have HXM:=aa hxm;clear hp hPl hLl hxm
        go_wp2_with (first
         |(at_builtin;refine ks rfl (.tmp 69) (.tmp 73) rfl W0 (.slice Ad x.ds.length cd) x.ds rfl (HX7.out.rD.alloc _) w7.heap.size ⟨L,V⟩ rfl (ar w7 _) (by omega) (by simp;omega) ?_;intro v1 wa hown hgrow hat;have hka:=(hgrow.block xb (by have:=au HBX7.out;simp;omega) (fun e=>dQ HX7.out.rD HBX7.out (by decide) e.symm)).trans ((((ae w7.heap.size w7).alloc (af _) _).block xb (au HBX7.out)).trans HBX7.out);have kc:wa.cell? ⟨xb,6,none⟩=some (.slice Ad x.ds.length cd):=(by rw[ai wa xb 6 _ _ _ hka];rfl);have kf:wa.frozen? ⟨xb,6,none⟩=false:=(by unfold World.frozen?;rw[hka];simp);have HKA:=aa hka;have HOW:=aa hown;have HGR:=aa hgrow;have HAT:=aa hat;obtain⟨A1,c1,rfl,_,_⟩:=aP hown;clear hka hown hgrow hat p6 p7)
         |fail)
        have HEND:Hid (se (wa.setCell ⟨xb,6,none⟩ (.slice A1 (x.ds.length+1) c1)) B W0 rb xb S sm vn ys xm/\iz W0 rb w (wa.setCell ⟨xb,6,none⟩ (.slice A1 (x.ds.length+1) c1))/\Below B w (wa.setCell ⟨xb,6,none⟩ (.slice A1 (x.ds.length+1) c1))):=by
         have hoth:∀b,b<w7.heap.size->((.slice Ad x.ds.length cd):Value).ownBlock≠some b->wa.heap[b]? = w7.heap[b]?:=fun b hb hne=>by
          rw[HGR.out.block b (by simp;omega) (fun e=>hne e.symm)]
          exact((ae w7.heap.size w7).alloc (af _) _).block b hb
         obtain⟨g1,g2⟩:=ow H7.out.rd HX7.out hoth (by
          rcases HAT.out with h1|h1
          ·exact .inl h1
          ·exact .inr (fun b hb=>by
            rw[h1]at hb;simp only[al]at hb;rw[<-hb];simp)) HOW.out
         have hnode:∀{b0 e q n:Nat} {v:Value} {xs:List Value},e≠42->wa.ownsRow b0 e q v n xs->(wa.setCell ⟨xb,6,none⟩ (.slice A1 (x.ds.length+1) c1)).ownsRow b0 e q v n xs:=fun {b0 e q n v xs} he hh=>aR hh (fun b _ ⟨cs,hc⟩=>ao _ _ _ _ (br hc HKA.out he));have hbw:Below W0 w7 (wa.setCell ⟨xb,6,none⟩ (.slice A1 (x.ds.length+1) c1)):=(((ae W0 w7).alloc hW7 _).grown HGR.out (by simp;omega) (fun q hq=>(HX7.out.rD.lt q hq).1)).setCell (p:=⟨xb,6,none⟩) H7.out.bx _
         refine⟨⟨g1.setNode HKA.out H7.out.nx,H7.out.bx,H7.out.nx,(.slice A1 (x.ds.length+1) c1),(.slice Aa x.ats.length ca),?_,?_⟩,HG7.out.trans (iz.of hbw),HB7.out.trans (hbw.mono hB)⟩
         ·rw[HXM.out,aL HKA.out];rfl
         ·rw[HXM.out];exact⟨hnode (by decide) g2.rD,hnode (by decide) g2.rA,g2.dd,g2.yd,g2.ya⟩
        clear HKA HOW HGR HAT kc kf
        go_roundw
        case rel=>exact⟨n,sm,xm,by have:=HMN.out.2.1;omega,HT.out,HEND.out.1,HEND.out.2.1,HEND.out.2.2,by have:=HMN.out.2.1;have:=HMN.out.2.2;omega⟩
        case measure =>
         obtain⟨k9,hm9⟩:=HEND.out.1.rd.rc;have:=HMN.out.2.1;rw[HPOS.out,eB hm9,<-hm9.len];omega
       ·have tp:(P.toList == [120,109,108,110,115])=false:=by rw[aq,hPl,ak];exact hp
        by_cases hpe:p=[]
        ·have te:(P.toList == [])=true:=by rw[aq,hPl,hpe];rfl
         have te2:P.toList.isEmpty=true:=by rw[aq,hPl,hpe];rfl
         by_cases hl:l=iM
         ·have tl:(L.toList == [120,109,108,110,115])=true:=by rw[aq,hLl,hl];rfl
          have hxm:xm={ x with ds:=x.ds++[⟨⟨#[]⟩,V⟩] }:=by
           rw[HMX.out];unfold fj;rw[av ⟨hpe,hl⟩]
          have HXM:=aa hxm;clear hp hpe hl hPl hLl hxm
          go_wp2_with (first
           |(at_builtin;refine ks rfl (.tmp 88) (.tmp 91) rfl W0 (.slice Ad x.ds.length cd) x.ds rfl (HX7.out.rD.alloc _) w7.heap.size ⟨⟨#[]⟩,V⟩ rfl (ar w7 _) (by omega) (by simp;omega) ?_;intro v1 wa hown hgrow hat;have hka:=(hgrow.block xb (by have:=au HBX7.out;simp;omega) (fun e=>dQ HX7.out.rD HBX7.out (by decide) e.symm)).trans ((((ae w7.heap.size w7).alloc (af _) _).block xb (au HBX7.out)).trans HBX7.out);have kc:wa.cell? ⟨xb,6,none⟩=some (.slice Ad x.ds.length cd):=(by rw[ai wa xb 6 _ _ _ hka];rfl);have kf:wa.frozen? ⟨xb,6,none⟩=false:=(by unfold World.frozen?;rw[hka];simp);have HKA:=aa hka;have HOW:=aa hown;have HGR:=aa hgrow;have HAT:=aa hat;obtain⟨A1,c1,rfl,_,_⟩:=aP hown;clear hka hown hgrow hat p6 p7)
           |fail)
          have HEND:Hid (se (wa.setCell ⟨xb,6,none⟩ (.slice A1 (x.ds.length+1) c1)) B W0 rb xb S sm vn ys xm/\iz W0 rb w (wa.setCell ⟨xb,6,none⟩ (.slice A1 (x.ds.length+1) c1))/\Below B w (wa.setCell ⟨xb,6,none⟩ (.slice A1 (x.ds.length+1) c1))):=by
           have hoth:∀b,b<w7.heap.size->((.slice Ad x.ds.length cd):Value).ownBlock≠some b->wa.heap[b]? = w7.heap[b]?:=fun b hb hne=>by
            rw[HGR.out.block b (by simp;omega) (fun e=>hne e.symm)]
            exact((ae w7.heap.size w7).alloc (af _) _).block b hb
           obtain⟨g1,g2⟩:=ow H7.out.rd HX7.out hoth (by
            rcases HAT.out with h1|h1
            ·exact .inl h1
            ·exact .inr (fun b hb=>by
              rw[h1]at hb;simp only[al]at hb;rw[<-hb];simp)) HOW.out
           have hnode:∀{b0 e q n:Nat} {v:Value} {xs:List Value},e≠42->wa.ownsRow b0 e q v n xs->(wa.setCell ⟨xb,6,none⟩ (.slice A1 (x.ds.length+1) c1)).ownsRow b0 e q v n xs:=fun {b0 e q n v xs} he hh=>aR hh (fun b _ ⟨cs,hc⟩=>ao _ _ _ _ (br hc HKA.out he));have hbw:Below W0 w7 (wa.setCell ⟨xb,6,none⟩ (.slice A1 (x.ds.length+1) c1)):=(((ae W0 w7).alloc hW7 _).grown HGR.out (by simp;omega) (fun q hq=>(HX7.out.rD.lt q hq).1)).setCell (p:=⟨xb,6,none⟩) H7.out.bx _
           refine⟨⟨g1.setNode HKA.out H7.out.nx,H7.out.bx,H7.out.nx,(.slice A1 (x.ds.length+1) c1),(.slice Aa x.ats.length ca),?_,?_⟩,HG7.out.trans (iz.of hbw),HB7.out.trans (hbw.mono hB)⟩
           ·rw[HXM.out,aL HKA.out];rfl
           ·rw[HXM.out];exact⟨hnode (by decide) g2.rD,hnode (by decide) g2.rA,g2.dd,g2.yd,g2.ya⟩
          clear HKA HOW HGR HAT kc kf
          go_roundw
          case rel=>exact⟨n,sm,xm,by have:=HMN.out.2.1;omega,HT.out,HEND.out.1,HEND.out.2.1,HEND.out.2.2,by have:=HMN.out.2.1;have:=HMN.out.2.2;omega⟩
          case measure =>
           obtain⟨k9,hm9⟩:=HEND.out.1.rd.rc;have:=HMN.out.2.1;rw[HPOS.out,eB hm9,<-hm9.len];omega
         ·have tl:(L.toList == [120,109,108,110,115])=false:=by rw[aq,hLl,ak];exact hl
          have hxm:xm={ x with ats:=x.ats++[⟨P,L,⟨#[]⟩,V⟩] }:=by
           rw[HMX.out];unfold fj;rw[am (fun h=>hl h.2),am hp,HPL.out.1,HPL.out.2]
          have HXM:=aa hxm;clear hp hpe hl hPl hLl hxm
          go_wp2_with (first
           |(at_builtin;refine ku rfl (.tmp 53) (.tmp 58) rfl W0 (.slice Aa x.ats.length ca) x.ats rfl (HX7.out.rA.alloc _) w7.heap.size ⟨P,L,⟨#[]⟩,V⟩ rfl (ar w7 _) (by omega) (by simp;omega) ?_;intro v1 wa hown hgrow hat;have hka:=(hgrow.block xb (by have:=au HBX7.out;simp;omega) (fun e=>dQ HX7.out.rA HBX7.out (by decide) e.symm)).trans ((((ae w7.heap.size w7).alloc (af _) _).block xb (au HBX7.out)).trans HBX7.out);have kc:wa.cell? ⟨xb,7,none⟩=some (.slice Aa x.ats.length ca):=(by rw[ai wa xb 7 _ _ _ hka];rfl);have kf:wa.frozen? ⟨xb,7,none⟩=false:=(by unfold World.frozen?;rw[hka];simp);have HKA:=aa hka;have HOW:=aa hown;have HGR:=aa hgrow;have HAT:=aa hat;obtain⟨A1,c1,rfl,_,_⟩:=aP hown;clear hka hown hgrow hat p6 p7)
           |fail)
          have HEND:Hid (se (wa.setCell ⟨xb,7,none⟩ (.slice A1 (x.ats.length+1) c1)) B W0 rb xb S sm vn ys xm/\iz W0 rb w (wa.setCell ⟨xb,7,none⟩ (.slice A1 (x.ats.length+1) c1))/\Below B w (wa.setCell ⟨xb,7,none⟩ (.slice A1 (x.ats.length+1) c1))):=by
           have hoth:∀b,b<w7.heap.size->((.slice Aa x.ats.length ca):Value).ownBlock≠some b->wa.heap[b]? = w7.heap[b]?:=fun b hb hne=>by
            rw[HGR.out.block b (by simp;omega) (fun e=>hne e.symm)]
            exact((ae w7.heap.size w7).alloc (af _) _).block b hb
           obtain⟨g1,g2⟩:=ox H7.out.rd HX7.out hoth (by
            rcases HAT.out with h1|h1
            ·exact .inl h1
            ·exact .inr (fun b hb=>by
              rw[h1]at hb;simp only[al]at hb;rw[<-hb];simp)) HOW.out
           have hnode:∀{b0 e q n:Nat} {v:Value} {xs:List Value},e≠42->wa.ownsRow b0 e q v n xs->(wa.setCell ⟨xb,7,none⟩ (.slice A1 (x.ats.length+1) c1)).ownsRow b0 e q v n xs:=fun {b0 e q n v xs} he hh=>aR hh (fun b _ ⟨cs,hc⟩=>ao _ _ _ _ (br hc HKA.out he));have hbw:Below W0 w7 (wa.setCell ⟨xb,7,none⟩ (.slice A1 (x.ats.length+1) c1)):=(((ae W0 w7).alloc hW7 _).grown HGR.out (by simp;omega) (fun q hq=>(HX7.out.rA.lt q hq).1)).setCell (p:=⟨xb,7,none⟩) H7.out.bx _
           refine⟨⟨g1.setNode HKA.out H7.out.nx,H7.out.bx,H7.out.nx,(.slice Ad x.ds.length cd),(.slice A1 (x.ats.length+1) c1),?_,?_⟩,HG7.out.trans (iz.of hbw),HB7.out.trans (hbw.mono hB)⟩
           ·rw[HXM.out,aL HKA.out];rfl
           ·rw[HXM.out];exact⟨hnode (by decide) g2.rD,hnode (by decide) g2.rA,g2.dd,g2.yd,g2.ya⟩
          clear HKA HOW HGR HAT kc kf
          go_roundw
          case rel=>exact⟨n,sm,xm,by have:=HMN.out.2.1;omega,HT.out,HEND.out.1,HEND.out.2.1,HEND.out.2.2,by have:=HMN.out.2.1;have:=HMN.out.2.2;omega⟩
          case measure =>
           obtain⟨k9,hm9⟩:=HEND.out.1.rd.rc;have:=HMN.out.2.1;rw[HPOS.out,eB hm9,<-hm9.len];omega
        ·have te:(P.toList == [])=false:=by rw[aq,hPl,ak];exact hpe
         have te2:P.toList.isEmpty=false:=by rw[aq,hPl];cases p with|nil=>exact absurd rfl hpe|cons c z=>rfl
         have hxm:xm={ x with ats:=x.ats++[⟨P,L,⟨#[]⟩,V⟩] }:=by
          rw[HMX.out];unfold fj;rw[am (fun h=>hpe h.1),am hp,HPL.out.1,HPL.out.2]
         have HXM:=aa hxm;clear hp hpe hPl hLl hxm
         go_wp2_with (first
          |(at_builtin;refine ku rfl (.tmp 53) (.tmp 58) rfl W0 (.slice Aa x.ats.length ca) x.ats rfl (HX7.out.rA.alloc _) w7.heap.size ⟨P,L,⟨#[]⟩,V⟩ rfl (ar w7 _) (by omega) (by simp;omega) ?_;intro v1 wa hown hgrow hat;have hka:=(hgrow.block xb (by have:=au HBX7.out;simp;omega) (fun e=>dQ HX7.out.rA HBX7.out (by decide) e.symm)).trans ((((ae w7.heap.size w7).alloc (af _) _).block xb (au HBX7.out)).trans HBX7.out);have kc:wa.cell? ⟨xb,7,none⟩=some (.slice Aa x.ats.length ca):=(by rw[ai wa xb 7 _ _ _ hka];rfl);have kf:wa.frozen? ⟨xb,7,none⟩=false:=(by unfold World.frozen?;rw[hka];simp);have HKA:=aa hka;have HOW:=aa hown;have HGR:=aa hgrow;have HAT:=aa hat;obtain⟨A1,c1,rfl,_,_⟩:=aP hown;clear hka hown hgrow hat p6 p7)
          |fail)
         have HEND:Hid (se (wa.setCell ⟨xb,7,none⟩ (.slice A1 (x.ats.length+1) c1)) B W0 rb xb S sm vn ys xm/\iz W0 rb w (wa.setCell ⟨xb,7,none⟩ (.slice A1 (x.ats.length+1) c1))/\Below B w (wa.setCell ⟨xb,7,none⟩ (.slice A1 (x.ats.length+1) c1))):=by
          have hoth:∀b,b<w7.heap.size->((.slice Aa x.ats.length ca):Value).ownBlock≠some b->wa.heap[b]? = w7.heap[b]?:=fun b hb hne=>by
           rw[HGR.out.block b (by simp;omega) (fun e=>hne e.symm)]
           exact((ae w7.heap.size w7).alloc (af _) _).block b hb
          obtain⟨g1,g2⟩:=ox H7.out.rd HX7.out hoth (by
           rcases HAT.out with h1|h1
           ·exact .inl h1
           ·exact .inr (fun b hb=>by
             rw[h1]at hb;simp only[al]at hb;rw[<-hb];simp)) HOW.out
          have hnode:∀{b0 e q n:Nat} {v:Value} {xs:List Value},e≠42->wa.ownsRow b0 e q v n xs->(wa.setCell ⟨xb,7,none⟩ (.slice A1 (x.ats.length+1) c1)).ownsRow b0 e q v n xs:=fun {b0 e q n v xs} he hh=>aR hh (fun b _ ⟨cs,hc⟩=>ao _ _ _ _ (br hc HKA.out he));have hbw:Below W0 w7 (wa.setCell ⟨xb,7,none⟩ (.slice A1 (x.ats.length+1) c1)):=(((ae W0 w7).alloc hW7 _).grown HGR.out (by simp;omega) (fun q hq=>(HX7.out.rA.lt q hq).1)).setCell (p:=⟨xb,7,none⟩) H7.out.bx _
          refine⟨⟨g1.setNode HKA.out H7.out.nx,H7.out.bx,H7.out.nx,(.slice Ad x.ds.length cd),(.slice A1 (x.ats.length+1) c1),?_,?_⟩,HG7.out.trans (iz.of hbw),HB7.out.trans (hbw.mono hB)⟩
          ·rw[HXM.out,aL HKA.out];rfl
          ·rw[HXM.out];exact⟨hnode (by decide) g2.rD,hnode (by decide) g2.rA,g2.dd,g2.yd,g2.ya⟩
         clear HKA HOW HGR HAT kc kf
         go_roundw
         case rel=>exact⟨n,sm,xm,by have:=HMN.out.2.1;omega,HT.out,HEND.out.1,HEND.out.2.1,HEND.out.2.2,by have:=HMN.out.2.1;have:=HMN.out.2.2;omega⟩
         case measure =>
          obtain⟨k9,hm9⟩:=HEND.out.1.rd.rc;have:=HMN.out.2.1;rw[HPOS.out,eB hm9,<-hm9.len];omega
end Go.Proofs.YteinegfbpfhflaaGreatDoor
