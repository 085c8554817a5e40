/-
  The document's own reader (apostilleref08): its small steps, as plain mathematics. Conditions: none.
  The document's own reader (apostilleref08), as plain mathematics. Conditions: none.
  Small steps of the document's own reader; where a text is cut. Plain mathematics. Conditions: none.
  The document's own reader and the program's: names, texts up to a letter. Plain mathematics. Conditions: none.
  What the program's reader comes to, step by step; what the document's own keeps. Plain mathematics. Conditions: none.
-/
import Derived.Test.YteinegfbpfhflaaGreatDoorM13
import Derived.Test.YteinegfbpfhflaaGreatDoorM08
import Derived.Test.YteinegfbpfhflaaGreatDoorM36
import Derived.Test.YteinegfbpfhflaaGreatDoorM19
namespace Go.Proofs.YteinegfbpfhflaaGreatDoor
open Go.RowKit
set_option linter.unusedVariables false
theorem xe{s:List UInt8}{l l':List Int}{x x':List UInt8}(h:mR s l x)(h':mR s l' x'):l=l':=by
 obtain⟨d,e⟩:=mR.most (c:=[]) (a:=l) (b:=l') (x:=x) (y:=x') (by simpa using h.ok) (by simpa using h'.ok) (by rw[<-h.eq,h'.eq]) (by simpa using h.stop)
 obtain⟨d',e'⟩:=mR.most (c:=[]) (a:=l') (b:=l) (x:=x') (y:=x) (by simpa using h'.ok) (by simpa using h.ok) (by rw[<-h'.eq,h.eq]) (by simpa using h'.stop)
 have h1:=congrArg List.length e;have h2:=congrArg List.length e';rw[aj]at h1 h2;have:d=[]:=aD (by omega)
 rw[e,this,bo]
open Classical in
noncomputable def qC(s:List UInt8):List UInt8:=if h:∃l x,mR s l x then bg h.choose else[]
theorem mh{s:List UInt8}{l:List Int}{x:List UInt8}(h:mR s l x):qC s=bg l:=by
 have hx:∃l x,mR s l x:=⟨l,x,h⟩;unfold qC;rw[dif_pos hx];obtain⟨y,hy⟩:=hx.choose_spec;rw[xe hy h]
theorem vf(s:List UInt8):∃x,s=qC s++x:=by
 by_cases h:∃l x,mR s l x
 ·obtain⟨l,x,h⟩:=h
  exact⟨x,by rw[mh h];exact h.eq⟩
 ·refine⟨s,?_⟩
  unfold qC;rw[dif_neg h];rfl
theorem mi(s:List UInt8):(qC s).length<=s.length:=by
 obtain⟨x,h⟩:=vf s;have:=congrArg List.length h;rw[aj]at this;omega
structure Rf where
 rest:List UInt8
 ns:List Nd
 bad:Bool
def Rf.to(s:Rf)(r:List UInt8):Rf:={ s with rest:=r }
def Rf.or(s:Rf)(b:Bool):Rf:={ s with bad:=s.bad||b }
def Rf.fail(s:Rf):Rf:={ s with bad:=true }
def Rf.add(s:Rf)(x:Nd):Rf:={ s with ns:=s.ns++[x] }
def bX(p:List UInt8)(s:Rf):Bool:=(aH p s.rest).isSome
def bI(p:List UInt8)(s:Rf):Rf:=match aH p s.rest with
 |some r=>s.to r
 |none=>s.fail
def cR(t:List UInt8)(s:Rf):List UInt8×Rf:=match cW t s.rest with
 |some (p,r)=>(p,s.to r)
 |none=>([],s.fail)
def bG(s:Rf):Rf:=s.to (aI s.rest)
def fN(s:Rf):Nat:=s.rest.length-(aI s.rest).length
noncomputable def iR(s:Rf):List UInt8:=qC s.rest
noncomputable def dR(s:Rf):Rf:=(s.to (s.rest.drop (qC s.rest).length)).or (decide (qC s.rest=[]))
noncomputable def cQ(s:Rf):(List UInt8×List UInt8)×Rf:=match aH [58] (dR s).rest with
 |some r=>((iR s,iR ((dR s).to r)),dR ((dR s).to r))
 |none=>(([],iR s),dR s)
def dq(s:Rf):List UInt8×Rf:=match aH [39] (bG (bI [61] (bG s))).rest with
 |some r=>cR [39] ((bG (bI [61] (bG s))).to r)
 |none=>match aH [34] (bG (bI [61] (bG s))).rest with
  |some r=>cR [34] ((bG (bI [61] (bG s))).to r)
  |none=>([],(bG (bI [61] (bG s))).fail)
def ea(key:List UInt8)(s:Rf):Option (List UInt8)×Rf :=
 if fN s=0∨bX key (bG s)=false then(none,s)else(some (dq (bI key (bG s))).1,(dq (bI key (bG s))).2)
def zN(c:UInt8):UInt8:=if 65<=c.toNat/\c.toNat<=90 then c+32 else c
def jW(s:List UInt8):List UInt8:=s.map zN
def lH(s:Rf):Rf:=(ea gp s).2.or (match (ea gp s).1 with|some v=>decide (v≠[49,46,48])|none=>true)
def lf(s:Rf):Rf:=(ea eb s).2.or (match (ea eb s).1 with|some v=>decide (jW v≠[117,116,102,45,56])|none=>false)
def ld(s:Rf):Rf:=(ea fc s).2.or (match (ea fc s).1 with|some v=>decide (v≠[121,101,115])&&decide (v≠[110,111])|none=>false)
def it(s:List UInt8):Bool:=match aH [60,63,120,109,108] s with
 |some (c::_)=>fq c
 |_=>false
def gZ(s:Rf):Rf:=if it s.rest=true then bI [63,62] (bG (ld (lf (lH (bI [60,63,120,109,108] s)))))else s
def fM(n:Int)(s:Rf):Rf:=(cR [45,45,62] (bI [60,33,45,45] s)).2.add ⟨3,n,⟨#[]⟩,⟨#[]⟩,⟨#[]⟩,ba (cR [45,45,62] (bI [60,33,45,45] s)).1,[],[]⟩
def gq(s:Rf):Rf:=if bX [63,62] s=true then s else(bG s).or (decide (fN s=0))
noncomputable def fm(n:Int)(s:Rf):Rf :=
 (cR [63,62] (gq (dR (bI [60,63] s)))).2.add ⟨4,n,⟨#[]⟩,ba (iR (bI [60,63] s)),⟨#[]⟩,ba (cR [63,62] (gq (dR (bI [60,63] s)))).1,[],[]⟩
noncomputable def iB:Nat->Rf->Rf
 |0,s=>s
 |k+1,s=>if s.bad=true then s else
  if bX [60,33,45,45] (bG s)=true then iB k (fM 0 (bG s))
  else if bX [60,63] (bG s)=true then iB k (fm 0 (bG s))
  else bG s
noncomputable def iT(s:Rf)(x:Nd):Nd:=fj x (cQ s).1.1 (cQ s).1.2 (ba ((fA (dq (cQ s).2).1).getD []))
noncomputable def lx(s:Rf):Rf:=(dq (cQ s).2).2.or (fA (dq (cQ s).2).1).isNone
noncomputable def fy:Nat->Rf->Nd->Rf×Nd
 |0,s,x=>(s,x)
 |k+1,s,x=>if s.bad=true then(s,x)else
  if(bX [62] (bG s)||bX [47,62] (bG s))=true then(bG s,x)
  else if fN s=0 then((bG s).fail,x)
  else fy k (lx (bG s)) (iT (bG s) x)
noncomputable def BA(l:List Nd)(n:Nat)(a:At):At:=if a.p.data.toList=[]then a else { a with u:=(ck l n a.p).1 }
noncomputable def d8(l:List Nd)(x:Nd):Nd:={ x with u:=(ck (l++[x]) l.length x.p).1,ats:=x.ats.map (BA (l++[x]) l.length) }
def cP(n:Int)(t:List UInt8)(s:Rf):Rf:=if t=[]then s else s.add ⟨2,n,⟨#[]⟩,⟨#[]⟩,⟨#[]⟩,ba t,[],[]⟩
noncomputable def da(E:Int->Rf->Rf):Nat->Int->List UInt8->Rf->Rf
 |0,n,t,s=>cP n t s
 |k+1,n,t,s=>if s.bad=true∨s.rest=[]∨bX [60,47] s=true then cP n t s else
  if bX [60,33,91,67,68,65,84,65,91] s=true then da E k n (t++(cR [93,93,62] (bI [60,33,91,67,68,65,84,65,91] s)).1) (cR [93,93,62] (bI [60,33,91,67,68,65,84,65,91] s)).2
  else if bX [60] s=false then da E k n (t++(cT (cE [60] s.rest)).getD []) ((s.to (c9 [60] s.rest)).or (cT (cE [60] s.rest)).isNone)
  else if bX [60,33,45,45] s=true then da E k n [] (fM n (cP n t s))
  else if bX [60,63] s=true then da E k n [] (fm n (cP n t s))
  else da E k n [] (E n (cP n t s))
noncomputable def fg(s:Rf):(List UInt8×List UInt8)×Rf:=cQ (bI [60] s)
noncomputable def bZ(n:Int)(s:Rf):Rf×Nd:=fy ((fg s).2.rest.length+1) (fg s).2 ⟨1,n,ba (fg s).1.1,ba (fg s).1.2,⟨#[]⟩,⟨#[]⟩,[],[]⟩
noncomputable def qF(pl:List UInt8×List UInt8)(s:Rf):Rf:=(bI [62] (bG (cQ (bI [60,47] s)).2)).or (decide ((cQ (bI [60,47] s)).1≠pl))
noncomputable def dj:Nat->Int->Rf->Rf
 |0,n,s=>s
 |f+1,n,s =>
  if(bZ n s).1.bad=true then(bZ n s).1.add (bZ n s).2 else
  if bX [47,62] (bZ n s).1=true then bI [47,62] ((bZ n s).1.add (d8 (bZ n s).1.ns (bZ n s).2))
  else qF (fg s).1 (da (dj f) ((bZ n s).1.rest.length+1) ((bZ n s).1.ns.length:Nat) [] (bI [62] ((bZ n s).1.add (d8 (bZ n s).1.ns (bZ n s).2))))
def fR(s:List UInt8):Rf:=⟨s,[cM],false⟩
noncomputable def ik(s:List UInt8):Rf:=iB (s.length+1) (gZ (fR s))
noncomputable def fB(s:List UInt8):Rf:=if(ik s).bad=true then ik s else dj (s.length+1) 0 (ik s)
noncomputable def gx(s:List UInt8):Rf:=if(fB s).bad=true then fB s else iB (s.length+1) (fB s)
noncomputable def lc(s:List UInt8):Option (List Nd):=if(gx s).bad=true∨(gx s).rest≠[]then none else some (gx s).ns
theorem cY(s:Rf):s.or false=s:=by cases s;simp[Rf.or]
theorem Ku(s:Rf):s.or true=s.fail:=by cases s;simp[Rf.or,Rf.fail]
theorem iQ{s:Rf}(h:s.bad=true)(b:Bool):(s.or b).bad=true:=by simp[Rf.or,h]
theorem kK(c:UInt8)(s:List UInt8):aH [c] (c::s)=some s:=by simp[aH]
theorem gI{c d:UInt8}(h:c≠d)(s:List UInt8):aH [c] (d::s)=none:=by simp[aH,h]
theorem i8(c:UInt8)(p:List UInt8):aH (c::p) []=none:=by simp[aH]
theorem dm{p:List UInt8}{s:Rf}{r:List UInt8}(h:aH p s.rest=some r):bI p s=s.to r:=by unfold bI;rw[h]
theorem fa{p:List UInt8}{s:Rf}(h:aH p s.rest=none):bI p s=s.fail:=by unfold bI;rw[h]
theorem gG{t:List UInt8}{s:Rf}{p r:List UInt8}(h:cW t s.rest=some (p,r)):cR t s=(p,s.to r):=by unfold cR;rw[h]
theorem ij{t:List UInt8}{s:Rf}(h:cW t s.rest=none):cR t s=([],s.fail):=by unfold cR;rw[h]
theorem sx{p:List UInt8}{s:Rf}:bX p s=true↔∃r,aH p s.rest=some r:=by
 unfold bX;rw[Option.isSome_iff_exists]
theorem ek{p:List UInt8}{s:Rf}(h:aH p s.rest=none):bX p s=false:=by unfold bX;rw[h];rfl
theorem dw{p:List UInt8}{s:Rf}{r:List UInt8}(h:aH p s.rest=some r):bX p s=true:=by unfold bX;rw[h];rfl
theorem kq(t:List UInt8)(c:UInt8)(l:List UInt8):cW t (c::l)=if t.isPrefixOf (c::l)=true then some ([],(c::l).drop t.length)else(cW t l).map fun q=>(c::q.1,q.2):=by
 have hge:=Lib.index_ge l t;unfold cW;rw[Lib.index]
 split
 ·next h=>rw[av (Int.le_refl 0)];simp
 ·next h =>
  split
  ·next h2 =>
   rw[bc]at h2;rw[am (by omega),am (by omega)];rfl
  ·next h2 =>
   rw[bc]at h2;rw[av (by omega),av (by omega)]
   obtain⟨n,hn⟩ : ∃n:Nat,Lib.index l t=n:=⟨(Lib.index l t).toNat,by omega⟩
   rw[hn];have e1:((n:Int)+1).toNat=n+1:=by omega
   have e2:(n:Int).toNat=n:=by omega
   rw[e1,e2];simp only[Option.map_some,List.take_succ_cons];rw[show n+1+t.length=(n+t.length)+1 by omega,List.drop_succ_cons]
theorem FD(c:UInt8)(t:List UInt8):cW (c::t) []=none:=by
 have:Lib.index [] (c::t) = -1:=by rw[Lib.index];rfl
 unfold cW;rw[this,am (by omega)]
theorem oH{c:UInt8}{t:List UInt8}:∀{a:List UInt8} (h:c∉a) (x:List UInt8),cW (c::t) (a++x)=(cW (c::t) x).map fun q=>(a++q.1,q.2)
 | [],_,x=>by cases h:cW (c::t) ([]++x)<;>(rw[aE]at h;rw[h];rfl)
 |d::a,h,x=>by
  have hd:¬(c::t).isPrefixOf (d::a++x)=true:=by
   rw[aA,List.isPrefixOf_cons_cons,aO,bc];rintro⟨rfl,_⟩;exact h List.mem_cons_self
  rw[aA,kq,am (by rw[<-aA];exact hd),oH (fun hm=>h (List.mem_cons_of_mem _ hm)) x,Option.map_map]
  rfl
theorem ib{p s r:List UInt8}(h:aH p s=some r):s.length=p.length+r.length:=by rw[cH h,aj]
theorem Cs:∀(m:Nat) (s:List UInt8) (l:List Int) (x:List UInt8),x.length<=m->s=bg l++x->oq l=true->∃l' x',mR s l' x':=fun m=>by
 induction m with
 |zero =>
  intro s l x hm he hn;refine⟨l,x,he,hn,fun r z hr hx => ?_⟩;have hp:=dY r;have hl:=congrArg List.length hx;rw[aj]at hl;omega
 |succ m ih =>
  intro s l x hm he hn;by_cases h:∃r z,eA r=true/\x=bD r++z/\lB l r=true
  ·obtain⟨r,z,hr,hx,hg⟩:=h
   have hp:=dY r;have hl:=congrArg List.length hx;rw[aj]at hl;exact ih s (l++[r]) z (by omega) (by rw[de,he,hx,List.append_assoc];simp[bg]) (by rw[pJ,hn,hg];rfl)
  ·refine⟨l,x,he,hn,fun r z hr hx => ?_⟩
   cases hg:lB l r with
   |false=>rfl
   |true=>exact absurd ⟨r,z,hr,hx,hg⟩ h
theorem jA(s:List UInt8):∃l x,mR s l x:=Cs s.length s [] s (af _) rfl rfl
def Hp(c:UInt8):Prop:=c.toNat<128/\fK (c.toNat:Int)=false
theorem om{c:UInt8}(h:Hp c){l:List Int}(hl:oq l=true):c∉bg l:=fun hc=>by
 simp only[bg,List.mem_flatMap]at hc;obtain⟨r,hr,hc⟩:=hc;have hs:=td hl r hr;obtain⟨_,e⟩:=vQ (su hs) hc h.1;rw[e,h.2]at hs;cases hs
theorem uV:∀c∈bd,Hp c:=fun c hc=>by
 simp only[bd,aU,bE,or_false]at hc;rcases hc with rfl|rfl|rfl|rfl|rfl|rfl<;>exact⟨by decide,by decide⟩
theorem Ab:∀c∈([32,9,10] : List UInt8),Hp c:=fun c hc=>by
 simp only[aU,bE,or_false]at hc;rcases hc with rfl|rfl|rfl<;>exact⟨by decide,by decide⟩
theorem jU{e a:List UInt8}(h:∀c∈a,c∉e)(x:List UInt8):cE e (a++x)=a++cE e x/\c9 e (a++x)=c9 e x:=by
 have h1:∀c∈a,(!e.contains c)=true:=fun c hc=>by simpa using h c hc
 exact⟨List.takeWhile_append_of_pos h1,List.dropWhile_append_of_pos h1⟩
theorem kH(e s:List UInt8):cE e s++c9 e s=s:=List.takeWhile_append_dropWhile
theorem B0{e s:List UInt8}{c:UInt8}(h:c∈cE e s):c∉e:=by
 have:=List.all_takeWhile (p:=fun c => !e.contains c) (l:=s);rw[bK]at this;simpa using this c h
theorem Cq{e s x:List UInt8}{n:List Int}(he:∀c∈e,Hp c)(h:mR s n x):cE e s=bg n++cE e x/\c9 e s=c9 e x/\mR (cE e s) n (cE e x):=by
 have hno:∀c∈bg n,c∉e:=fun c hc hce=>om (he c hce) h.ok hc;obtain⟨h1,h2⟩:=jU hno x;rw[<-h.eq]at h1 h2;refine⟨h1,h2,h1,h.ok,fun r z hr hz=>h.stop r (z++c9 e x) hr ?_⟩;rw[<-List.append_assoc,<-hz,kH]
theorem ot{s:Rf}(h:s.bad=true):(dR s).bad=true:=iQ h _
theorem tu{s:Rf}(h:s.bad=true):(cQ s).2.bad=true:=by
 unfold cQ
 split
 ·exact ot (ot h)
 ·exact ot h
theorem vy{s:Rf}(h:(dR s).bad=true):(cQ s).2.bad=true:=by
 unfold cQ
 split
 ·exact ot h
 ·exact h
theorem lZ{s:Rf}{n:List Int}{x:List UInt8}(h:mR s.rest n x)(hn:n≠[]):dR s=s.to x/\iR s=bg n:=by
 have e:=mh h
 have hd:s.rest.drop (qC s.rest).length=x:=by
  rw[e]
  conv=>lhs;rw[h.eq]
  rw[List.drop_left]
 refine⟨?_,e⟩;unfold dR;rw[hd,ap (by rw[e];exact fun h0=>hn (nu h0)),cY]
theorem l7{s:Rf}{x:List UInt8}(h:mR s.rest [] x):(dR s).bad=true:=by
 have e:=mh h;unfold dR;rw[ax (by rw[e];rfl),Ku];rfl
theorem pW(s:Rf):(∀p l,dL (cE bd s.rest)=some (p,l)->cQ s=((p,l),s.to (c9 bd s.rest))) /\
 (dL (cE bd s.rest)=none->(cQ s).2.bad=true∨∃c z,(cQ s).2.rest=c::z/\c∈s.rest/\c∉bd):=by
 obtain⟨n,x,hr⟩:=jA s.rest;obtain⟨h1,h2,hT⟩:=Cq uV hr
 have hsp:∀p l,dL (cE bd s.rest)=some (p,l)↔lh (cE bd s.rest) p l:=fun p l=>by
  constructor
  ·intro h
   unfold dL at h
   split at h
   ·next hx =>
    simp only[al]at h;have:=hx.choose_spec;rw[h]at this;exact this
   ·cases h
  ·exact iE
 have hno:∀{p l},lh (cE bd s.rest) p l->dL (cE bd s.rest)=none->False:=fun h h0=>by
  rw[iE h]at h0;cases h0
 have hmem:∀c,c∈x->c∈s.rest:=fun c hc=>by rw[hr.eq];exact List.mem_append_right _ hc
 by_cases hn:n=[]
 ·subst hn
  have hb:=l7 hr;refine⟨fun p l h => ?_,fun _ => .inl (vy hb)⟩;exact absurd rfl ((hT.full p l).1 ((hsp p l).1 h)).1
 obtain⟨e1,e2⟩:=lZ hr hn;cases hx:x with
 |nil =>
  rw[hx]at hT h1 h2 e1;have hc:aH [58] (dR s).rest=none:=by rw[e1];exact i8 _ _
  have hf:cQ s=(([],iR s),dR s):=by unfold cQ;rw[hc]
  refine⟨fun p l h => ?_,fun h => ?_⟩
  ·rcases((hT.full p l).1 ((hsp p l).1 h)).2 with⟨_,hp,hl⟩|⟨b,hb,_⟩
   ·rw[hf,e2,e1,hp,hl,h2,h1];simp[cE,c9]
   ·simp[cE]at hb
  ·exact(hno ((hT.full [] _).2 ⟨hn,.inl ⟨rfl,rfl,rfl⟩⟩) h).elim
 |cons c z =>
  rw[hx]at hT h1 h2 e1 hmem;by_cases hc:c=58
  ·subst hc
   have hu:cE bd (58::z)=58::cE bd z:=by unfold cE;rw[List.takeWhile_cons_of_pos (by decide)]
   have hub:c9 bd (58::z)=c9 bd z:=by unfold c9;rw[List.dropWhile_cons_of_pos (by decide)]
   rw[hu]at hT h1;rw[hub]at h2;have hp:aH [58] (dR s).rest=some z:=by rw[e1];exact kK _ _
   have hf:cQ s=((iR s,iR ((dR s).to z)),dR ((dR s).to z)):=by unfold cQ;rw[hp]
   obtain⟨n2,x2,hr2⟩:=jA z;obtain⟨k1,k2,hT2⟩:=Cq uV hr2;by_cases hn2:n2=[]
   ·subst hn2
    have hb:=l7 (s:=(dR s).to z) hr2;refine⟨fun p l h => ?_,fun _ => .inl (by rw[hf];exact hb)⟩
    rcases((hT.full p l).1 ((hsp p l).1 h)).2 with⟨h0,_⟩|⟨b,hb,hnb,_⟩
    ·cases h0
    ·injection hb with _ hb
     rw[<-hb]at hnb;exact absurd rfl (hT2.is.1 hnb).1
   obtain⟨f1,f2⟩:=lZ (s:=(dR s).to z) hr2 hn2;cases hx2:cE bd x2 with
   |nil =>
    rw[hx2]at hT2 k1;refine⟨fun p l h => ?_,fun h => ?_⟩
    ·rcases((hT.full p l).1 ((hsp p l).1 h)).2 with⟨h0,_⟩|⟨b,hb,hnb,hp,hl⟩
     ·cases h0
     ·injection hb with _ hb
      have hxB:x2=c9 bd s.rest:=by
       rw[h2,k2];have:=kH bd x2;rw[hx2]at this;exact this.symm
      rw[hf,e2,f2,f1,hp,hl,<-hb,k1,bo,<-hxB,e1];rfl
    ·exact(hno ((hT.full (bg n) (cE bd z)).2 ⟨hn,.inr ⟨_,rfl,hT2.is.2 ⟨hn2,rfl⟩,rfl,rfl⟩⟩) h).elim
   |cons c2 z2 =>
    rw[hx2]at hT2;refine⟨fun p l h => ?_,fun _ => .inr ?_⟩
    ·rcases((hT.full p l).1 ((hsp p l).1 h)).2 with⟨h0,_⟩|⟨b,hb,hnb,_⟩
     ·cases h0
     ·injection hb with _ hb
      rw[<-hb]at hnb;exact absurd (hT2.is.1 hnb).2 (by simp)
    ·have hj:=kH bd x2
     rw[hx2,aA]at hj;refine⟨c2,z2++c9 bd x2,by rw[hf,f1];exact hj.symm,hmem _ (List.mem_cons_of_mem _ ?_),B0 (by rw[hx2];exact List.mem_cons_self)⟩
     rw[hr2.eq,<-hj];simp
  ·have hp:aH [58] (dR s).rest=none:=by rw[e1];exact gI (Ne.symm hc) _
   have hf:cQ s=(([],iR s),dR s):=by unfold cQ;rw[hp]
   by_cases hce:c∈bd
   ·have hu:cE bd (c::z)=[]:=by unfold cE;rw[List.takeWhile_cons_of_neg (by simpa using hce)]
    have hub:c9 bd (c::z)=c::z:=by unfold c9;rw[List.dropWhile_cons_of_neg (by simpa using hce)]
    rw[hu]at hT h1;rw[hub]at h2;refine⟨fun p l h => ?_,fun h => ?_⟩
    ·rcases((hT.full p l).1 ((hsp p l).1 h)).2 with⟨_,hp,hl⟩|⟨b,hb,_⟩
     ·rw[hf,e2,e1,hp,hl,h2,h1,bo]
     ·cases hb
    ·exact(hno ((hT.full [] _).2 ⟨hn,.inl ⟨rfl,rfl,rfl⟩⟩) h).elim
   ·have hu:cE bd (c::z)=c::cE bd z:=by unfold cE;rw[List.takeWhile_cons_of_pos (by simpa using hce)]
    rw[hu]at hT;refine⟨fun p l h => ?_,fun _ => .inr ⟨c,z,by rw[hf,e1];rfl,hmem _ List.mem_cons_self,hce⟩⟩
    rcases((hT.full p l).1 ((hsp p l).1 h)).2 with⟨h0,_⟩|⟨b,hb,_⟩
    ·cases h0
    ·injection hb with hb _
     exact absurd hb hc
theorem pL{st st':Rd}{fr:List Po}{o:Po}(ho:st.op=fr++[o])(hr:st.rest≠[])(hn:dC st fr o=some st'):st'.rest.length<st.rest.length:=by
 have go:∀{m:Nat} {r:List UInt8},st.rest.length=m+r.length->1<=m->mS { st with rest:=r } st' 1->st'.rest.length<st.rest.length:=fun {m r} hl hm hg=>by
  have hr:=hg.r;dsimp only at hr;omega
 unfold dC at hn;cases h1:aH [60,33,45,45] st.rest with
 |some r=>rw[h1]at hn;exact go (cI h1) (by simp) (rX hn)
 |none =>
 rw[h1]at hn;dsimp only at hn;cases h2:aH [60,33,91,67,68,65,84,65,91] st.rest with
 |some r=>rw[h2]at hn;exact go (cI h2) (by simp) (rU hn)
 |none =>
 rw[h2]at hn;dsimp only at hn;cases h3:aH [60,63] st.rest with
 |some r=>rw[h3]at hn;exact go (cI h3) (by simp) (rv hn)
 |none =>
 rw[h3]at hn;dsimp only at hn;cases h4:aH [60,47] st.rest with
 |some r=>rw[h4]at hn;exact go (cI h4) (by simp) (qb (st:={ st with rest:=r }) ho hn)
 |none =>
 rw[h4]at hn;dsimp only at hn;cases h5:aH [60] st.rest with
 |some r=>rw[h5]at hn;exact go (cI h5) (by simp) (qU hn)
 |none =>
 rw[h5]at hn;dsimp only at hn;obtain⟨hg,he⟩:=rh hn;rw[he];cases hs:st.rest with
 |nil=>exact absurd hs hr
 |cons c s =>
  rw[hs]at h5
  have hc:c≠60:=by
   rintro rfl;simp[aH,List.isPrefixOf]at h5
  have hw:c9 [60] (c::s)=c9 [60] s:=by
   unfold c9;rw[List.dropWhile_cons_of_pos (by simp;exact hc)]
  rw[hw];have:=gM [60] s;rw[az];omega
theorem mu(st:Rd)(o:Po):st.ns <+: (ed st o).ns:=ce _ _
theorem mO(st:Rd)(o:Po)(x:Nd):st.ns <+: (iw st o x).ns:=(mu st o).trans (ce _ _)
theorem ur(full:List UInt8)(o:Po):∀(n:Nat) (st st':Rd) (x:Nd),lr full o n st x=some st'->st.ns <+: st'.ns
 |0,st,st',x,h=>by cases h
 |n+1,st,st',x,h=>by
  rw[lr]at h;cases h1:aH [62] (aI st.rest)with
  |some r =>
   rw[h1]at h;simp only[al]at h;subst h;exact mO { st with rest:=r,ds:=st.ds++x.ds } o _
  |none =>
   rw[h1]at h;dsimp only at h;cases h2:aH [47,62] (aI st.rest)with
   |some r =>
    rw[h2]at h;simp only[al]at h;subst h;exact(mO { st with rest:=r,ds:=st.ds++x.ds } o _).trans (mu _ _)
   |none =>
    rw[h2]at h;dsimp only at h
    split at h
    ·cases hm:eV (aI st.rest) x with
     |none=>rw[hm]at h;cases h
     |some q =>
      obtain⟨r,x'⟩:=q;rw[hm]at h;exact ur full o n { st with rest:=r } st' x' h
    ·cases h
theorem CM{st st':Rd}{fr:List Po}{o:Po}(hn:dC st fr o=some st'):st.ns <+: st'.ns:=by
 unfold dC at hn;cases h1:aH [60,33,45,45] st.rest with
 |some r =>
  rw[h1]at hn;dsimp only[mG]at hn
  split at hn
  ·cases hn
  ·simp only[al]at hn
   subst hn;exact mO _ _ _
 |none =>
 rw[h1]at hn;dsimp only at hn;cases h2:aH [60,33,91,67,68,65,84,65,91] st.rest with
 |some r =>
  rw[h2]at hn;dsimp only[nB]at hn
  split at hn
  ·cases hn
  ·split at hn
   ·cases hn
   ·simp only[al]at hn
    subst hn;exact List.prefix_refl _
 |none =>
 rw[h2]at hn;dsimp only at hn;cases h3:aH [60,63] st.rest with
 |some r =>
  rw[h3]at hn;dsimp only[kh]at hn
  split at hn
  ·cases hn
  ·simp only[al]at hn
   subst hn;exact mO _ _ _
 |none =>
 rw[h3]at hn;dsimp only at hn;cases h4:aH [60,47] st.rest with
 |some r =>
  rw[h4]at hn;dsimp only[gd]at hn
  split at hn
  ·cases hn
  ·split at hn
   ·cases hn
   ·split at hn
    ·cases hn
    ·simp only[al]at hn
     subst hn;exact mu _ _
 |none =>
 rw[h4]at hn;dsimp only at hn;cases h5:aH [60] st.rest with
 |some r =>
  rw[h5]at hn;dsimp only[lq]at hn
  split at hn
  ·cases hn
  ·exact ur _ _ _ { st with rest:=c9 bd r } st' _ hn
 |none =>
 rw[h5]at hn;dsimp only[lS]at hn
 split at hn
 ·split at hn
  ·simp only[al]at hn
   subst hn;exact List.prefix_refl _
  ·cases hn
 ·split at hn
  ·cases hn
  ·simp only[al]at hn
   subst hn;exact List.prefix_refl _
theorem q9:∀(n m:Nat) (st:Rd),st.rest.length<n->st.rest.length<m->fC n st=fC m st
 |0,_,_,h,_=>by omega
 |_,0,_,_,h=>by omega
 |n+1,m+1,st,h1,h2=>by
  rw[fC,fC];by_cases hr:st.rest=[]
  ·rw[av hr,av hr]
  ·rw[am hr,am hr]
   cases hl:st.op.getLast? with
   |none=>rfl
   |some o =>
    dsimp only
    have ho:st.op=st.op.dropLast++[o]:=by
     obtain⟨ys,e⟩:=List.getLast?_eq_some_iff.1 hl;rw[e];simp
    cases hn:dC st st.op.dropLast o with
    |none=>rfl
    |some st' =>
     dsimp only;have:=pL ho hr hn;exact q9 n m st' (by omega) (by omega)
noncomputable def fD(st:Rd):Option (List Nd):=fC (st.rest.length+1) st
theorem Gz{n:Nat}{st:Rd}(h:st.rest.length<n):fC n st=fD st:=q9 _ _ _ h (Nat.lt_succ_self _)
theorem uS{st:Rd}{fr:List Po}{o:Po}(ho:st.op=fr++[o]):st.op.getLast? = some o/\st.op.dropLast=fr:=by rw[ho];simp
theorem eU{st st':Rd}{fr:List Po}{o:Po}(ho:st.op=fr++[o])(hr:st.rest≠[])(hn:dC st fr o=some st'):fD st=fD st':=by
 obtain⟨h1,h2⟩:=uS ho;unfold fD;rw[fC,am hr,h1,h2];dsimp only;rw[hn];exact Gz (pL ho hr hn)
theorem eu{st:Rd}{fr:List Po}{o:Po}(ho:st.op=fr++[o])(hr:st.rest≠[])(hn:dC st fr o=none):fD st=none:=by
 obtain⟨h1,h2⟩:=uS ho;unfold fD;rw[fC,am hr,h1,h2];dsimp only;rw[hn]
theorem sR{st:Rd}(hr:st.rest=[]):fD st=if st.op.length=1 then some st.ns else none:=by
 unfold fD;rw[fC,av hr]
theorem uM:∀(n:Nat) (st:Rd) (l:List Nd),fC n st=some l->st.ns <+: l
 |0,st,l,h=>by cases h
 |n+1,st,l,h=>by
  rw[fC]at h
  split at h
  ·split at h
   ·simp only[al]at h
    subst h;exact List.prefix_refl _
   ·cases h
  ·split at h
   ·cases h
   ·next o hl =>
    split at h
    ·cases h
    ·next st' hn=>exact(CM hn).trans (uM n st' l h)
theorem yB{st:Rd}{l:List Nd}(h:fD st=some l):st.ns <+: l:=uM _ _ _ h
def ky(ns:List Nd):Prop:=∃(i:Nat) (x:Nd),1<=i/\ns[i]? = some x/\dg x=false
theorem tW{ns l:List Nd}{i:Nat}{x:Nd}(hp:ns <+: l)(h:ns[i]? = some x):l[i]? = some x:=by
 obtain⟨t,rfl⟩:=hp;rw[List.getElem?_append_left (bh.1 h).1];exact h
theorem tU{ns l:List Nd}(hp:ns <+: l)(h:ky ns):ky l:=by
 obtain⟨i,x,h1,h2,h3⟩:=h;exact⟨i,x,h1,tW hp h2,h3⟩
theorem jq{ns:List Nd}{x:Nd}(h0:ns≠[])(h:dg x=false):ky (ns++[x]):=⟨ns.length,x,bO.2 h0,by simp,h⟩
theorem qp{l:List Nd}(h:ky l):db l=false:=by
 obtain⟨i,x,h1,h2,h3⟩:=h;cases l with
 |nil=>simp at h2
 |cons y r =>
  obtain⟨j,rfl⟩ : ∃j,i=j+1:=⟨i-1,by omega⟩
  rw[bH]at h2;have hm:=List.mem_of_getElem? h2
  have:r.all dg=false:=by
   rw[List.all_eq_false];exact⟨x,hm,by simp[h3]⟩
  show(eE y&&(dT (y::r)&&(r.all dg&&fZ (y::r))))=false
  rw[this];simp
def oh(st:Rd):Prop:=∀l,fD st=some l->db l=false
theorem dD{st st':Rd}(h:fD st=fD st')(hd:oh st'):oh st:=fun l hl=>hd l (h ▸ hl)
theorem dM{st:Rd}(h:fD st=none):oh st:=fun l hl=>by rw[h]at hl;cases hl
theorem mC{st:Rd}(h:ky st.ns):oh st:=fun l hl=>qp (tU (yB hl) h)
def jS(s:Rf):Prop:=s.bad=true∨ky s.ns
def dt(s s':Rf):Prop:=(s.bad=true->s'.bad=true)/\s.ns <+: s'.ns/\s'.rest <:+ s.rest
theorem dt.refl(s:Rf):dt s s:=⟨id,List.prefix_refl _,List.suffix_refl _⟩
theorem dt.trans{a b c:Rf}(h:dt a b)(h':dt b c):dt a c:=⟨fun e=>h'.1 (h.1 e),h.2.1.trans h'.2.1,h'.2.2.trans h.2.2⟩
theorem dt.mem{a b:Rf}(h:dt a b){c:UInt8}(hc:c∉a.rest):c∉b.rest:=fun hm=>hc (h.2.2.subset hm)
theorem dt.len{a b:Rf}(h:dt a b):b.rest.length<=a.rest.length:=h.2.2.length_le
theorem jS.mono{a b:Rf}(h:jS a)(hm:dt a b):jS b:=h.imp hm.1 (tU hm.2.1)
theorem eY{p s r:List UInt8}(h:aH p s=some r):r <:+ s:=⟨p,(cH h).symm⟩
theorem zj{p s q r:List UInt8}(h:cW p s=some (q,r)):r <:+ s:=by
 obtain⟨n,_,_,_,rfl⟩:=ig h;exact List.drop_suffix _ _
theorem zl(s:List UInt8):aI s <:+ s:=List.dropWhile_suffix _
theorem wP(e s:List UInt8):c9 e s <:+ s:=List.dropWhile_suffix _
theorem fH(s:Rf){r:List UInt8}(h:r <:+ s.rest):dt s (s.to r):=⟨id,List.prefix_refl _,h⟩
theorem f6(s:Rf)(b:Bool):dt s (s.or b):=⟨fun h=>iQ h b,List.prefix_refl _,List.suffix_refl _⟩
theorem kP(s:Rf):dt s s.fail:=⟨fun _=>rfl,List.prefix_refl _,List.suffix_refl _⟩
theorem f7(s:Rf)(x:Nd):dt s (s.add x):=⟨id,ce _ _,List.suffix_refl _⟩
theorem cA(p:List UInt8)(s:Rf):dt s (bI p s):=by
 unfold bI;split
 ·next r h=>exact fH _ (eY h)
 ·exact kP _
theorem fd(p:List UInt8)(s:Rf):dt s (cR p s).2:=by
 unfold cR;split
 ·next q r h=>exact fH _ (zj h)
 ·exact kP _
theorem cJ(s:Rf):dt s (bG s):=fH _ (zl _)
theorem io(s:Rf):dt s (dR s):=(fH _ (List.drop_suffix _ _)).trans (f6 _ _)
theorem fE(s:Rf):dt s (cQ s).2:=by
 unfold cQ;split
 ·next r h=>exact(io s).trans ((fH _ (eY h)).trans (io _))
 ·exact io s
theorem ni(s:Rf):dt (bI [61] (bG s)) (dq s).2:=by
 have h:dt (bI [61] (bG s)) (bG (bI [61] (bG s))):=cJ _;unfold dq;split
 ·next r hr=>exact h.trans ((fH _ (eY hr)).trans (fd _ _))
 ·split
  ·next r hr=>exact h.trans ((fH _ (eY hr)).trans (fd _ _))
  ·exact h.trans (kP _)
theorem pN(s:Rf):dt s (dq s).2:=(cJ s).trans ((cA _ _).trans (ni s))
theorem jb(key:List UInt8)(s:Rf):dt s (ea key s).2:=by
 unfold ea;split
 ·exact dt.refl _
 ·exact(cJ s).trans ((cA _ _).trans (pN _))
theorem ma(s:Rf):dt s (gZ s):=by
 unfold gZ;split
 ·exact(cA _ s).trans (((jb _ _).trans (f6 _ _)).trans (((jb _ _).trans (f6 _ _)).trans (((jb _ _).trans (f6 _ _)).trans ((cJ _).trans (cA _ _)))))
 ·exact dt.refl _
theorem mc(n:Int)(s:Rf):dt s (fM n s):=(cA _ s).trans ((fd _ _).trans (f7 _ _))
theorem kO(s:Rf):dt s (gq s):=by
 unfold gq;split
 ·exact dt.refl _
 ·exact(cJ s).trans (f6 _ _)
theorem l8(n:Int)(s:Rf):dt s (fm n s):=(cA _ s).trans ((io _).trans ((kO _).trans ((fd _ _).trans (f7 _ _))))
theorem fG:∀(k:Nat) (s:Rf),dt s (iB k s)
 |0,s=>dt.refl _
 |k+1,s=>by
  rw[iB];split
  ·exact dt.refl _
  ·split
   ·exact(cJ s).trans ((mc _ _).trans (fG k _))
   ·split
    ·exact(cJ s).trans ((l8 _ _).trans (fG k _))
    ·exact cJ s
theorem kN(s:Rf):dt s (lx s):=(fE s).trans ((pN _).trans (f6 _ _))
theorem ip:∀(k:Nat) (s:Rf) (x:Nd),dt s (fy k s x).1
 |0,s,x=>dt.refl _
 |k+1,s,x=>by
  rw[fy];split
  ·exact dt.refl _
  ·split
   ·exact cJ s
   ·split
    ·exact(cJ s).trans (kP _)
    ·exact(cJ s).trans ((kN _).trans (ip k _ _))
theorem f5(n:Int)(t:List UInt8)(s:Rf):dt s (cP n t s):=by
 unfold cP;split
 ·exact dt.refl _
 ·exact f7 _ _
theorem fT{E:Int->Rf->Rf}(hE:∀n s,dt s (E n s)):∀(k:Nat) (n:Int) (t:List UInt8) (s:Rf),dt s (da E k n t s)
 |0,n,t,s=>f5 n t s
 |k+1,n,t,s=>by
  rw[da];split
  ·exact f5 n t s
  ·split
   ·exact(cA _ s).trans ((fd _ _).trans (fT hE k _ _ _))
   ·split
    ·exact(fH s (wP _ _)).trans ((f6 _ _).trans (fT hE k _ _ _))
    ·split
     ·exact(f5 n t s).trans ((mc _ _).trans (fT hE k _ _ _))
     ·split
      ·exact(f5 n t s).trans ((l8 _ _).trans (fT hE k _ _ _))
      ·exact(f5 n t s).trans ((hE _ _).trans (fT hE k _ _ _))
theorem kQ(n:Int)(s:Rf):dt s (bZ n s).1:=(cA _ s).trans ((fE _).trans (ip _ _ _))
theorem kR(pl:List UInt8×List UInt8)(s:Rf):dt s (qF pl s):=(cA _ s).trans ((fE _).trans ((cJ _).trans ((cA _ _).trans (f6 _ _))))
theorem iq:∀(f:Nat) (n:Int) (s:Rf),dt s (dj f n s)
 |0,n,s=>dt.refl _
 |f+1,n,s=>by
  have hM:=kQ n s;rw[dj];split
  ·exact hM.trans (f7 _ _)
  ·split
   ·exact hM.trans ((f7 _ _).trans (cA _ _))
   ·exact hM.trans ((f7 _ _).trans ((cA _ _).trans ((fT (iq f) _ _ _ _).trans (kR _ _))))
end Go.Proofs.YteinegfbpfhflaaGreatDoor
