/-
  What element stands on: the last node's URI, and its attributes', are set in their rows. Conditions: none.
  The attributes' URIs, set one by one: what lies there at each step. Conditions: none.
-/
import Derived.Test.YteinegfbpfhflaaGreatDoorM49
import Derived.Test.YteinegfbpfhflaaGreatDoorM36
namespace Go.Proofs.YteinegfbpfhflaaGreatDoor
open Go.RowKit
set_option linter.unusedVariables false
set_option maxRecDepth 100000
theorem ER{w:World}{B e s n g c j:Nat}{xs:List Value}{v:Value}(h:w.ownsRow B e s (.slice (some ⟨g,0,none⟩) n c) n xs)(hj:j<xs.length):(w.setCell ⟨g,j,none⟩ v).ownsRow B e s (.slice (some ⟨g,0,none⟩) n c) n (xs.set j v):=by
 obtain⟨h1,⟨h2,_⟩|⟨g',cap,cur,e0,hg,hh,hn,hc,hs,ht⟩⟩:=h
 ·cases h2
 ·simp only[aK,al,Addr.mk.injEq,and_true,true_and]at e0
  obtain⟨rfl,rfl⟩:=e0;refine⟨(by rw[List.length_set];exact h1),.inr ⟨g,c,_,rfl,hg,aL hh,hn,hc,by simpa using hs,?_⟩⟩
  rw[Array.toList_setIfInBounds,List.take_set,ht]
theorem GC{ys:List Ny}{y:Ny}(V:ByteArray):((ys++[y]).flatMap gS).set (ys.length*8+4) (.string V)=(ys++[(⟨{ y.x with u:=V },y.d,y.a⟩ : Ny)]).flatMap gS:=by
 have hl:(ys.flatMap gS).length=ys.length*8:=dF jE ys;rw[ch,ch];have e:∀z:Ny,[z].flatMap gS=gS z:=fun z=>by simp
 rw[e,e,List.set_append_right _ _ (by rw[hl];omega),hl,Nat.add_sub_cancel_left]
 rfl
theorem lO{w:World}{B e s n g c:Nat}{xs:List Value}(h:w.ownsRow B e s (.slice (some ⟨g,0,none⟩) n c) n xs):∃cs,w.heap[g]? = some (.cells cs e (0,0))/\B<=g:=by
 obtain⟨_,⟨h2,_⟩|⟨g',cap,cur,e0,hg,hh,_⟩⟩:=h
 ·cases h2
 ·simp only[aK,al,Addr.mk.injEq,and_true,true_and]at e0
  obtain⟨rfl,rfl⟩:=e0;exact⟨cur,hh,hg⟩
theorem eF.setUri{w:World}{B rb g c:Nat}{S:ByteArray}{s:Rf}{x:Nd}{vD vA:Value}{ys:List Ny}(h:eF w B rb S (s.add x) (.slice (some ⟨g,0,none⟩) (ys.length+1) c) (ys++[⟨x,vD,vA⟩]))(V:ByteArray) :
 eF (w.setCell ⟨g,ys.length*8+4,none⟩ (.string V)) B rb S (s.add { x with u:=V }) (.slice (some ⟨g,0,none⟩) (ys.length+1) c) (ys++[⟨{ x with u:=V },vD,vA⟩]):=by
 obtain⟨k,hk⟩:=h.rc;have hrn:=h.rn;rw[aj,aB]at hrn;obtain⟨cs,hg,_⟩:=lO hrn;have hl:((ys++[(⟨x,vD,vA⟩ : Ny)]).flatMap gS).length=(ys.length+1)*8:=by rw[dF jE,aj,aB]
 have hset:=ER (j:=ys.length*8+4) (v:=.string V) hrn (by rw[hl];omega)
 rw[GC]at hset;have keep:∀{b0 e q m:Nat} {v:Value} {xs:List Value},e≠42->w.ownsRow b0 e q v m xs->(w.setCell ⟨g,ys.length*8+4,none⟩ (.string V)).ownsRow b0 e q v m xs:=fun {b0 e q m v xs} he ho=>aR ho (fun b _ ⟨cs,hc⟩=>ao _ _ _ _ (fun e0=>br hc hg he e0))
 have hns:ys.map (·.x)=s.ns:=by
  have h0:=h.ns;rw[List.map_append]at h0;exact(List.append_inj' (show ys.map (·.x)++[x]=s.ns++[x]from h0) rfl).1
 refine⟨h.lo,⟨k,hk.le,hk.rest,(ao _ _ _ _ (fun e0=>br hk.box hg (by decide) e0)).trans hk.box⟩,?_,?_,fun y hy => ?_⟩
 ·rw[List.map_append,hns];rfl
 ·rw[aj,aB];exact hset
 ·rcases bS.1 hy with hy|hy
  ·have:=h.ry y (List.mem_append_left _ hy)
   exact⟨keep (by decide) this.1,keep (by decide) this.2⟩
  ·rw[aW.1 hy]
   have:=h.ry ⟨x,vD,vA⟩ (List.mem_append_right _ (List.mem_singleton_self _));exact⟨keep (by decide) this.1,keep (by decide) this.2⟩
theorem eF.setAtt{w:World}{B rb ga ca:Nat}{S:ByteArray}{s:Rf}{x:Nd}{vn vD:Value}{ys:List Ny}{l:List At}(hl:x.ats=l)(h:eF w B rb S (s.add x) vn (ys++[⟨x,vD,.slice (some ⟨ga,0,none⟩) l.length ca⟩]))(hya:∀y∈ys,y.a.ownBlock=none∨y.a.ownBlock≠some ga){k:Nat}(hk:k<l.length)(V:ByteArray) :
 eF (w.setCell ⟨ga,k*4+2,none⟩ (.string V)) B rb S (s.add { x with ats:=l.set k { l[k]with u:=V } }) vn (ys++[⟨{ x with ats:=l.set k { l[k]with u:=V } },vD,.slice (some ⟨ga,0,none⟩) l.length ca⟩]):=by
 obtain⟨j,hj⟩:=h.rc;have hlast:=h.ry ⟨x,vD,.slice (some ⟨ga,0,none⟩) l.length ca⟩ (List.mem_append_right _ (List.mem_singleton_self _));have hA:=hlast.2;dsimp only at hA;rw[hl]at hA;obtain⟨cs,hg,_⟩:=lO hA;have hset:=wt hA hk V;have keep:∀{b0 e q m:Nat} {v:Value} {xs:List Value},e≠73->w.ownsRow b0 e q v m xs->(w.setCell ⟨ga,k*4+2,none⟩ (.string V)).ownsRow b0 e q v m xs:=fun {b0 e q m v xs} he ho=>aR ho (fun b _ ⟨cs,hc⟩=>ao _ _ _ _ (fun e0=>br hc hg he e0))
 have keepA:∀{b0 e q m:Nat} {v:Value} {xs:List Value},(v.ownBlock=none∨v.ownBlock≠some ga)->w.ownsRow b0 e q v m xs->(w.setCell ⟨ga,k*4+2,none⟩ (.string V)).ownsRow b0 e q v m xs:=fun {b0 e q m v xs} hne ho=>aR ho (fun b hb _=>ao _ _ _ _ (fun e0=>by
  rcases hne with h0|h0
  ·rw[hb]at h0;cases h0
  ·exact h0 (hb.trans (congrArg some e0))))
 have hns:ys.map (·.x)=s.ns:=by
  have h0:=h.ns;rw[List.map_append]at h0;exact(List.append_inj' (show ys.map (·.x)++[x]=s.ns++[x]from h0) rfl).1
 have hrn:w.ownsRow B 42 8 vn (ys++[(⟨{ x with ats:=l.set k { l[k]with u:=V } },vD,.slice (some ⟨ga,0,none⟩) l.length ca⟩ : Ny)]).length ((ys++[(⟨{ x with ats:=l.set k { l[k]with u:=V } },vD,.slice (some ⟨ga,0,none⟩) l.length ca⟩ : Ny)]).flatMap gS):=by
  have h0:=h.rn;rw[ch,aj]at h0 ⊢;exact h0
 refine⟨h.lo,⟨j,hj.le,hj.rest,(ao _ _ _ _ (fun e0=>br hj.box hg (by decide) e0)).trans hj.box⟩,?_,keep (by decide) hrn,fun y hy => ?_⟩
 ·rw[List.map_append,hns];rfl
 ·rcases bS.1 hy with hy|hy
  ·have:=h.ry y (List.mem_append_left _ hy)
   exact⟨keep (by decide) this.1,keepA (hya y hy) this.2⟩
  ·rw[aW.1 hy]
   refine⟨keep (by decide) hlast.1,?_⟩
   show World.ownsRow _ B 73 4 _ (l.set k { l[k]with u:=V }).length ((l.set k { l[k]with u:=V }).flatMap jt)
   rw[List.length_set];exact hset
theorem AQ{ns:List Nd}{x x':Nd}(hn:x.n=x'.n)(hd:x.ds=x'.ds)(s:List UInt8):fL (ns++[x]) ns.length s=fL (ns++[x']) ns.length s:=by
 have p1:pa (ns++[x]) ns.length=x.n:=by unfold pa;simp
 have p2:pa (ns++[x']) ns.length=x'.n:=by unfold pa;simp
 have d1:lF (ns++[x]) ns.length=x.ds:=by unfold lF;simp
 have d2:lF (ns++[x']) ns.length=x'.ds:=by unfold lF;simp
 rw[mn,mn (ns++[x']),p1,p2,d1,d2,hn,hd];by_cases h:0<=x'.n/\x'.n.toNat<ns.length
 ·rw[mm (ce _ _) s _ h.2,mm (ce _ _) s _ h.2]
 ·rw[am h,am h]
theorem eF.nsAt{w:World}{B rb:Nat}{S:ByteArray}{s:Rf}{vn:Value}{ys:List Ny}(h:eF w B rb S s vn ys)(h0:ys≠[]):eD w w.heap.size vn s.ns:=by
 rw[<-h.ns];exact CF h.rn rfl (bO.2 h0) (fun y hy=>⟨i5 (h.ry y hy).1,i5 (h.ry y hy).2⟩)
theorem pP{w:World}{B rb:Nat}{S:ByteArray}{s:Rf}{x X:Nd}{vn vD vA:Value}{ys:List Ny}(h:eF w B rb S (s.add x) vn (ys++[⟨x,vD,vA⟩]))(hk:Kp s)(hx1:x.n=X.n)(hx2:x.ds=X.ds)(h1:0<=x.n)(h2:x.n<(s.ns.length:Int))(hl:s.ns.length<=1000000)(p:ByteArray) :
 Calls Tryz.prog 41 #[vn,.int .i64 (s.ns.length:Int),.string p] w fun e w'=>e=.returned (.tuple #[.string (ck (s.ns++[X]) s.ns.length p).1,.bool (ck (s.ns++[X]) s.ns.length p).2])/\w'=w:=by
 have hv:=h.nsAt (by simp)
 have h0l:0<s.ns.length:=bO.2 hk.ne
 have hung:fl (s.ns++[x]) (s.ns.length+1):=fun j hj1 hj2=>by
  rcases bU (cC hj2)with hlt|rfl
  ·rw[pC (ce _ _) hlt];exact hk.hung j hj1 hlt
  ·have e:pa (s.ns++[x]) s.ns.length=x.n:=by unfold pa;simp
   rw[e];exact⟨h1,h2⟩
 have h0:pa (s.ns++[x]) 0 = -1:=(pC (ce _ _) h0l).trans hk.h0;have hm:=rq (s.ns++[x]) vn s.ns.length p w hv (by simp) (by simp;omega) hung h0
 rw[xA (l:=s.ns++[x]) (l':=s.ns++[X]) (fun q=>AQ hx1 hx2 q) p]at hm;exact hm
def lM(X:Nd)(U:ByteArray)(F:At->At)(k:Nat):Nd:={ X with u:=U,ats:=(X.ats.take k).map F++X.ats.drop k }
theorem Eh(X:Nd)(U:ByteArray)(F:At->At):lM X U F X.ats.length={ X with u:=U,ats:=X.ats.map F }:=by
 unfold lM;rw[cL,List.drop_length,bo]
theorem sf(X:Nd)(U:ByteArray)(F:At->At)(k:Nat):(lM X U F k).ats.length=X.ats.length:=by
 show((X.ats.take k).map F++X.ats.drop k).length=_
 rw[aj,bN,aY,bq];omega
theorem wL{X:Nd}{U:ByteArray}{F:At->At}{k:Nat}(hk:k<X.ats.length):(lM X U F k).ats[k]'(by rw[sf];exact hk)=X.ats[k]:=by
 apply Option.some_inj.1
 rw[<-aw,<-aw hk]
 show((X.ats.take k).map F++X.ats.drop k)[k]? = _
 rw[List.getElem?_append_right (by rw[bN,aY];omega),List.getElem?_drop]
 congr 1
 rw[bN,aY];omega
theorem uf{X:Nd}{U:ByteArray}{F:At->At}{k:Nat}(hk:k<X.ats.length){a:At}(ha:F X.ats[k]=a):({ lM X U F k with ats:=(lM X U F k).ats.set k a }:Nd)=lM X U F (k+1):=by
 have h:((X.ats.take k).map F++X.ats.drop k).set k a=(X.ats.take (k+1)).map F++X.ats.drop (k+1):=by
  rw[List.set_append_right _ _ (by rw[bN,aY];omega)]
  rw[bN,aY,show k-min k X.ats.length=0 by omega]
  rw[bv hk,List.set_cons_zero,aN hk,List.map_append,<-ha];simp
 show({ X with u:=U,ats:=((X.ats.take k).map F++X.ats.drop k).set k a }:Nd)=_
 rw[h];rfl
theorem BU{X:Nd}{U:ByteArray}{F:At->At}{k:Nat}(hk:k<X.ats.length)(ha:F X.ats[k]=X.ats[k]):lM X U F (k+1)=lM X U F k:=by
 rw[<-uf hk ha]
 have h:(lM X U F k).ats.set k X.ats[k]=(lM X U F k).ats:=by
  have h2:=wL (U:=U) (F:=F) hk;rw[<-h2,List.set_getElem_self]
 rw[h]
theorem eF.attStep{w:World}{B rb ga ca:Nat}{S:ByteArray}{s:Rf}{X:Nd}{U:ByteArray}{F:At->At}{vn vD:Value}{ys:List Ny}{k:Nat}(h:eF w B rb S (s.add (lM X U F k)) vn (ys++[⟨lM X U F k,vD,.slice (some ⟨ga,0,none⟩) X.ats.length ca⟩]))(hya:∀y∈ys,y.a.ownBlock=none∨y.a.ownBlock≠some ga)(hk:k<X.ats.length)(V:ByteArray)(hV:F X.ats[k]={ X.ats[k]with u:=V }) :
 eF (w.setCell ⟨ga,k*4+2,none⟩ (.string V)) B rb S (s.add (lM X U F (k+1))) vn (ys++[⟨lM X U F (k+1),vD,.slice (some ⟨ga,0,none⟩) X.ats.length ca⟩]):=by
 have hl:=sf X U F k;have h1:eF w B rb S (s.add (lM X U F k)) vn (ys++[⟨lM X U F k,vD,.slice (some ⟨ga,0,none⟩) (lM X U F k).ats.length ca⟩]):=by rw[hl];exact h
 have h2:=eF.setAtt (l:=(lM X U F k).ats) rfl h1 hya (k:=k) (by rw[hl];exact hk) V
 rw[wL hk,uf hk hV,hl]at h2;exact h2
theorem eF.attCell{w:World}{B rb ga ca:Nat}{S:ByteArray}{s:Rf}{X:Nd}{U:ByteArray}{F:At->At}{vn vD:Value}{ys:List Ny}{k:Nat}(h:eF w B rb S (s.add (lM X U F k)) vn (ys++[⟨lM X U F k,vD,.slice (some ⟨ga,0,none⟩) X.ats.length ca⟩]))(hk:k<X.ats.length) :
 (w.cell? ⟨ga,k*4,none⟩=some (.string X.ats[k].p)/\w.cell? ⟨ga,k*4+2,none⟩=some (.string X.ats[k].u))/\∃cs,w.heap[ga]? = some (.cells cs 73 (0,0)):=by
 have hlast:=(h.ry _ (List.mem_append_right _ (List.mem_singleton_self _))).2;dsimp only at hlast;have hl:=sf X U F k;rw[hl]at hlast;obtain⟨cs,hg,_⟩:=lO hlast
 have hc:∀j (hj:j<4),w.cell? ⟨ga,k*4+j,none⟩=some ((jt X.ats[k])[j]'hj):=fun j hj=>j0 hlast (by
  rw[ei (f:=jt) (c:=4) (fun _=>rfl) _ k j (by rw[hl];exact hk) hj,wL hk]
  exact aw hj)
 exact⟨⟨hc 0 (by omega),hc 2 (by omega)⟩,cs,hg⟩
theorem eF.lastCell{w:World}{B rb g c:Nat}{S:ByteArray}{s:Rf}{x:Nd}{vD vA:Value}{ys:List Ny}(h:eF w B rb S (s.add x) (.slice (some ⟨g,0,none⟩) (ys.length+1) c) (ys++[⟨x,vD,vA⟩])) :
 w.cell? ⟨g,ys.length*8+7,none⟩=some vA/\∃cs,w.heap[g]? = some (.cells cs 42 (0,0)):=by
 have hrn:=h.rn;rw[aj,aB]at hrn;obtain⟨cs,hg,_⟩:=lO hrn;refine⟨j0 hrn (j:=ys.length*8+7) ?_,cs,hg⟩;have h1:=ei jE (ys++[(⟨x,vD,vA⟩ : Ny)]) ys.length 7 (by simp) (by omega)
 rw[h1];simp[gS,FW]
theorem du.setNew{rb g j:Nat}{v v' u:Value}{w w':World}(h:du rb v v' w w')(hg:v'.ownBlock=some g∨w.heap.size<=g):du rb v v' w (w'.drew.setCell ⟨g,j,none⟩ u):=by
 have h2:v.ownBlock=some g∨w.heap.size<=g:=by
  rcases hg with h0|h0
  ·exact h.new g h0
  ·exact .inr h0
 refine⟨fun b hb hbr hbn => ?_,h.new,?_⟩
 ·rw[ao _ _ _ _ (show b≠g from fun e => ?_)]
  ·exact h.els b hb hbr hbn
  ·subst e
   rcases h2 with h0|h0
   ·exact hbn h0
   ·omega
 ·have:=h.size
  simpa [World.setCell]using this
def ud(w0:World)(B rb xb:Nat)(S:ByteArray)(s:Rf)(vn0 vn:Value)(ys:List Ny)(X:Nd)(U:ByteArray)(F:At->At)(vD vA:Value)(i:Value)(wr:World):Prop :=
 ∃k:Nat,k<=X.ats.length/\i=.int .i64 k/\eF wr B rb S (s.add (lM X U F k)) vn (ys++[⟨lM X U F k,vD,vA⟩])/\wr.heap[xb]? = some (.cells #[.int .i64 X.k,.int .i64 X.n,.string X.p,.string X.l,.string X.u,.string X.t,vD,vA] 42 (0,0))/\du rb vn0 vn w0 wr/\Below B w0 wr
theorem ye{w0 w:World}{B rb xb ga ca k:Nat}{S:ByteArray}{s:Rf}{vn0 vn vD:Value}{ys:List Ny}{X:Nd}{U:ByteArray}{F:At->At}(hr:eF w B rb S (s.add (lM X U F k)) vn (ys++[⟨lM X U F k,vD,.slice (some ⟨ga,0,none⟩) X.ats.length ca⟩]))(hbx:w.heap[xb]? = some (.cells #[.int .i64 X.k,.int .i64 X.n,.string X.p,.string X.l,.string X.u,.string X.t,vD,.slice (some ⟨ga,0,none⟩) X.ats.length ca] 42 (0,0)))(hg:du rb vn0 vn w0 w)(hb:Below B w0 w)(hya:∀y∈ys,y.a.ownBlock=none∨y.a.ownBlock≠some ga)(hk:k<X.ats.length)(hga:w0.heap.size<=ga)(hB:B<=w0.heap.size)(V:ByteArray)(hV:F X.ats[k]={ X.ats[k]with u:=V }) :
 ud w0 B rb xb S s vn0 vn ys X U F vD (.slice (some ⟨ga,0,none⟩) X.ats.length ca) (.int .i64 ((k+1:Nat):Int)) (w.drew.setCell ⟨ga,k*4+2,none⟩ (.string V)):=by
 obtain⟨_,csa,hac⟩:=hr.attCell hk;refine⟨k+1,hk,rfl,(hr.below ((ae _ _).drew)).attStep hya hk V hV,?_,hg.setNew (.inr hga),(hb.drew).setCell (p:=⟨ga,k*4+2,none⟩) (ag hB hga) _⟩;rw[ao _ _ _ _ (show xb≠ga from br hbx hac (by decide))]
 exact hbx
theorem wu{w0 w:World}{B rb xb k:Nat}{S:ByteArray}{s:Rf}{vn0 vn vD vA:Value}{ys:List Ny}{X:Nd}{U:ByteArray}{F:At->At}(hr:eF w B rb S (s.add (lM X U F k)) vn (ys++[⟨lM X U F k,vD,vA⟩]))(hbx:w.heap[xb]? = some (.cells #[.int .i64 X.k,.int .i64 X.n,.string X.p,.string X.l,.string X.u,.string X.t,vD,vA] 42 (0,0)))(hg:du rb vn0 vn w0 w)(hb:Below B w0 w)(hB:B<=w0.heap.size)(hk:k<X.ats.length)(hV:F X.ats[k]=X.ats[k]){w':World}(hw:Below w.heap.size w w') :
 ud w0 B rb xb S s vn0 vn ys X U F vD vA (.int .i64 ((k+1:Nat):Int)) w' :=
 ⟨k+1,hk,rfl,by rw[BU hk hV];exact hr.below hw,(hw.block xb (au hbx)).trans hbx,hg.trans (du.of_below hw),hb.trans (hw.mono (ag hB hb.size))⟩
end Go.Proofs.YteinegfbpfhflaaGreatDoor
