/-
  What element stands on: the last node's URI, and its attributes', are set in their rows. Conditions: none.
  The attributes' URIs, set one by one: what lies there at each step. Conditions: none.
-/
import Derived.Test.YteinegfbpfhflaaGreatDoorK49
import Derived.Test.YteinegfbpfhflaaGreatDoorK36
namespace Go.Proofs.YteinegfbpfhflaaGreatDoor
open Go.RowKit
set_option linter.unusedVariables false
set_option maxRecDepth 100000
theorem b8s{w:World}{B e s n g c j:Nat}{xs:List Value}{v:Value}(h:w.ownsRow B e s (.slice (some ⟨g,0,none⟩) n c) n xs)(hj:j<xs.length):(w.setCell ⟨g,j,none⟩ v).ownsRow B e s (.slice (some ⟨g,0,none⟩) n c) n (xs.set j v):=by
 obtain⟨h1,⟨h2,_⟩|⟨g',cap,cur,e0,hg,hh,hn,hc,hs,ht⟩⟩:=h
 ·cases h2
 ·simp only[o5,f5,Addr.mk.injEq,and_true,true_and]at e0
  obtain⟨rfl,rfl⟩:=e0;refine⟨(by rw[List.length_set];exact h1),.inr ⟨g,c,_,rfl,hg,o8 hh,hn,hc,by simpa using hs,?_⟩⟩
  rw[Array.toList_setIfInBounds,List.take_set,ht]
theorem b97{ys:List Ny}{y:Ny}(V:ByteArray):((ys++[y]).flatMap nyC).set (ys.length*8+4) (.string V)=(ys++[(⟨{ y.x with u:=V },y.d,y.a⟩ : Ny)]).flatMap nyC:=by
 have hl:(ys.flatMap nyC).length=ys.length*8:=N2 a2i ys;rw[D8,D8];have e:∀z:Ny,[z].flatMap nyC=nyC z:=fun z=>by simp
 rw[e,e,List.set_append_right _ _ (by rw[hl];omega),hl,Nat.add_sub_cancel_left]
 rfl
theorem a3X{w:World}{B e s n g c:Nat}{xs:List Value}(h:w.ownsRow B e s (.slice (some ⟨g,0,none⟩) n c) n xs):∃cs,w.heap[g]? = some (.cells cs e (0,0))/\B<=g:=by
 obtain⟨_,⟨h2,_⟩|⟨g',cap,cur,e0,hg,hh,_⟩⟩:=h
 ·cases h2
 ·simp only[o5,f5,Addr.mk.injEq,and_true,true_and]at e0
  obtain⟨rfl,rfl⟩:=e0;exact⟨cur,hh,hg⟩
theorem S5.setUri{w:World}{B rb g c:Nat}{S:ByteArray}{s:Rf}{x:Nd}{vD vA:Value}{ys:List Ny}(h:S5 w B rb S (s.add x) (.slice (some ⟨g,0,none⟩) (ys.length+1) c) (ys++[⟨x,vD,vA⟩]))(V:ByteArray) :
 S5 (w.setCell ⟨g,ys.length*8+4,none⟩ (.string V)) B rb S (s.add { x with u:=V }) (.slice (some ⟨g,0,none⟩) (ys.length+1) c) (ys++[⟨{ x with u:=V },vD,vA⟩]):=by
 obtain⟨k,hk⟩:=h.rc;have D1:=h.rn;rw[e8,j0]at D1;obtain⟨cs,hg,_⟩:=a3X D1;have hl:((ys++[(⟨x,vD,vA⟩ : Ny)]).flatMap nyC).length=(ys.length+1)*8:=by rw[N2 a2i,e8,j0]
 have D0:=b8s (j:=ys.length*8+4) (v:=.string V) D1 (by rw[hl];omega)
 rw[b97]at D0;have keep:∀{b0 e q m:Nat} {v:Value} {xs:List Value},e≠42->w.ownsRow b0 e q v m xs->(w.setCell ⟨g,ys.length*8+4,none⟩ (.string V)).ownsRow b0 e q v m xs:=fun {b0 e q m v xs} he ho=>r6 ho (fun b _ ⟨cs,hc⟩=>f7 _ _ _ _ (fun e0=>B7 hc hg he e0))
 have D2:ys.map (·.x)=s.ns:=by
  have h0:=h.ns;rw[List.map_append]at h0;exact(List.append_inj' (show ys.map (·.x)++[x]=s.ns++[x]from h0) rfl).1
 refine⟨h.lo,⟨k,hk.le,hk.rest,(f7 _ _ _ _ (fun e0=>B7 hk.box hg (by decide) e0)).trans hk.box⟩,?_,?_,fun y hy => ?_⟩
 ·rw[List.map_append,D2];rfl
 ·rw[e8,j0];exact D0
 ·rcases D6.1 hy with hy|hy
  ·have:=h.ry y (List.mem_append_left _ hy)
   exact⟨keep (by decide) this.1,keep (by decide) this.2⟩
  ·rw[r8.1 hy]
   have:=h.ry ⟨x,vD,vA⟩ (List.mem_append_right _ (List.mem_singleton_self _));exact⟨keep (by decide) this.1,keep (by decide) this.2⟩
theorem S5.setAtt{w:World}{B rb ga ca:Nat}{S:ByteArray}{s:Rf}{x:Nd}{vn vD:Value}{ys:List Ny}{l:List At}(hl:x.ats=l)(h:S5 w B rb S (s.add x) vn (ys++[⟨x,vD,.slice (some ⟨ga,0,none⟩) l.length ca⟩]))(D2:∀y∈ys,y.a.ownBlock=none∨y.a.ownBlock≠some ga){k:Nat}(hk:k<l.length)(V:ByteArray) :
 S5 (w.setCell ⟨ga,k*4+2,none⟩ (.string V)) B rb S (s.add { x with ats:=l.set k { l[k]with u:=V } }) vn (ys++[⟨{ x with ats:=l.set k { l[k]with u:=V } },vD,.slice (some ⟨ga,0,none⟩) l.length ca⟩]):=by
 obtain⟨j,hj⟩:=h.rc;have D0:=h.ry ⟨x,vD,.slice (some ⟨ga,0,none⟩) l.length ca⟩ (List.mem_append_right _ (List.mem_singleton_self _));have hA:=D0.2;dsimp only at hA;rw[hl]at hA;obtain⟨cs,hg,_⟩:=a3X hA;have D1:=b1v hA hk V;have keep:∀{b0 e q m:Nat} {v:Value} {xs:List Value},e≠73->w.ownsRow b0 e q v m xs->(w.setCell ⟨ga,k*4+2,none⟩ (.string V)).ownsRow b0 e q v m xs:=fun {b0 e q m v xs} he ho=>r6 ho (fun b _ ⟨cs,hc⟩=>f7 _ _ _ _ (fun e0=>B7 hc hg he e0))
 have keepA:∀{b0 e q m:Nat} {v:Value} {xs:List Value},(v.ownBlock=none∨v.ownBlock≠some ga)->w.ownsRow b0 e q v m xs->(w.setCell ⟨ga,k*4+2,none⟩ (.string V)).ownsRow b0 e q v m xs:=fun {b0 e q m v xs} D3 ho=>r6 ho (fun b hb _=>f7 _ _ _ _ (fun e0=>by
  rcases D3 with h0|h0
  ·rw[hb]at h0;cases h0
  ·exact h0 (hb.trans (congrArg some e0))))
 have D9:ys.map (·.x)=s.ns:=by
  have h0:=h.ns;rw[List.map_append]at h0;exact(List.append_inj' (show ys.map (·.x)++[x]=s.ns++[x]from h0) rfl).1
 have E0:w.ownsRow B 42 8 vn (ys++[(⟨{ x with ats:=l.set k { l[k]with u:=V } },vD,.slice (some ⟨ga,0,none⟩) l.length ca⟩ : Ny)]).length ((ys++[(⟨{ x with ats:=l.set k { l[k]with u:=V } },vD,.slice (some ⟨ga,0,none⟩) l.length ca⟩ : Ny)]).flatMap nyC):=by
  have h0:=h.rn;rw[D8,e8]at h0 ⊢;exact h0
 refine⟨h.lo,⟨j,hj.le,hj.rest,(f7 _ _ _ _ (fun e0=>B7 hj.box hg (by decide) e0)).trans hj.box⟩,?_,keep (by decide) E0,fun y hy => ?_⟩
 ·rw[List.map_append,D9];rfl
 ·rcases D6.1 hy with hy|hy
  ·have:=h.ry y (List.mem_append_left _ hy)
   exact⟨keep (by decide) this.1,keepA (D2 y hy) this.2⟩
  ·rw[r8.1 hy]
   refine⟨keep (by decide) D0.1,?_⟩
   show World.ownsRow _ B 73 4 _ (l.set k { l[k]with u:=V }).length ((l.set k { l[k]with u:=V }).flatMap atC)
   rw[List.length_set];exact D1
theorem b41{ns:List Nd}{x x':Nd}(hn:x.n=x'.n)(hd:x.ds=x'.ds)(s:List UInt8):a0n (ns++[x]) ns.length s=a0n (ns++[x']) ns.length s:=by
 have p1:pa (ns++[x]) ns.length=x.n:=by unfold pa;simp
 have p2:pa (ns++[x']) ns.length=x'.n:=by unfold pa;simp
 have d1:dsR (ns++[x]) ns.length=x.ds:=by unfold dsR;simp
 have d2:dsR (ns++[x']) ns.length=x'.ds:=by unfold dsR;simp
 rw[a4k,a4k (ns++[x']),p1,p2,d1,d2,hn,hd];by_cases h:0<=x'.n/\x'.n.toNat<ns.length
 ·rw[a4j (F8 _ _) s _ h.2,a4j (F8 _ _) s _ h.2]
 ·rw[f6 h,f6 h]
theorem S5.nsAt{w:World}{B rb:Nat}{S:ByteArray}{s:Rf}{vn:Value}{ys:List Ny}(h:S5 w B rb S s vn ys)(h0:ys≠[]):S3 w w.heap.size vn s.ns:=by
 rw[<-h.ns];exact b6j h.rn rfl (D7.2 h0) (fun y hy=>⟨a1R (h.ry y hy).1,a1R (h.ry y hy).2⟩)
theorem a6L{w:World}{B rb:Nat}{S:ByteArray}{s:Rf}{x X:Nd}{vn vD vA:Value}{ys:List Ny}(h:S5 w B rb S (s.add x) vn (ys++[⟨x,vD,vA⟩]))(hk:Kp s)(D0:x.n=X.n)(D1:x.ds=X.ds)(h1:0<=x.n)(h2:x.n<(s.ns.length:Int))(hl:s.ns.length<=1000000)(p:ByteArray) :
 Calls Tryz.prog 41 #[vn,.int .i64 (s.ns.length:Int),.string p] w fun e w'=>e=.returned (.tuple #[.string (G4 (s.ns++[X]) s.ns.length p).1,.bool (G4 (s.ns++[X]) s.ns.length p).2])/\w'=w:=by
 have hv:=h.nsAt (by simp)
 have D2:0<s.ns.length:=D7.2 hk.ne
 have hung:W4 (s.ns++[x]) (s.ns.length+1):=fun j D3 D9=>by
  rcases E9 (I2 D9)with hlt|rfl
  ·rw[a6v (F8 _ _) hlt];exact hk.hung j D3 hlt
  ·have e:pa (s.ns++[x]) s.ns.length=x.n:=by unfold pa;simp
   rw[e];exact⟨h1,h2⟩
 have h0:pa (s.ns++[x]) 0 = -1:=(a6v (F8 _ _) D2).trans hk.h0;have hm:=a7W (s.ns++[x]) vn s.ns.length p w hv (by simp) (by simp;omega) hung h0
 rw[b2n (l:=s.ns++[x]) (l':=s.ns++[X]) (fun q=>b41 D0 D1 q) p]at hm;exact hm
def xkN(X:Nd)(U:ByteArray)(F:At->At)(k:Nat):Nd:={ X with u:=U,ats:=(X.ats.take k).map F++X.ats.drop k }
theorem b7U(X:Nd)(U:ByteArray)(F:At->At):xkN X U F X.ats.length={ X with u:=U,ats:=X.ats.map F }:=by
 unfold xkN;rw[I1,List.drop_length,A7]
theorem a8v(X:Nd)(U:ByteArray)(F:At->At)(k:Nat):(xkN X U F k).ats.length=X.ats.length:=by
 show((X.ats.take k).map F++X.ats.drop k).length=_
 rw[e8,C9,u0,B6];omega
theorem b1J{X:Nd}{U:ByteArray}{F:At->At}{k:Nat}(hk:k<X.ats.length):(xkN X U F k).ats[k]'(by rw[a8v];exact hk)=X.ats[k]:=by
 apply Option.some_inj.1
 rw[<-i5,<-i5 hk]
 show((X.ats.take k).map F++X.ats.drop k)[k]? = _
 rw[List.getElem?_append_right (by rw[C9,u0];omega),List.getElem?_drop]
 congr 1
 rw[C9,u0];omega
theorem a9T{X:Nd}{U:ByteArray}{F:At->At}{k:Nat}(hk:k<X.ats.length){a:At}(ha:F X.ats[k]=a):({ xkN X U F k with ats:=(xkN X U F k).ats.set k a }:Nd)=xkN X U F (k+1):=by
 have h:((X.ats.take k).map F++X.ats.drop k).set k a=(X.ats.take (k+1)).map F++X.ats.drop (k+1):=by
  rw[List.set_append_right _ _ (by rw[C9,u0];omega)]
  rw[C9,u0,show k-min k X.ats.length=0 by omega]
  rw[B8 hk,List.set_cons_zero,l8 hk,List.map_append,<-ha];simp
 show({ X with u:=U,ats:=((X.ats.take k).map F++X.ats.drop k).set k a }:Nd)=_
 rw[h];rfl
theorem b5z{X:Nd}{U:ByteArray}{F:At->At}{k:Nat}(hk:k<X.ats.length)(ha:F X.ats[k]=X.ats[k]):xkN X U F (k+1)=xkN X U F k:=by
 rw[<-a9T hk ha]
 have h:(xkN X U F k).ats.set k X.ats[k]=(xkN X U F k).ats:=by
  have h2:=b1J (U:=U) (F:=F) hk;rw[<-h2,List.set_getElem_self]
 rw[h]
theorem S5.attStep{w:World}{B rb ga ca:Nat}{S:ByteArray}{s:Rf}{X:Nd}{U:ByteArray}{F:At->At}{vn vD:Value}{ys:List Ny}{k:Nat}(h:S5 w B rb S (s.add (xkN X U F k)) vn (ys++[⟨xkN X U F k,vD,.slice (some ⟨ga,0,none⟩) X.ats.length ca⟩]))(D0:∀y∈ys,y.a.ownBlock=none∨y.a.ownBlock≠some ga)(hk:k<X.ats.length)(V:ByteArray)(hV:F X.ats[k]={ X.ats[k]with u:=V }) :
 S5 (w.setCell ⟨ga,k*4+2,none⟩ (.string V)) B rb S (s.add (xkN X U F (k+1))) vn (ys++[⟨xkN X U F (k+1),vD,.slice (some ⟨ga,0,none⟩) X.ats.length ca⟩]):=by
 have hl:=a8v X U F k;have h1:S5 w B rb S (s.add (xkN X U F k)) vn (ys++[⟨xkN X U F k,vD,.slice (some ⟨ga,0,none⟩) (xkN X U F k).ats.length ca⟩]):=by rw[hl];exact h
 have h2:=S5.setAtt (l:=(xkN X U F k).ats) rfl h1 D0 (k:=k) (by rw[hl];exact hk) V
 rw[b1J hk,a9T hk hV,hl]at h2;exact h2
theorem S5.attCell{w:World}{B rb ga ca:Nat}{S:ByteArray}{s:Rf}{X:Nd}{U:ByteArray}{F:At->At}{vn vD:Value}{ys:List Ny}{k:Nat}(h:S5 w B rb S (s.add (xkN X U F k)) vn (ys++[⟨xkN X U F k,vD,.slice (some ⟨ga,0,none⟩) X.ats.length ca⟩]))(hk:k<X.ats.length) :
 (w.cell? ⟨ga,k*4,none⟩=some (.string X.ats[k].p)/\w.cell? ⟨ga,k*4+2,none⟩=some (.string X.ats[k].u))/\∃cs,w.heap[ga]? = some (.cells cs 73 (0,0)):=by
 have D0:=(h.ry _ (List.mem_append_right _ (List.mem_singleton_self _))).2;dsimp only at D0;have hl:=a8v X U F k;rw[hl]at D0;obtain⟨cs,hg,_⟩:=a3X D0
 have hc:∀j (hj:j<4),w.cell? ⟨ga,k*4+j,none⟩=some ((atC X.ats[k])[j]'hj):=fun j hj=>a2F D0 (by
  rw[Q6 (f:=atC) (c:=4) (fun _=>rfl) _ k j (by rw[hl];exact hk) hj,b1J hk]
  exact i5 hj)
 exact⟨⟨hc 0 (by omega),hc 2 (by omega)⟩,cs,hg⟩
theorem S5.lastCell{w:World}{B rb g c:Nat}{S:ByteArray}{s:Rf}{x:Nd}{vD vA:Value}{ys:List Ny}(h:S5 w B rb S (s.add x) (.slice (some ⟨g,0,none⟩) (ys.length+1) c) (ys++[⟨x,vD,vA⟩])) :
 w.cell? ⟨g,ys.length*8+7,none⟩=some vA/\∃cs,w.heap[g]? = some (.cells cs 42 (0,0)):=by
 have D0:=h.rn;rw[e8,j0]at D0;obtain⟨cs,hg,_⟩:=a3X D0;refine⟨a2F D0 (j:=ys.length*8+7) ?_,cs,hg⟩;have h1:=Q6 a2i (ys++[(⟨x,vD,vA⟩ : Ny)]) ys.length 7 (by simp) (by omega)
 rw[h1];simp[nyC,ndC]
theorem L7.setNew{rb g j:Nat}{v v' u:Value}{w w':World}(h:L7 rb v v' w w')(hg:v'.ownBlock=some g∨w.heap.size<=g):L7 rb v v' w (w'.drew.setCell ⟨g,j,none⟩ u):=by
 have h2:v.ownBlock=some g∨w.heap.size<=g:=by
  rcases hg with h0|h0
  ·exact h.new g h0
  ·exact .inr h0
 refine⟨fun b hb D1 D0 => ?_,h.new,?_⟩
 ·rw[f7 _ _ _ _ (show b≠g from fun e => ?_)]
  ·exact h.els b hb D1 D0
  ·subst e
   rcases h2 with h0|h0
   ·exact D0 h0
   ·omega
 ·have:=h.size
  simpa [World.setCell]using this
def a9R(w0:World)(B rb xb:Nat)(S:ByteArray)(s:Rf)(vn0 vn:Value)(ys:List Ny)(X:Nd)(U:ByteArray)(F:At->At)(vD vA:Value)(i:Value)(wr:World):Prop :=
 ∃k:Nat,k<=X.ats.length/\i=.int .i64 k/\S5 wr B rb S (s.add (xkN X U F k)) vn (ys++[⟨xkN X U F k,vD,vA⟩])/\wr.heap[xb]? = some (.cells #[.int .i64 X.k,.int .i64 X.n,.string X.p,.string X.l,.string X.u,.string X.t,vD,vA] 42 (0,0))/\L7 rb vn0 vn w0 wr/\Below B w0 wr
theorem b2R{w0 w:World}{B rb xb ga ca k:Nat}{S:ByteArray}{s:Rf}{vn0 vn vD:Value}{ys:List Ny}{X:Nd}{U:ByteArray}{F:At->At}(hr:S5 w B rb S (s.add (xkN X U F k)) vn (ys++[⟨xkN X U F k,vD,.slice (some ⟨ga,0,none⟩) X.ats.length ca⟩]))(D0:w.heap[xb]? = some (.cells #[.int .i64 X.k,.int .i64 X.n,.string X.p,.string X.l,.string X.u,.string X.t,vD,.slice (some ⟨ga,0,none⟩) X.ats.length ca] 42 (0,0)))(hg:L7 rb vn0 vn w0 w)(hb:Below B w0 w)(D2:∀y∈ys,y.a.ownBlock=none∨y.a.ownBlock≠some ga)(hk:k<X.ats.length)(D1:w0.heap.size<=ga)(hB:B<=w0.heap.size)(V:ByteArray)(hV:F X.ats[k]={ X.ats[k]with u:=V }) :
 a9R w0 B rb xb S s vn0 vn ys X U F vD (.slice (some ⟨ga,0,none⟩) X.ats.length ca) (.int .i64 ((k+1:Nat):Int)) (w.drew.setCell ⟨ga,k*4+2,none⟩ (.string V)):=by
 obtain⟨_,csa,D3⟩:=hr.attCell hk;refine⟨k+1,hk,rfl,(hr.below ((b8 _ _).drew)).attStep D2 hk V hV,?_,hg.setNew (.inr D1),(hb.drew).setCell (p:=⟨ga,k*4+2,none⟩) (d8 hB D1) _⟩;rw[f7 _ _ _ _ (show xb≠ga from B7 D0 D3 (by decide))]
 exact D0
theorem b1w{w0 w:World}{B rb xb k:Nat}{S:ByteArray}{s:Rf}{vn0 vn vD vA:Value}{ys:List Ny}{X:Nd}{U:ByteArray}{F:At->At}(hr:S5 w B rb S (s.add (xkN X U F k)) vn (ys++[⟨xkN X U F k,vD,vA⟩]))(D0:w.heap[xb]? = some (.cells #[.int .i64 X.k,.int .i64 X.n,.string X.p,.string X.l,.string X.u,.string X.t,vD,vA] 42 (0,0)))(hg:L7 rb vn0 vn w0 w)(hb:Below B w0 w)(hB:B<=w0.heap.size)(hk:k<X.ats.length)(hV:F X.ats[k]=X.ats[k]){w':World}(hw:Below w.heap.size w w') :
 a9R w0 B rb xb S s vn0 vn ys X U F vD vA (.int .i64 ((k+1:Nat):Int)) w' :=
 ⟨k+1,hk,rfl,by rw[b5z hk hV];exact hr.below hw,(hw.block xb (i3 D0)).trans D0,hg.trans (L7.of_below hw),hb.trans (hw.mono (d8 hB hb.size))⟩
end Go.Proofs.YteinegfbpfhflaaGreatDoor
