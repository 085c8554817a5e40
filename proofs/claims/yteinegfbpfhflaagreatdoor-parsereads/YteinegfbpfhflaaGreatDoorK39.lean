/-
  Marks, as the document's own reader and the program's read them. Plain mathematics. Conditions: no byte 13.
  Instructions, as the document's own reader and the program's read them. Plain mathematics. Conditions: no byte 13.
-/
import Derived.Test.YteinegfbpfhflaaGreatDoorK38
namespace Go.Proofs.YteinegfbpfhflaaGreatDoor
open Go.RowKit
set_option linter.unusedVariables false
theorem a5Y(c:UInt8):X0 c=true↔c=32∨c=9∨c=10∨c=13:=by
 unfold X0;simp only[Bool.or_eq_true,x8,or_assoc]
theorem a1b{c:UInt8}{z:List UInt8}(h:X0 c=false):n8 (c::z)=c::z:=by
 unfold n8;rw[List.dropWhile_cons_of_neg (by simp[h])]
theorem a5c{s:List UInt8}{c:UInt8}{z:List UInt8}(h:n8 s=c::z):X0 c=false:=by
 have:=List.head?_dropWhile_not X0 s;unfold n8 at h;rw[h]at this;simpa using this
theorem a33{c:UInt8}(h:c∉y8):c≠32/\c≠9/\c≠10/\c≠61/\c≠47/\c≠62:=by
 simp only[y8,q8,C5,or_false]at h;refine⟨?_,?_,?_,?_,?_,?_⟩<;>(rintro rfl;exact h (by simp))
theorem b2M{c:UInt8}(h:c∉y8)(D0:c≠13):X0 c=false:=by
 obtain⟨h1,h2,h3,_⟩:=a33 h;cases hb:X0 c with
 |false=>rfl
 |true=>rcases(a5Y c).1 hb with e|e|e|e<;>contradiction
theorem b8p{s:Rf}{c:UInt8}{z:List UInt8}(h:s.rest=c::z)(hc:c∉y8)(D0:c≠13):(M1 s).2.bad=true:=by
 refine(a4X s).1 ?_;have hb:n8 s.rest=c::z:=by rw[h];exact a1b (b2M hc D0)
 rw[V5 (s:=C8 s) (by show m9 [61] (n8 s.rest)=none;rw[hb];exact a0K (Ne.symm (a33 hc).2.2.2.1) _)]
 rfl
theorem b0q(s:Rf):(∀r2 q r3,V3 s.rest=some r2->V0 r2=some (q,r3)->M1 s=(q,s.to r3))/\((V3 s.rest=none∨∃r2,V3 s.rest=some r2/\V0 r2=none)->(M1 s).2.bad=true):=by
 have he:V3 s.rest=(m9 [61] (C8 s).rest).map n8:=rfl;cases h1:m9 [61] (C8 s).rest with
 |none =>
  rw[h1]at he;refine⟨fun r2 q r3 h=>(by rw[he]at h;cases h),fun _=>(a4X s).1 ?_⟩
  rw[V5 h1];rfl
 |some r1 =>
  rw[h1]at he;have D1:C8 (D0 [61] (C8 s))=s.to (n8 r1):=by rw[L4 h1];rfl
  cases h2:m9 [39] (n8 r1)with
  |some a =>
   have hq:V0 (n8 r1)=K5 [39] a:=by unfold V0;rw[h2]
   have hr:M1 s=J3 [39] (s.to a):=by
    unfold M1;rw[D1];rw[show m9 [39] (s.to (n8 r1)).rest=some a from h2];rfl
   refine⟨fun r2 q r3 h h3 => ?_,fun h => ?_⟩
   ·rw[he]at h
    simp only[Option.map_some,f5]at h;subst h;rw[hq]at h3;rw[hr,a0I (s:=s.to a) h3];rfl
   ·rcases h with h|⟨r2,h,h3⟩
    ·rw[he]at h;cases h
    ·rw[he]at h
     simp only[Option.map_some,f5]at h;subst h;rw[hq]at h3;rw[hr,a1c (s:=s.to a) h3];rfl
  |none =>
   cases h3:m9 [34] (n8 r1)with
   |some a =>
    have hq:V0 (n8 r1)=K5 [34] a:=by unfold V0;rw[h2,h3]
    have hr:M1 s=J3 [34] (s.to a):=by
     unfold M1;rw[D1];rw[show m9 [39] (s.to (n8 r1)).rest=none from h2];dsimp only;rw[show m9 [34] (s.to (n8 r1)).rest=some a from h3];rfl
    refine⟨fun r2 q r3 h h4 => ?_,fun h => ?_⟩
    ·rw[he]at h
     simp only[Option.map_some,f5]at h;subst h;rw[hq]at h4;rw[hr,a0I (s:=s.to a) h4];rfl
    ·rcases h with h|⟨r2,h,h4⟩
     ·rw[he]at h;cases h
     ·rw[he]at h
      simp only[Option.map_some,f5]at h;subst h;rw[hq]at h4;rw[hr,a1c (s:=s.to a) h4];rfl
   |none =>
    have hq:V0 (n8 r1)=none:=by unfold V0;rw[h2,h3]
    have hr:M1 s=([],(s.to (n8 r1)).fail):=by
     unfold M1;rw[D1];rw[show m9 [39] (s.to (n8 r1)).rest=none from h2];dsimp only;rw[show m9 [34] (s.to (n8 r1)).rest=none from h3]
    refine⟨fun r2 q r3 h h4 => ?_,fun _=>by rw[hr];rfl⟩
    rw[he]at h;simp only[Option.map_some,f5]at h;subst h;rw[hq]at h4;cases h4
theorem b6B(s:Rf)(x:Nd)(D1:(13:UInt8)∉s.rest):(∀r x',T5 s.rest x=some (r,x')->a4Y s=s.to r/\a2k s x=x')/\(T5 s.rest x=none->(a4Y s).bad=true):=by
 obtain⟨f1,f2⟩:=a6V s;cases hs:M4 (G9 y8 s.rest)with
 |none =>
  have hm:T5 s.rest x=none:=by unfold T5;rw[hs]
  refine⟨fun r x' h=>(by rw[hm]at h;cases h),fun _=>a1G ?_ _⟩
  rcases f2 hs with hb|⟨c,z,h1,h2,h3⟩
  ·exact(a6I _).1 hb
  ·exact b8p h1 h3 (fun e=>D1 (e ▸ h2))
 |some q =>
  obtain⟨p,l⟩:=q;have hf:=f1 p l hs;have D0:(K8 s).2=s.to (J9 y8 s.rest):=by rw[hf]
  obtain⟨g1,g2⟩:=b0q (s.to (J9 y8 s.rest))
  have hm:∀{T},T5 s.rest x=T->(match V3 (J9 y8 s.rest)with
   |none=>none
   |some r2=>match V0 r2 with
    |none=>none
    |some (q,r3)=>match X5 q with
     |none=>none
     |some v=>some (r3,V4 x p l (ba v)))=T:=fun h=>by rw[<-h];unfold T5;rw[hs];rfl
  cases h1:V3 (J9 y8 s.rest)with
  |none =>
   refine⟨fun r x' h => ?_,fun _=>a1G (by rw[D0];exact g2 (.inl h1)) _⟩
   have:=hm h;rw[h1]at this;cases this
  |some r2 =>
   cases h2:V0 r2 with
   |none =>
    refine⟨fun r x' h => ?_,fun _=>a1G (by rw[D0];exact g2 (.inr ⟨r2,h1,h2⟩)) _⟩
    have:=hm h;rw[h1]at this;dsimp only at this;rw[h2]at this;cases this
   |some qr =>
    obtain⟨q,r3⟩:=qr;have hq:=g1 r2 q r3 h1 h2;cases h3:X5 q with
    |none =>
     refine⟨fun r x' h => ?_,fun _ => ?_⟩
     ·have:=hm h
      rw[h1]at this;dsimp only at this;rw[h2]at this;dsimp only at this;rw[h3]at this;cases this
     ·unfold a4Y;rw[D0,hq,h3]
      simp[Rf.or]
    |some v =>
     refine⟨fun r x' h => ?_,fun h => ?_⟩
     ·have:=hm h
      rw[h1]at this;dsimp only at this;rw[h2]at this;dsimp only at this;rw[h3]at this;simp only[f5,Prod.mk.injEq]at this;obtain⟨rfl,rfl⟩:=this;refine⟨?_,?_⟩
      ·unfold a4Y;rw[D0,hq,h3]
       exact T0 _
      ·unfold a2k;rw[D0,hq,hf,h3];rfl
     ·have:=hm h
      rw[h1]at this;dsimp only at this;rw[h2]at this;dsimp only at this;rw[h3]at this;cases this
theorem a9c{k:Nat}{s:Rf}(x:Nd)(h:s.bad=true):(Y4 k s x).1.bad=true:=(a1h k s x).1 h
theorem b5t(x:Nd)(N:Nat)(p l:List UInt8)(v:ByteArray):V4 (G6 x N) p l v=G6 (V4 x p l v) N:=by
 unfold V4
 split
 ·rfl
 ·split<;>rfl
theorem b2o(s:List UInt8)(x:Nd)(N:Nat):T5 s (G6 x N)=(T5 s x).map fun q=>(q.1,G6 q.2 N):=by
 unfold T5
 split
 ·rfl
 ·split
  ·rfl
  ·split
   ·rfl
   ·split
    ·rfl
    ·rw[b5t];rfl
theorem b8z{s r:List UInt8}{x x':Nd}(h:T5 s x=some (r,x')):x'.k=x.k:=by
 unfold T5 at h
 split at h
 ·cases h
 ·split at h
  ·cases h
  ·split at h
   ·cases h
   ·split at h
    ·cases h
    ·simp only[f5,Prod.mk.injEq]at h
     rw[<-h.2];exact(a5e _ _ _ _).1
theorem b22(full:List UInt8)(o:Po)(N:Nat):∀(n k:Nat) (st:Rd) (s:Rf) (x:Nd),st.rest=s.rest->s.bad=false->(13:UInt8)∉s.rest->st.rest.length<n->s.rest.length<k ->
 (a2A full o n st x=none->(Y4 k s (G6 x N)).1.bad=true) /\
 (∀st',a2A full o n st x=some st'->∃s1 x1,Y4 k s (G6 x N)=(s1,G6 x1 N)/\x1.k=x.k/\s1.bad=false/\s1.ns=s.ns /\
   ((∃r,m9 [62] s1.rest=some r/\st'=a1s { st with rest:=r } o x1 full) ∨
    (m9 [62] s1.rest=none/\∃r,m9 [47,62] s1.rest=some r/\st'=a5z (a1s { st with rest:=r } o x1 full) st.op ⟨(Q1 { st with ds:=st.ds++x1.ds } o).ns.length,full,st.ds.length⟩)))
 |0,_,st,_,_,_,_,_,h,_=>by omega
 |_,0,_,s,_,_,_,_,_,h=>by omega
 |n+1,k+1,st,s,x,hr,hb,h13,hn,hk=>by
  rw[Y4,f6 (show ¬s.bad=true by rw[hb];simp),a2A]
  have D0:(C8 s).rest=n8 st.rest:=by rw[hr];rfl
  cases h1:m9 [62] (n8 st.rest)with
  |some r =>
   have hs:F3 [62] (C8 s)=true:=L8 (by rw[D0];exact h1)
   rw[g8 (show(F3 [62] (C8 s)||F3 [47,62] (C8 s))=true by rw[hs];rfl)]
   refine⟨fun h=>(by cases h),fun st' h => ?_⟩
   simp only[f5]at h;subst h;exact⟨C8 s,x,rfl,rfl,hb,rfl,.inl ⟨r,by rw[D0];exact h1,rfl⟩⟩
  |none =>
   have hs:F3 [62] (C8 s)=false:=Q9 (by rw[D0];exact h1)
   dsimp only;cases h2:m9 [47,62] (n8 st.rest)with
   |some r =>
    have D1:F3 [47,62] (C8 s)=true:=L8 (by rw[D0];exact h2)
    rw[g8 (show(F3 [62] (C8 s)||F3 [47,62] (C8 s))=true by rw[hs,D1];rfl)]
    refine⟨fun h=>(by cases h),fun st' h => ?_⟩
    simp only[f5]at h;subst h;exact⟨C8 s,x,rfl,rfl,hb,rfl,.inr ⟨by rw[D0];exact h1,r,by rw[D0];exact h2,rfl⟩⟩
   |none =>
    have D1:F3 [47,62] (C8 s)=false:=Q9 (by rw[D0];exact h2)
    rw[f6 (show ¬(F3 [62] (C8 s)||F3 [47,62] (C8 s))=true by rw[hs,D1];simp)]
    dsimp only;have E0:=I0 s.rest;by_cases D3:(n8 st.rest).length<st.rest.length
    ·have D2:¬Y6 s=0:=by unfold Y6;rw[<-hr];omega
     rw[g8 D3,f6 D2];obtain⟨m1,m2⟩:=b6B (C8 s) (G6 x N) ((I8 s).mem h13);rw[D0,b2o]at m1 m2;cases hm:T5 (n8 st.rest) x with
     |none =>
      rw[hm]at m2;exact⟨fun _=>a9c _ (m2 rfl),fun st' h=>(by cases h)⟩
     |some q =>
      obtain⟨r,x'⟩:=q;rw[hm]at m1;obtain⟨e1,e2⟩:=m1 r _ rfl;have E1:=a3g hm;dsimp only;rw[e1,e2];have D9:=((I8 s).trans (a3b (C8 s)));have:=b22 full o N n k { st with rest:=r } ((C8 s).to r) x' rfl hb (by rw[<-e1];exact D9.mem h13) (by show r.length<n;omega) (by show r.length<k;rw[<-hr]at hk;omega)
      rw[b8z hm]at this;exact this
    ·have D2:Y6 s=0:=by unfold Y6;rw[<-hr];omega
     rw[f6 D3,g8 D2];exact⟨fun _=>rfl,fun st' h=>by cases h⟩
theorem a2b{e:List UInt8}{c:UInt8}{z:List UInt8}(h:c∈e):G9 e (c::z)=[]/\J9 e (c::z)=c::z :=
 ⟨List.takeWhile_cons_of_neg (by simpa using h),List.dropWhile_cons_of_neg (by simpa using h)⟩
theorem b95:Off 63:=⟨by decide,by decide⟩
theorem a8p(s:List UInt8):∃b,s=b++n8 s/\(∀c∈b,X0 c=true):=⟨s.takeWhile X0,List.takeWhile_append_dropWhile.symm,fun c hc=>o9.1 List.all_takeWhile c hc⟩
theorem b8q{a b:UInt8}{s r:List UInt8}(h:m9 [a,b] s=some r):s=a::b::r:=I6 h
theorem a7d:∀{b:List UInt8} (h:∀c∈b,X0 c=true) (x:List UInt8),n8 (b++x)=n8 x:=fun h x=>List.dropWhile_append_of_pos h
theorem b0S(s:Rf)(G7:(13:UInt8)∉s.rest) :
 (K5 [63,62] s.rest=none->(J3 [63,62] (a0v (O5 s))).2.bad=true) /\
 (∀p r,K5 [63,62] s.rest=some (p,r) ->
   (J3 [63,62] (a0v (O5 s))=(n8 (J9 [32,9,10] p),s.to r)/\a1H s=G9 [32,9,10] p) ∨
   ((J3 [63,62] (a0v (O5 s))).2.bad=true/\¬nm (G9 [32,9,10] p))):=by
 obtain⟨n,x,hr⟩:=a2e s.rest;have E6:(63:UInt8)∉y9 n:=a5G b95 hr.ok;have E7:∀c∈y9 n,c∉([32,9,10] : List UInt8):=fun c hc hm=>a5G (b4w c hm) hr.ok hc;have D0:K5 [63,62] s.rest=(K5 [63,62] x).map fun q=>(y9 n++q.1,q.2):=by rw[hr.eq];exact a5T E6 x
 have E8:x <:+ s.rest:=⟨y9 n,hr.eq.symm⟩;have E1:(13:UInt8)∉x:=fun hm=>G7 (E8.subset hm);have bads:∀{u:Rf},u.bad=true->(J3 [63,62] (a0v u)).2.bad=true:=fun hu=>((a3c _).trans (V7 _ _)).1 hu;obtain⟨b,hb,D1⟩:=a8p x;by_cases hn:n=[]
 ·subst hn
  have D2:=bads (a39 hr);refine⟨fun _=>D2,fun p r hp => .inr ⟨D2,fun E2 => ?_⟩⟩
  have hq:∃y,s.rest=G9 [32,9,10] p++y:=by
   obtain⟨k,_,_,rfl,_⟩:=a1a hp;exact⟨J9 [32,9,10] (s.rest.take k)++s.rest.drop k,by rw[<-List.append_assoc,a26,I5]⟩
  obtain⟨y,hy⟩:=hq;obtain⟨l,hl,G0,e⟩:=E2;rw[e]at hy;obtain⟨d,hd⟩:=Run.most (c:=[]) (a:=[]) (b:=l) (x:=x) (y:=y) rfl (by simpa using G0) (by rw[<-hy];exact hr.eq.symm) (by simpa using hr.stop)
  exact hl (List.append_eq_nil_iff.1 hd.symm).1
 obtain⟨e1,e2⟩:=a6H hr hn;rw[e1];cases hx:m9 [63,62] x with
 |some r0 =>
  have hs:a0v (s.to x)=s.to x:=by unfold a0v;rw[g8 (L8 (s:=s.to x) hx)]
  have hc:K5 [63,62] x=some ([],r0):=by
   rw[b8q hx,a2S,g8 (by simp)];rfl
  rw[hc]at D0;refine⟨fun h=>(by rw[D0]at h;cases h),fun p r hp => .inl ?_⟩
  rw[D0]at hp;simp only[Option.map_some,f5,Prod.mk.injEq,A7]at hp;obtain⟨rfl,rfl⟩:=hp;rw[hs,a0I (s:=s.to x) hc,e2];obtain⟨u1,u2⟩:=a2y E7 [];rw[A7]at u1 u2;rw[u1,u2];exact⟨rfl,by simp[G9]⟩
 |none =>
  have G1:¬F3 [63,62] (s.to x)=true:=by rw[Q9 (s:=s.to x) hx];simp
  have hq:a0v (s.to x)=(C8 (s.to x)).or (decide (Y6 (s.to x)=0)):=by unfold a0v;rw[f6 G1]
  cases E0:b with
  |nil =>
   rw[E0,l7]at hb
   have h0:Y6 (s.to x)=0:=by
    show x.length-(n8 x).length=0
    rw[<-hb];omega
   have D2:(J3 [63,62] (a0v (s.to x))).2.bad=true:=by
    rw[hq,i6 h0,a6y];exact(V7 _ _).1 rfl
   refine⟨fun _=>D2,fun p r hp => .inr ⟨D2,fun E2 => ?_⟩⟩;rw[D0]at hp;obtain⟨⟨p1,r1⟩,E3,he⟩:=Option.map_eq_some_iff.1 hp;simp only[Prod.mk.injEq]at he;obtain⟨rfl,rfl⟩:=he;obtain⟨u1,_⟩:=a2y E7 p1;rw[u1]at E2;cases D9:x with
   |nil=>rw[D9,b9c]at E3;cases E3
   |cons c z =>
    rw[D9]at hb E3 hx E1;have E5:=a5c hb.symm
    rw[a2S,f6 (by
     intro G4;rw[show m9 [63,62] (c::z)=some ((c::z).drop 2)by unfold m9;rw[g8 G4];rfl]at hx
     cases hx)]at E3
    obtain⟨⟨p2,r2⟩,G5,he⟩:=Option.map_eq_some_iff.1 E3;simp only[Prod.mk.injEq]at he;obtain⟨rfl,rfl⟩:=he
    have G8:c∉([32,9,10] : List UInt8):=fun hm=>by
     simp only[q8,C5,or_false]at hm;rcases hm with rfl|rfl|rfl<;>exact absurd E5 (by decide)
    have hu:G9 [32,9,10] (c::p2)=c::G9 [32,9,10] p2:=by unfold G9;rw[List.takeWhile_cons_of_pos (by simpa using G8)]
    rw[hu]at E2;obtain⟨l,hl,G0,e⟩:=E2;obtain⟨k,_,_,D3,J6⟩:=a1a G5
    have hy:s.rest=y9 l++(J9 [32,9,10] p2++z.drop k):=by
     rw[<-e,hr.eq,D9,List.append_assoc,i9,<-List.append_assoc (G9 _ _),a26,D3,I5]
    obtain⟨d,hd⟩:=Run.most (c:=[]) (a:=n) (b:=l) (x:=x) (y:=J9 [32,9,10] p2++z.drop k) (by simpa using hr.ok) (by simpa using G0) (by rw[<-hy];exact hr.eq.symm) (by simpa using hr.stop)
    have h1:=congrArg List.length e;rw[hd,K7,e8,e8,i8]at h1;omega
  |cons c bz =>
   have h0:¬Y6 (s.to x)=0:=by
    show ¬x.length-(n8 x).length=0
    have:=congrArg List.length hb;rw[E0,e8,i8]at this;omega
   have J1:a0v (s.to x)=s.to (n8 x):=by rw[hq,f8 h0,T0];rfl
   have G6:(63:UInt8)∉b:=fun hm=>absurd (D1 _ hm) (by decide)
   have J2:K5 [63,62] x=(K5 [63,62] (n8 x)).map fun q=>(b++q.1,q.2):=by
    conv=>lhs;rw[hb]
    exact a5T G6 _
   rw[J2,Option.map_map]at D0;rw[J1];cases E4:K5 [63,62] (n8 x)with
   |none =>
    rw[E4]at D0;refine⟨fun _=>by rw[a1c (s:=s.to (n8 x)) E4];rfl,fun p r hp=>(by rw[D0]at hp;cases hp)⟩
   |some q =>
    obtain⟨p2,r2⟩:=q;rw[E4]at D0;refine⟨fun h=>(by rw[D0]at h;cases h),fun p r hp => .inl ?_⟩
    rw[D0]at hp;simp only[Option.map_some,Function.comp_apply,f5,Prod.mk.injEq]at hp;obtain⟨rfl,rfl⟩:=hp;rw[a0I (s:=s.to (n8 x)) E4,e2];obtain⟨u1,u2⟩:=a2y E7 (b++p2)
    have E5:c∈([32,9,10] : List UInt8):=by
     have h1:=(a5Y c).1 (D1 c (by rw[E0];exact List.mem_cons_self))
     have h2:c≠13:=fun e=>E1 (by rw[hb,E0,e];simp)
     simp only[q8,C5,or_false];rcases h1 with h|h|h|h
     ·exact .inl h
     ·exact .inr (.inl h)
     ·exact .inr (.inr h)
     ·exact absurd h h2
    have hu:G9 [32,9,10] (b++p2)=[]:=by
     rw[E0,i9];exact(a2b E5).1
    have J4:J9 [32,9,10] (b++p2)=b++p2:=by
     rw[E0,i9];exact(a2b E5).2
    rw[u1,u2,hu,J4,A7,a7d D1];refine⟨?_,rfl⟩
    have G5:n8 p2=p2:=by
     cases J5:p2 with
     |nil=>rfl
     |cons d z =>
      obtain⟨k,_,_,D3,_⟩:=a1a E4;rw[J5]at D3;cases D9:n8 x with
      |nil=>rw[D9]at D3;simp at D3
      |cons d' z' =>
       rw[D9]at D3;cases k with
       |zero=>simp at D3
       |succ k =>
        rw[List.take_succ_cons]at D3
        injection D3 with hd _
        rw[hd];exact a1b (a5c D9)
    rw[G5];rfl
end Go.Proofs.YteinegfbpfhflaaGreatDoor
