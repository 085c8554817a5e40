/-
  Elements, as the document's own reader and the program's read them: one after the other, they come to the same nodes. Plain mathematics. Conditions: no byte 13.
  Elements with all that is in them, as both readers read them. Plain mathematics. Conditions: no byte 13.
-/
import Derived.Test.YteinegfbpfhflaaGreatDoorK39
import Derived.Test.YteinegfbpfhflaaGreatDoorK41
namespace Go.Proofs.YteinegfbpfhflaaGreatDoor
open Go.RowKit
set_option linter.unusedVariables false
set_option maxHeartbeats 8000000
structure Env(ns:List Nd)(n:Nat)(ds:List Dc):Prop where
 lt:n<ns.length
 up:∀s,a0b ds.reverse s=a0n ns n s
theorem a6v{ns l:List Nd}(hp:ns <+: l){m:Nat}(h:m<ns.length):pa l m=pa ns m:=by
 obtain⟨t,rfl⟩:=hp;unfold pa;rw[List.getElem?_append_left h]
theorem b84{ns l:List Nd}(hp:ns <+: l){m:Nat}(h:m<ns.length):dsR l m=dsR ns m:=by
 obtain⟨t,rfl⟩:=hp;unfold dsR;rw[List.getElem?_append_left h]
theorem a4k(l:List Nd)(n:Nat)(s:List UInt8):a0n l n s=if 0<n then(a0b (dsR l n) s).or (if 0<=pa l n/\(pa l n).toNat<n then a0n l (pa l n).toNat s else none)else none:=by
 conv=>lhs;rw[a0n]
 rfl
theorem a4j{ns l:List Nd}(hp:ns <+: l)(s:List UInt8):∀n,n<ns.length->a0n l n s=a0n ns n s:=by
 intro n
 induction n using Nat.strongRecOn with
 |ind n ih =>
  intro hn;rw[a4k l,a4k ns,b84 hp hn,a6v hp hn];by_cases h2:0<=pa ns n/\(pa ns n).toNat<n
  ·rw[ih _ h2.2 (by omega)]
  ·rw[f6 h2,f6 h2]
theorem Env.pre{ns l:List Nd}{n:Nat}{ds:List Dc}(h:Env ns n ds)(hp:ns <+: l):Env l n ds:=⟨x9 h.lt hp.length_le,fun s=>by rw[h.up,a4j hp s n h.lt]⟩
theorem b6S(a b:List Dc)(s:List UInt8):a0b (a++b) s=(a0b a s).or (a0b b s):=by
 unfold a0b;rw[List.find?_append];cases a.find? (fun d=>decide (d.p.data.toList=s))<;>simp
theorem Env.down{ns:List Nd}{n:Nat}{ds:List Dc}(h:Env ns n ds)(x:Nd)(hx:x.n=(n:Int))(hu:DsU x.ds):Env (ns++[x]) ns.length (ds++x.ds):=by
 have hn:=h.lt;refine⟨by simp,fun s => ?_⟩
 have hp:pa (ns++[x]) ns.length=(n:Int):=by unfold pa;simp[hx]
 have hd:dsR (ns++[x]) ns.length=x.ds:=by unfold dsR;simp
 rw[a3m s (by omega) hp hn,hd,a4j (F8 _ _) s n hn,<-h.up,List.reverse_append,b6S]
 congr 1
 exact a6X s hu
theorem a5l{ns:List Nd}{n:Nat}{ds:List Dc}(h:Env ns n ds)(p:ByteArray):a0l ds p=(G4 ns n p).1:=by
 unfold a0l G4;by_cases hp:p.data.toList=[120,109,108]
 ·rw[g8 hp,show N4 p a1K=true from a0p.2 hp];rfl
 ·have he:N4 p a1K=false:=by
   cases hq:N4 p a1K with
   |false=>rfl
   |true=>exact absurd (a0p.1 hq) hp
  rw[f6 hp,he,cond_false,h.up];cases a0n ns n p.data.toList<;>rfl
theorem b2n{l l':List Nd}{n:Nat}(h:∀s,a0n l n s=a0n l' n s)(p:ByteArray):G4 l n p=G4 l' n p:=by
 unfold G4;rw[h]
theorem b82{ns:List Nd}{n:Nat}{ds:List Dc}(h:Env ns n ds)(x:Nd)(hx:x.n=(n:Int))(hu:DsU x.ds):elM (ds++x.ds) x=Q4 ns x:=by
 have hd:=h.down x hx hu;unfold elM Q4;have h1:a0l (ds++x.ds) x.p=(G4 (ns++[x]) ns.length x.p).1:=a5l hd _
 have h2:a1I (ds++x.ds)=b5q (ns++[x]) ns.length:=by
  funext a
  unfold a1I b5q;rw[a5l hd]
 rw[h1,h2]
theorem a9u{x:Nd}(hk:x.k=1)(hu:¬DsU x.ds):N0 x=false:=by
 have h2:(!a0c (V8 x.ds))=false:=by
  cases h:(!a0c (V8 x.ds))with
  |false=>rfl
  |true=>exact absurd ((b2G x.ds).1 h) hu
 unfold N0;rw[show(x.k==1)=true by rw[x8];exact hk,cond_true]
 unfold a1z;rw[h2];simp
theorem b21{n:Int}{t y:List UInt8}(h:¬nm t):N0 ⟨4,n,⟨#[]⟩,ba t,⟨#[]⟩,ba y,[],[]⟩=false:=by
 have hn:nmS (ba t)=false:=by
  unfold nmS;rw[B5];exact a6D h
 unfold N0;have h1:((4:Int)==1)=false:=rfl;have h2:((4:Int)==2)=false:=rfl;have h3:((4:Int)==3)=false:=rfl;have h4:((4:Int)==4)=true:=rfl;dsimp only;rw[h1,h2,h3,h4,cond_false,cond_false,cond_false,cond_true];unfold a6f;rw[hn];simp
structure At2(st:Rd)(fr:List Po)(o:Po)(s:Rf):Prop where
 op:st.op=fr++[o]
 rest:st.rest=s.rest
 bad:s.bad=false
 r13:(13:UInt8)∉s.rest
 env:Env s.ns o.node st.ds
theorem b09(st:Rd)(o:Po)(s:Rf)(h:st.ns=s.ns):(Q1 st o).ns=(J2 o.node st.tx s).ns:=by
 unfold Q1 J2;by_cases ht:st.tx=[]
 ·rw[g8 ht,g8 ht,A7,h]
 ·rw[f6 ht,f6 ht,h];rfl
theorem a2D(n:Int)(t:List UInt8)(s:Rf):(J2 n t s).rest=s.rest/\(J2 n t s).bad=s.bad:=by
 unfold J2;split<;>exact⟨rfl,rfl⟩
theorem a81{st:Rd}{fr:List Po}{o:Po}{r:List UInt8}(h:m9 [60,33,45,45] st.rest=some r):L0 st fr o=a3R { st with rest:=r } o:=by unfold L0;rw[h]
theorem b2h{st:Rd}{fr:List Po}{o:Po}{r:List UInt8}(h1:m9 [60,33,45,45] st.rest=none)(h:m9 [60,33,91,67,68,65,84,65,91] st.rest=some r):L0 st fr o=a4w { st with rest:=r }:=by
 unfold L0;rw[h1];dsimp only;rw[h]
theorem a6z{st:Rd}{fr:List Po}{o:Po}{r:List UInt8}(h1:m9 [60,33,45,45] st.rest=none)(h2:m9 [60,33,91,67,68,65,84,65,91] st.rest=none)(h:m9 [60,63] st.rest=some r):L0 st fr o=a2v { st with rest:=r } o:=by
 unfold L0;rw[h1];dsimp only;rw[h2];dsimp only;rw[h]
theorem b6i{st:Rd}{fr:List Po}{o:Po}{r:List UInt8}(h1:m9 [60,33,45,45] st.rest=none)(h2:m9 [60,33,91,67,68,65,84,65,91] st.rest=none)(h3:m9 [60,63] st.rest=none)(h:m9 [60,47] st.rest=some r):L0 st fr o=Z8 { st with rest:=r } fr o:=by
 unfold L0;rw[h1];dsimp only;rw[h2];dsimp only;rw[h3];dsimp only;rw[h]
theorem b98{st:Rd}{fr:List Po}{o:Po}{r:List UInt8}(h1:m9 [60,33,45,45] st.rest=none)(h2:m9 [60,33,91,67,68,65,84,65,91] st.rest=none)(h3:m9 [60,63] st.rest=none)(h4:m9 [60,47] st.rest=none)(h:m9 [60] st.rest=some r):L0 st fr o=a1Q { st with rest:=r } o:=by
 unfold L0;rw[h1];dsimp only;rw[h2];dsimp only;rw[h3];dsimp only;rw[h4];dsimp only;rw[h]
theorem a80{st:Rd}{fr:List Po}{o:Po}(h:m9 [60] st.rest=none):L0 st fr o=a3t st:=by
 have key:∀t,m9 (60::t) st.rest=none:=fun t=>by
  cases hr:st.rest with
  |nil=>exact a1U _ _
  |cons c z =>
   rw[hr]at h;unfold m9 at h ⊢
   rw[f6 (fun hp=>by
    rw[List.isPrefixOf_cons_cons,i4]at hp;rw[g8 (by rw[List.isPrefixOf_cons_cons,hp.1];rfl)]at h
    cases h)]
 unfold L0;rw[key];dsimp only;rw[key];dsimp only;rw[key];dsimp only;rw[key];dsimp only;rw[h]
theorem a4R{p s r:List UInt8}(h:m9 p s=some r)(hp:p≠[]):s≠[]:=by
 rintro rfl;cases p with
 |nil=>exact hp rfl
 |cons c t=>rw[a1U]at h;cases h
def b7M(st:Rd)(fr:List Po)(o:Po)(s s':Rf):Prop :=
 (a2x s'/\a5B st)∨∃st',X6 st=X6 st'/\At2 st' fr o s'/\st'.ds=st.ds/\st'.tx=[]/\st'.ns=s'.ns/\s.ns <+: s'.ns/\(∃x,s'.ns[s.ns.length]? = some x/\x.k=1/\x.n=o.node)/\s'.rest.length<s.rest.length
def a9O(st:Rd)(fr:List Po)(o:Po)(s s':Rf):Prop :=
 (a2x s'/\a5B st)∨∃st',X6 st=X6 st'/\At2 st' fr o s'/\st'.ds=st.ds/\(Q1 st' o).ns=s'.ns/\s.ns <+: s'.ns/\(s'.rest=[]∨F3 [60,47] s'=true)/\s'.rest.length<=s.rest.length
theorem a9O.step{st st1:Rd}{fr:List Po}{o:Po}{s s1 s':Rf}(h:a9O st1 fr o s1 s')(he:X6 st=X6 st1)(hd:st1.ds=st.ds)(hp:s.ns <+: s1.ns)(hr:s1.rest.length<=s.rest.length):a9O st fr o s s':=by
 rcases h with⟨h1,h2⟩|⟨st',h1,h2,h3,h4,h5,h6,h7⟩
 ·exact .inl ⟨h1,M7 he h2⟩
 ·exact .inr ⟨st',he.trans h1,h2,h3.trans hd,h4,hp.trans h5,h6,d8 h7 hr⟩
def b7L(f:Nat):Prop:=∀(st:Rd) (fr:List Po) (o:Po) (s:Rf) (r:List UInt8),At2 st fr o s->(Q1 st o).ns=s.ns->st.rest.length<=f->m9 [60] st.rest=some r ->
 m9 [60,33,45,45] st.rest=none->m9 [60,33,91,67,68,65,84,65,91] st.rest=none->m9 [60,63] st.rest=none->m9 [60,47] st.rest=none->b7M st fr o s (M0 f o.node s)
theorem b0A{ns:List Nd}{n:Nat}{ds:List Dc}(h:Env ns n ds):ns≠[]:=by
 have:=h.lt;rintro rfl;simp at this
theorem a11{E:Int->Rf->Rf}(hE:∀n s,L6 s (E n s)){k:Nat}{n:Int}{t:List UInt8}{s:Rf}(h:a2x s):a2x (M6 E k n t s):=h.mono (Z6 hE k n t s)
theorem a3k{f:Nat}(hE:b7L f):∀(k:Nat) (st:Rd) (fr:List Po) (o:Po) (s:Rf),fr≠[]->At2 st fr o s->st.ns=s.ns->st.rest.length<=f->st.rest.length<k->a9O st fr o s (M6 (M0 f) k o.node st.tx s)
 |0,st,_,_,_,_,_,_,_,h=>by omega
 |k+1,st,fr,o,s,hfr,hA,hns,hf,hk=>by
  have J1:=a1i f;obtain⟨E0,D1,E3,G5,E6⟩:=hA
  have E8:st.op.length≠1:=by
   rw[E0,e8,j0];have:=D7.2 hfr;omega
  rw[M6];by_cases E1:s.bad=true∨s.rest=[]∨F3 [60,47] s=true
  ·rw[g8 E1]
   obtain⟨p1,p2⟩:=a2D o.node st.tx s;refine .inr ⟨st,rfl,⟨E0,by rw[p1];exact D1,by rw[p2];exact E3,by rw[p1];exact G5,E6.pre (a0i _ _ _).2.1⟩,rfl,b09 st o s hns,(a0i _ _ _).2.1,?_,by rw[p1];exact c9 _⟩
   rcases E1 with h|h|h
   ·rw[E3]at h;cases h
   ·exact .inl (by rw[p1];exact h)
   ·right;unfold F3 at h ⊢;rw[p1];exact h
  rw[f6 E1];have G0:st.rest≠[]:=fun h=>E1 (.inr (.inl (D1 ▸ h)))
  have L5:m9 [60,47] st.rest=none:=by
   cases h:m9 [60,47] st.rest with
   |none=>rfl
   |some r=>exact absurd (L8 (s:=s) (by rw[<-D1];exact h)) (fun e=>E1 (.inr (.inr e)))
  cases hc:m9 [60,33,91,67,68,65,84,65,91] st.rest with
  |some q =>
   have J4:m9 [60,33,91,67,68,65,84,65,91] s.rest=some q:=D1 ▸ hc;rw[g8 (L8 J4),L4 J4]
   have D9:m9 [60,33,45,45] st.rest=none:=by
    rw[I6 hc];rfl
   have J5:=I7 hc;simp only[i8,t7]at J5;cases D2:K5 [93,93,62] q with
   |none =>
    left
    refine⟨a11 J1 (.inl ?_),N9 (R3 E0 G0 ?_)⟩
    ·rw[a1c (s:=s.to q) D2];rfl
    ·rw[b2h D9 hc];unfold a4w;dsimp only;rw[D2]
   |some pr =>
    obtain⟨p,r⟩:=pr;rw[a0I (s:=s.to q) D2];obtain⟨_,L3,_⟩:=P4 D2
    have D3:L0 st fr o=some { st with rest:=r,tx:=st.tx++p }:=by
     rw[b2h D9 hc];unfold a4w;dsimp only;rw[D2];dsimp only;rw[f6 E8]
    have hm:L6 s (s.to r):=Y0 s ((b3N D2).trans (V1 J4));have hA':At2 { st with rest:=r,tx:=st.tx++p } fr o (s.to r):=⟨E0,rfl,E3,hm.mem G5,E6⟩;exact(a3k hE k { st with rest:=r,tx:=st.tx++p } fr o (s.to r) hfr hA' hns (by show r.length<=f;omega) (by show r.length<k;omega)).step (U8 E0 G0 D3) rfl hm.2.1 hm.len
  |none =>
  have J4:m9 [60,33,91,67,68,65,84,65,91] s.rest=none:=D1 ▸ hc;rw[f6 (by rw[Q9 J4];simp)]
  cases J6:m9 [60] st.rest with
  |none =>
   have G7:m9 [60] s.rest=none:=D1 ▸ J6;rw[g8 (Q9 G7)];have hm:L6 s (s.to (J9 [60] s.rest)):=Y0 s (b1O _ _);cases E4:J7 (G9 [60] st.rest)with
   |none =>
    left
    refine⟨a11 J1 (.inl ?_),N9 (R3 E0 G0 ?_)⟩
    ·rw[<-D1,E4];simp[Rf.or]
    ·rw[a80 J6];unfold a3t;rw[f6 E8,E4]
   |some y =>
    have D3:L0 st fr o=some { st with rest:=J9 [60] st.rest,tx:=st.tx++y }:=by
     rw[a80 J6];unfold a3t;rw[f6 E8,E4]
    have J8:=a6E E0 G0 D3;have hA':At2 { st with rest:=J9 [60] st.rest,tx:=st.tx++y } fr o (s.to (J9 [60] s.rest)):=⟨E0,by show J9 [60] st.rest=J9 [60] s.rest;rw[D1],E3,hm.mem G5,E6⟩
    have:=(a3k hE k { st with rest:=J9 [60] st.rest,tx:=st.tx++y } fr o (s.to (J9 [60] s.rest)) hfr hA' hns (by show(J9 [60] st.rest).length<=f;have:=J8;dsimp only at this;omega) (by show(J9 [60] st.rest).length<k;have:=J8;dsimp only at this;omega)).step (U8 E0 G0 D3) rfl hm.2.1 hm.len
    rw[<-D1,E4,Option.getD_some,Option.isNone_some,T0];rw[<-D1]at this;exact this
  |some r1 =>
  have G7:m9 [60] s.rest=some r1:=D1 ▸ J6;rw[f6 (by rw[L8 G7];simp)]
  obtain⟨p1,p2⟩:=a2D o.node st.tx s;have L1:=a0i o.node st.tx s;have G1:=b09 st o s hns;have G4:Env (J2 o.node st.tx s).ns o.node st.ds:=E6.pre L1.2.1;cases D9:m9 [60,33,45,45] st.rest with
  |some q =>
   have E5:m9 [60,33,45,45] s.rest=some q:=D1 ▸ D9;rw[g8 (L8 E5)];have J5:=I7 D9;simp only[i8,t7]at J5;have J3:D0 [60,33,45,45] (J2 o.node st.tx s)=(J2 o.node st.tx s).to q:=L4 (by rw[p1];exact E5)
   cases D2:K5 [45,45,62] q with
   |none =>
    left
    refine⟨a11 J1 (.inl ?_),N9 (R3 E0 G0 ?_)⟩
    ·unfold a0d;rw[J3,a1c (s:=(J2 o.node st.tx s).to q) D2];rfl
    ·rw[a81 D9];unfold a3R;dsimp only;rw[D2]
   |some pr =>
    obtain⟨p,r⟩:=pr;obtain⟨_,L3,_⟩:=P4 D2
    have hR:a0d o.node (J2 o.node st.tx s)=((J2 o.node st.tx s).to r).add ⟨3,o.node,⟨#[]⟩,⟨#[]⟩,⟨#[]⟩,ba p,[],[]⟩:=by
     unfold a0d;rw[J3,a0I (s:=(J2 o.node st.tx s).to q) D2];rfl
    have D3:L0 st fr o=some (a1o { st with rest:=r } o (a15 p)):=by
     rw[a81 D9];unfold a3R;dsimp only;rw[D2]
    have hm:L6 s (a0d o.node (J2 o.node st.tx s)):=L1.trans (a4c _ _)
    have G8:(a1o { st with rest:=r } o (a15 p)).ns=(a0d o.node (J2 o.node st.tx s)).ns:=by
     rw[hR]
     show(Q1 st o).ns++[G6 (a15 p) o.node]=_
     rw[G1];rfl
    have hA':At2 (a1o { st with rest:=r } o (a15 p)) fr o (a0d o.node (J2 o.node st.tx s)):=⟨E0,by rw[hR];rfl,by rw[hR];exact p2.trans E3,hm.mem G5,E6.pre hm.2.1⟩
    exact(a3k hE k (a1o { st with rest:=r } o (a15 p)) fr o (a0d o.node (J2 o.node st.tx s)) hfr hA' G8 (by show r.length<=f;omega) (by show r.length<k;omega)).step (U8 E0 G0 D3) rfl hm.2.1 hm.len
  |none =>
  have E5:m9 [60,33,45,45] s.rest=none:=D1 ▸ D9;rw[f6 (by rw[Q9 E5];simp)]
  cases E7:m9 [60,63] st.rest with
  |some q =>
   have E2:m9 [60,63] s.rest=some q:=D1 ▸ E7;rw[g8 (L8 E2)];have J5:=I7 E7;simp only[i8,t7]at J5;have J3:D0 [60,63] (J2 o.node st.tx s)=(J2 o.node st.tx s).to q:=L4 (by rw[p1];exact E2)
   have L2:(13:UInt8)∉q:=fun hm=>G5 ((V1 E2).subset hm);obtain⟨i1,i2⟩:=b0S ((J2 o.node st.tx s).to q) L2;have hm:L6 s (W5 o.node (J2 o.node st.tx s)):=L1.trans (a4a _ _);cases D2:K5 [63,62] q with
   |none =>
    left
    refine⟨a11 J1 (.inl ?_),N9 (R3 E0 G0 ?_)⟩
    ·unfold W5;rw[J3];exact i1 D2
    ·rw[a6z D9 hc E7];unfold a2v;dsimp only;rw[D2]
   |some pr =>
    obtain⟨p,r⟩:=pr;obtain⟨_,L3,_⟩:=P4 D2
    have D3:L0 st fr o=some (a1o { st with rest:=r } o (a0Z (G9 [32,9,10] p) (n8 (J9 [32,9,10] p)))):=by
     rw[a6z D9 hc E7];unfold a2v;dsimp only;rw[D2]
    rcases i2 p r D2 with⟨g1,g2⟩|⟨g1,g2⟩
    ·have hR:W5 o.node (J2 o.node st.tx s)=((J2 o.node st.tx s).to r).add ⟨4,o.node,⟨#[]⟩,ba (G9 [32,9,10] p),⟨#[]⟩,ba (n8 (J9 [32,9,10] p)),[],[]⟩:=by
      unfold W5;rw[J3,g1,g2];rfl
     have G8:(a1o { st with rest:=r } o (a0Z (G9 [32,9,10] p) (n8 (J9 [32,9,10] p)))).ns=(W5 o.node (J2 o.node st.tx s)).ns:=by
      rw[hR]
      show(Q1 st o).ns++[G6 (a0Z _ _) o.node]=_
      rw[G1];rfl
     have hA':At2 (a1o { st with rest:=r } o (a0Z (G9 [32,9,10] p) (n8 (J9 [32,9,10] p)))) fr o (W5 o.node (J2 o.node st.tx s)):=⟨E0,by rw[hR];rfl,by rw[hR];exact p2.trans E3,hm.mem G5,E6.pre hm.2.1⟩
     exact(a3k hE k (a1o { st with rest:=r } o (a0Z (G9 [32,9,10] p) (n8 (J9 [32,9,10] p)))) fr o (W5 o.node (J2 o.node st.tx s)) hfr hA' G8 (by show r.length<=f;omega) (by show r.length<k;omega)).step (U8 E0 G0 D3) rfl hm.2.1 hm.len
    ·left
     refine⟨a11 J1 (.inl ?_),M7 (U8 E0 G0 D3) (a4u ?_)⟩
     ·unfold W5;rw[J3];exact g1
     ·show a2Y ((Q1 st o).ns++[G6 (a0Z _ _) o.node])
      exact a17 (by rw[G1];exact b0A G4) (b21 g2)
  |none =>
  have E2:m9 [60,63] s.rest=none:=D1 ▸ E7;rw[f6 (by rw[Q9 E2];simp)]
  have L7:At2 st fr o (J2 o.node st.tx s):=⟨E0,by rw[p1];exact D1,p2.trans E3,by rw[p1];exact G5,G4⟩
  rcases hE st fr o (J2 o.node st.tx s) r1 L7 G1 hf J6 D9 hc E7 L5 with⟨g1,g2⟩|⟨st',g1,g2,g3,g4,g5,g6,_,g7⟩
  ·exact .inl ⟨a11 J1 g1,g2⟩
  ·rw[p1]at g7
   have hl':st'.rest.length<st.rest.length:=by rw[g2.rest,D1];exact g7
   have:=(a3k hE k st' fr o (M0 f o.node (J2 o.node st.tx s)) hfr g2 g5 (by omega) (by omega)).step g1 g3 (L1.2.1.trans g6) (A6 g7)
   rw[g4]at this;exact this
theorem a6k{s p l:List UInt8}(h:M4 s=some (p,l)):a3x s p l:=by
 unfold M4 at h
 split at h
 ·next hx =>
  simp only[f5]at h;have:=hx.choose_spec;rw[h]at this;exact this
 ·cases h
theorem b4W{s s' p l:List UInt8}(h:a3x s p l)(h':a3x s' p l):s=s':=by
 rcases h with⟨h1,h2,_⟩|⟨h1,_,h2⟩<;>rcases h' with⟨k1,k2,_⟩|⟨k1,_,k2⟩
 ·rw[<-h2,<-k2]
 ·rw[h1]at k1;exact absurd rfl (b6q k1)
 ·rw[k1]at h1;exact absurd rfl (b6q h1)
 ·rw[h2,k2]
theorem b6a(p r:List UInt8):m9 p (p++r)=some r:=by
 unfold m9;rw[g8 (by rw[F0];exact F8 _ _),List.drop_left]
theorem b6X(s:Rf){full p l:List UInt8}(hF:M4 full=some (p,l))(E1:∀c∈full,c∉y8)(D9:(13:UInt8)∉s.rest) :
 (∀q1 q2,m9 full s.rest=some q1->m9 [62] (n8 q1)=some q2->(D0 [62] (C8 (K8 s).2)).or (decide ((K8 s).1≠(p,l)))=s.to q2) /\
 ((m9 full s.rest=none∨∃q1,m9 full s.rest=some q1/\m9 [62] (n8 q1)=none)->((D0 [62] (C8 (K8 s).2)).or (decide ((K8 s).1≠(p,l)))).bad=true):=by
 obtain⟨f1,f2⟩:=a6V s
 constructor
 ·intro q1 q2 h1 h2
  have hs:=I6 h1
  have hq:G9 y8 q1=[]/\J9 y8 q1=q1:=by
   cases D3:q1 with
   |nil=>rw[D3]at h2;exact absurd h2 (by rw[show n8 []=[]from rfl,a1U];simp)
   |cons c z =>
    refine a2b ?_;by_cases hb:X0 c=true
    ·have D1:c≠13:=fun e=>D9 (by rw[hs,D3,e];simp)
     rcases(a5Y c).1 hb with e|e|e|e
     ·rw[e];decide
     ·rw[e];decide
     ·rw[e];decide
     ·exact absurd e D1
    ·rw[D3,a1b (by simpa using hb)]at h2
     have:=I6 h2
     injection this with e _
     rw[e];decide
  obtain⟨u1,u2⟩:=a2y E1 q1;rw[<-hs,hq.1,A7]at u1;rw[<-hs,hq.2]at u2;have hf:=f1 p l (by rw[u1];exact hF)
  rw[hf,u2,L4 (s:=C8 (s.to q1)) h2,f8 (by simp),T0];rfl
 ·intro h
  cases D2:M4 (G9 y8 s.rest)with
  |none =>
   refine a1G ?_ _;rcases f2 D2 with hb|⟨c,z,h1,h2,h3⟩
   ·exact((I8 _).trans (G8 _ _)).1 hb
   ·have D1:c≠13:=fun e=>D9 (e ▸ h2)
    rw[V5 (by
     show m9 [62] (n8 (K8 s).2.rest)=none
     rw[h1,a1b (b2M h3 D1)];exact a0K (Ne.symm (a33 h3).2.2.2.2.2) _)]
    rfl
  |some q =>
   obtain⟨p',l'⟩:=q;have hf:=f1 p' l' D2;rw[hf];by_cases E0:(p',l')=(p,l)
   ·rw[E0]at D2
    have he:G9 y8 s.rest=full:=b4W (a6k D2) (a6k hF)
    have hp:m9 full s.rest=some (J9 y8 s.rest):=by
     conv=>lhs;rw[<-a26 y8 s.rest,he]
     exact b6a _ _
    rcases h with h|⟨q1,h1,h2⟩
    ·rw[hp]at h;cases h
    ·rw[hp]at h1
     simp only[f5]at h1;subst h1;refine a1G ?_ _;rw[V5 (s:=C8 (s.to (J9 y8 s.rest))) h2];rfl
   ·rw[i6 E0];simp[Rf.or]
theorem b67{pl:List UInt8×List UInt8}{s:Rf}(h:(D0 [60,47] s).bad=true):(a9s pl s).bad=true:=((X7 _).trans ((I8 _).trans ((G8 _ _).trans (a0j _ _)))).1 h
theorem a8T{c d:UInt8}{s r:List UInt8}(h:m9 [c,d] s=some r)(t:List UInt8){e:UInt8}(he:e≠d):m9 (c::e::t) s=none:=by
 rw[I6 h];unfold m9;rw[f6];simp[List.isPrefixOf,he]
theorem a3W{ds ds':List Dc}:(ds++ds').take ds.length=ds:=List.take_left
theorem a48{f:Nat}{n:Int}{s:Rf}(h:(F6 n s).1.bad=true):a2x (M0 (f+1) n s):=by
 rw[M0,g8 h];exact .inl h
theorem b66{f:Nat}{n:Int}{s:Rf}(h:a2Y ((F6 n s).1.ns++[Q4 (F6 n s).1.ns (F6 n s).2])):a2x (M0 (f+1) n s):=by
 rw[M0]
 split
 ·next hb=>exact .inl hb
 ·have hF:a2x ((F6 n s).1.add (Q4 (F6 n s).1.ns (F6 n s).2)):=.inr h
  split
  ·exact hF.mono (G8 _ _)
  ·exact hF.mono ((G8 _ _).trans ((Z6 (a1i f) _ _ _ _).trans (a3f _ _)))
theorem b3C:∀f:Nat,b7L f
 |0=>by
  intro st fr o s r hA M2 hf hr _ _ _ _;have:=I7 hr;simp only[i8,t7]at this;omega
 |f+1=>by
  intro st fr o s r hA M2 hf hr P5 P6 P7 P8;have hE:=b3C f;obtain⟨G5,E6,M3,M5,E0⟩:=hA;have P1:m9 [60] s.rest=some r:=E6 ▸ hr;have M8:st.rest≠[]:=a4R hr (by simp)
  have P9:=I7 hr;simp only[i8,t7]at P9;have G7:(13:UInt8)∉r:=fun hm=>M5 ((V1 P1).subset hm);have R0:D0 [60] s=s.to r:=L4 P1;have M9:L0 st fr o=a1Q { st with rest:=r } o:=b98 P5 P6 P7 P8 hr;obtain⟨f1,f2⟩:=a6V (s.to r);have N0:W9 s=K8 (s.to r):=by unfold W9;rw[R0]
  cases G8:M4 (G9 y8 r)with
  |none =>
   left
   refine⟨a48 ?_,N9 (R3 G5 M8 (by rw[M9];unfold a1Q;dsimp only;rw[G8]))⟩
   unfold F6;rw[N0];rcases f2 G8 with hb|⟨c,z,h1,h2,h3⟩
   ·exact a9c _ hb
   ·have N1:c≠13:=fun e=>G7 (e ▸ h2)
    have N2:n8 (K8 (s.to r)).2.rest=c::z:=by rw[h1];exact a1b (b2M h3 N1)
    obtain⟨_,_,_,_,n47,n62⟩:=a33 h3;rw[Y4]
    split
    ·next hb=>exact hb
    ·rw[f6 (by
      have a1:F3 [62] (C8 (K8 (s.to r)).2)=false:=Q9 (by show m9 [62] (n8 _)=none;rw[N2];exact a0K (Ne.symm n62) _)
      have a2:F3 [47,62] (C8 (K8 (s.to r)).2)=false:=Q9 (by show m9 [47,62] (n8 _)=none;rw[N2];simp[m9,List.isPrefixOf,Ne.symm n47])
      rw[a1,a2];simp),g8 (by unfold Y6;rw[N2,h1];omega)]
     rfl
  |some q =>
  obtain⟨p,l⟩:=q;have J1:=f1 p l G8;have R1:(W9 s).2=s.to (J9 y8 r):=by rw[N0,J1];rfl
  have P2:(W9 s).1=(p,l):=by rw[N0,J1]
  have S2:=a0R y8 r;have J2:(13:UInt8)∉J9 y8 r:=fun hm=>G7 ((b1O _ _).subset hm)
  have P3:a1Q { st with rest:=r } o=a2A (G9 y8 r) o ((J9 y8 r).length+1) { st with rest:=J9 y8 r } ⟨1,0,ba p,ba l,⟨#[]⟩,⟨#[]⟩,[],[]⟩:=by
   unfold a1Q;dsimp only;rw[G8]
  have R2:F6 o.node s=Y4 ((J9 y8 r).length+1) (s.to (J9 y8 r)) (G6 ⟨1,0,ba p,ba l,⟨#[]⟩,⟨#[]⟩,[],[]⟩ o.node):=by
   unfold F6;rw[R1,P2];rfl
  obtain⟨t1,t2⟩:=b22 (G9 y8 r) o o.node ((J9 y8 r).length+1) ((J9 y8 r).length+1) { st with rest:=J9 y8 r } (s.to (J9 y8 r)) ⟨1,0,ba p,ba l,⟨#[]⟩,⟨#[]⟩,[],[]⟩ rfl M3 J2 (Nat.lt_succ_self _) (Nat.lt_succ_self _);rw[<-R2]at t1 t2;cases L3:a2A (G9 y8 r) o ((J9 y8 r).length+1) { st with rest:=J9 y8 r } ⟨1,0,ba p,ba l,⟨#[]⟩,⟨#[]⟩,[],[]⟩with
  |none =>
   left
   exact⟨a48 (t1 L3),N9 (R3 G5 M8 (by rw[M9,P3,L3]))⟩
  |some st1 =>
  have E2:X6 st=X6 st1:=U8 G5 M8 (by rw[M9,P3,L3])
  obtain⟨s1,x1,hM,L5,L7,N3,J3⟩:=t2 st1 L3;have D1:s1.ns=s.ns:=N3
  have L9:L6 s s1:=by
   have:=a3e o.node s;rw[hM]at this;exact this
  have P4:(G6 x1 o.node).n=(o.node:Int):=rfl;have S3:(G6 x1 o.node).ds=x1.ds:=rfl;have R4:∀ds,G6 (elM ds x1) o.node=elM ds (G6 x1 o.node):=fun ds=>rfl
  have D3:∀r',(a1s { st with rest:=r' } o x1 (G9 y8 r)).ns=s.ns++[elM (st.ds++x1.ds) (G6 x1 o.node)]:=fun r'=>by
   rw[<-R4,<-M2];rfl
  by_cases hu:DsU x1.ds
  rotate_left 1
  ·left
   refine⟨b66 ?_,M7 E2 (a4u ?_)⟩
   ·rw[hM]
    exact a17 (by rw[D1];exact b0A E0) (a9u (L5 ▸ rfl) hu)
   ·rcases J3 with⟨r2,_,rfl⟩|⟨_,r2,_,rfl⟩
    ·show a2Y (a1s { st with rest:=r2 } o x1 (G9 y8 r)).ns
     rw[D3];exact a17 (b0A E0) (a9u (L5 ▸ rfl) hu)
    ·refine a9E (a4p (a1s { st with rest:=r2 } o x1 (G9 y8 r)) _) ?_
     rw[D3];exact a17 (b0A E0) (a9u (L5 ▸ rfl) hu)
  have J4:elM (st.ds++x1.ds) (G6 x1 o.node)=Q4 s.ns (G6 x1 o.node):=b82 E0 (G6 x1 o.node) P4 hu;have J5:(s.ns++[Q4 s.ns (G6 x1 o.node)])[s.ns.length]? = some (Q4 s.ns (G6 x1 o.node)):=by simp
  have J6:(Q4 s.ns (G6 x1 o.node)).k=1:=L5;rcases J3 with⟨r2,E4,rfl⟩|⟨S4,r2,E4,rfl⟩
  ·have E8:F3 [47,62] s1=false:=Q9 (by rw[I6 E4];rfl)
   have N4:=I7 E4;simp only[i8,t7]at N4;have R5:=L9.len
   have hR:M0 (f+1) o.node s=a9s (p,l) (M6 (M0 f) (s1.rest.length+1) (s.ns.length:Nat) [] ((s1.add (Q4 s.ns (G6 x1 o.node))).to r2)):=by
    rw[M0,hM,f6 (by rw[L7];simp),f6 (by rw[E8];simp),P2,D1,L4 (s:=s1.add (Q4 s.ns (G6 x1 o.node))) E4]
   rw[hR];obtain⟨st1,D9⟩ : ∃st1,st1=a1s { st with rest:=r2 } o x1 (G9 y8 r):=⟨_,rfl⟩;have D2:X6 st=X6 st1:=by rw[D9];exact E2
   have R6:st1.op=(fr++[o])++[⟨s.ns.length,G9 y8 r,st.ds.length⟩]:=by rw[D9,<-G5,<-M2];rfl
   have J7:st1.ns=s.ns++[Q4 s.ns (G6 x1 o.node)]:=by
    rw[D9,<-J4];exact D3 r2
   have E5:L6 s ((s1.add (Q4 s.ns (G6 x1 o.node))).to r2):=L9.trans ((a0k _ _).trans (Y0 _ (V1 E4)))
   have R7:At2 st1 (fr++[o]) ⟨s.ns.length,G9 y8 r,st.ds.length⟩ ((s1.add (Q4 s.ns (G6 x1 o.node))).to r2):=by
    refine⟨R6,by rw[D9];rfl,L7,E5.mem M5,?_⟩
    have:=E0.down (Q4 s.ns (G6 x1 o.node)) P4 hu;rw[D9]
    show Env (s1.ns++[Q4 s.ns (G6 x1 o.node)]) s.ns.length (st.ds++x1.ds)
    rw[D1];exact this
   have N5:st1.tx=[]:=by rw[D9];rfl
   have J8:st1.ds=st.ds++x1.ds:=by rw[D9];rfl
   have E3:st1.rest=r2:=by rw[D9];rfl
   have M1:=a3k hE (s1.rest.length+1) st1 (fr++[o]) ⟨s.ns.length,G9 y8 r,st.ds.length⟩ ((s1.add (Q4 s.ns (G6 x1 o.node))).to r2) (by simp) R7 (by rw[J7];show _=s1.ns++[_];rw[D1]) (by rw[E3];rw[E6]at hf;omega) (by rw[E3];omega)
   rw[N5]at M1;dsimp only at M1;generalize S5:M6 (M0 f) (s1.rest.length+1) (s.ns.length:Nat) [] ((s1.add (Q4 s.ns (G6 x1 o.node))).to r2)=s3 at M1 ⊢;rcases M1 with⟨g1,g2⟩|⟨st2,g1,g2,g3,g4,g5,g6,g7⟩
   ·exact .inl ⟨g1.mono (a3f _ _),M7 D2 g2⟩
   have G0:s.ns++[Q4 s.ns (G6 x1 o.node)] <+: s3.ns:=by
    have e:((s1.add (Q4 s.ns (G6 x1 o.node))).to r2).ns=s.ns++[Q4 s.ns (G6 x1 o.node)]:=by show s1.ns++[_]=_;rw[D1]
    rw[e]at g5;exact g5
   have g7':s3.rest.length<=r2.length:=g7;have E1:st2.op.length≠1:=by rw[g2.op];simp
   rcases g6 with g6|g6
   ·left
    refine⟨.inl (b67 ?_),M7 D2 (M7 g1 (N9 ?_))⟩
    ·rw[V5 (by rw[g6];exact a1U _ _)];rfl
    ·rw[a8X (by rw[g2.rest];exact g6),f6 E1]
   obtain⟨q,hq⟩:=a8I.1 g6;have R8:=I7 hq;simp only[i8,t7]at R8;have L1:m9 [60,47] st2.rest=some q:=by rw[g2.rest];exact hq
   have N6:st2.rest≠[]:=a4R L1 (by simp)
   have N7:(13:UInt8)∉q:=fun hm=>g2.r13 ((V1 hq).subset hm)
   have G1:L0 st2 (fr++[o]) ⟨s.ns.length,G9 y8 r,st.ds.length⟩=Z8 { st2 with rest:=q } (fr++[o]) ⟨s.ns.length,G9 y8 r,st.ds.length⟩ :=
    b6i (a8T L1 _ (by decide)) (a8T L1 _ (by decide)) (a8T L1 _ (by decide)) L1
   obtain⟨b1,b2⟩:=b6X (s3.to q) G8 (fun c hc=>b5G hc) N7
   have R9:a9s (p,l) s3=(D0 [62] (C8 (K8 (s3.to q)).2)).or (decide ((K8 (s3.to q)).1≠(p,l))):=by
    unfold a9s;rw[L4 hq]
   rw[R9];cases E7:m9 (G9 y8 r) q with
   |none =>
    left
    refine⟨.inl (b2 (.inl E7)),M7 D2 (M7 g1 (N9 (R3 g2.op N6 ?_)))⟩;rw[G1];unfold Z8;dsimp only;rw[f6 E1,E7]
   |some q1 =>
    cases G4:m9 [62] (n8 q1)with
    |none =>
     left
     refine⟨.inl (b2 (.inr ⟨q1,E7,G4⟩)),M7 D2 (M7 g1 (N9 (R3 g2.op N6 ?_)))⟩;rw[G1];unfold Z8;dsimp only;rw[f6 E1,E7];dsimp only;rw[G4]
    |some q2 =>
     right
     have N8:L0 st2 (fr++[o]) ⟨s.ns.length,G9 y8 r,st.ds.length⟩=some { a5z { st2 with rest:=n8 q1 } (fr++[o]) ⟨s.ns.length,G9 y8 r,st.ds.length⟩with rest:=q2 }:=by
      rw[G1];unfold Z8;dsimp only;rw[f6 E1,E7];dsimp only;rw[G4]
     have S0:=b1 q1 q2 E7 G4;rw[S0];have L2:q2 <:+ s3.rest:=(V1 G4).trans ((b3P _).trans ((V1 E7).trans (V1 hq)));have S6:=L2.length_le;have P0:=I7 G4;have S1:=I7 E7;have S7:=I0 q1;simp only[i8,t7]at P0;refine⟨_,(D2.trans g1).trans (U8 g2.op N6 N8),⟨rfl,rfl,g2.bad,fun hm=>g2.r13 (L2.subset hm),?_⟩,?_,rfl,g4,(F8 _ _).trans G0,⟨_,a9H G0 J5,J6,rfl⟩,?_⟩
     ·show Env s3.ns o.node (st2.ds.take st.ds.length)
      rw[g3,J8,a3W];exact E0.pre ((F8 _ _).trans G0)
     ·show st2.ds.take st.ds.length=st.ds
      rw[g3,J8,a3W]
     ·show q2.length<s.rest.length
      omega
  ·have E8:F3 [47,62] s1=true:=L8 E4
   have N4:=I7 E4;simp only[i8,t7]at N4;have R5:=L9.len
   have hR:M0 (f+1) o.node s=(s1.add (Q4 s.ns (G6 x1 o.node))).to r2:=by
    rw[M0,hM,f6 (by rw[L7];simp),g8 E8,D1,L4 (s:=s1.add (Q4 s.ns (G6 x1 o.node))) E4]
   rw[hR];have E5:L6 s ((s1.add (Q4 s.ns (G6 x1 o.node))).to r2):=L9.trans ((a0k _ _).trans (Y0 _ (V1 E4)))
   right
   refine⟨_,E2,⟨G5,rfl,L7,E5.mem M5,?_⟩,?_,rfl,?_,E5.2.1,⟨_,?_,J6,rfl⟩,?_⟩
   ·show Env (s1.ns++[Q4 s.ns (G6 x1 o.node)]) o.node ((st.ds++x1.ds).take st.ds.length)
    rw[a3W,D1];exact E0.pre (F8 _ _)
   ·show(st.ds++x1.ds).take st.ds.length=st.ds
    exact a3W
   ·show(a5z (a1s { st with rest:=r2 } o x1 (G9 y8 r)) _ _).ns=s1.ns++[Q4 s.ns (G6 x1 o.node)]
    rw[D1,<-J4,<-D3 r2];exact a5P _ _ rfl
   ·show(s1.ns++[Q4 s.ns (G6 x1 o.node)])[s.ns.length]? = _
    rw[D1];exact J5
   ·show r2.length<s.rest.length
    omega
end Go.Proofs.YteinegfbpfhflaaGreatDoor
