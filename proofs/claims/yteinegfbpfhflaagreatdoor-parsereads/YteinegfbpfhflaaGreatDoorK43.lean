/-
  A whole text, as both readers read it. Plain mathematics. Conditions: no byte 13.
  The declaration, and a whole text: both readers come to the same nodes, or to none. Plain mathematics. Conditions: no byte 13.
-/
import Derived.Test.YteinegfbpfhflaaGreatDoorK42
import Derived.Test.YteinegfbpfhflaaGreatDoorK09
namespace Go.Proofs.YteinegfbpfhflaaGreatDoor
open Go.RowKit
set_option linter.unusedVariables false
set_option maxHeartbeats 4000000
theorem a92{s:List UInt8}:a1O s=[]↔∀c∈s,X0 c=true:=by
 constructor
 ·intro h c hc
  obtain⟨a,b,e,ha,hb,_⟩:=a3E s;rw[h,l7]at e;rw[e,D6]at hc;rw[o9]at ha hb;exact hc.elim (ha c) (hb c)
 ·intro h
  have h1:Y7 s=[]:=by
   have:=a7d h [];rw[A7]at this;exact this
  unfold a1O;rw[h1];rfl
def b1E(ns:List Nd):Prop:=∀x∈ns,x.k≠1
theorem c0i{l:List Nd}{i:Nat}(h:kd l i=1):∃x,l[i]? = some x/\x.k=1:=by
 unfold kd at h;cases hx:l[i]? with
 |none=>rw[hx]at h;simp at h
 |some x=>rw[hx]at h;exact⟨x,rfl,by simpa using h⟩
theorem a7C{l:List Nd}(h:b1E l):∀n,S8 l n=0
 |0=>rfl
 |n+1=>by
  rw[S8,a7C h n,f6];rintro⟨_,_,hk⟩;obtain⟨x,hx,hk⟩:=c0i hk;exact h x (List.mem_of_getElem? hx) hk
theorem a5p{l:List Nd}(h:S8 l l.length≠1):K6 l=false:=by
 have hp:N3 l=false:=by
  unfold N3;rw[F4];exact fun hh=>h hh.2
 cases l with
 |nil=>rfl
 |cons x r =>
  show(S9 x&&(N3 (x::r)&&(r.all N0&&X3 (x::r))))=false
  rw[hp];simp
theorem a7D(l:List Nd):∀{m n:Nat},m<=n->S8 l m<=S8 l n:=fun {m n} h=>by
 induction n with
 |zero=>rw[Nat.le_zero.1 h];exact c9 _
 |succ n ih =>
  rcases E9 h with h|h
  ·rw[S8];have:=ih (by omega);omega
  ·rw[h];exact c9 _
theorem b20{l:List Nd}{i:Nat}{x:Nd}(h1:1<=i)(hx:l[i]? = some x)(hk:x.k=1)(hn:x.n=0):S8 l (i+1)=S8 l i+1:=by
 rw[S8,g8];refine⟨h1,?_,?_⟩
 ·unfold pa;rw[hx];exact hn
 ·unfold kd;rw[hx];exact hk
theorem b5J{l:List Nd}{i j:Nat}{x y:Nd}(h1:1<=i)(D9:i<j)(hx:l[i]? = some x)(D0:x.k=1)(D1:x.n=0)(hy:l[j]? = some y)(D2:y.k=1)(D3:y.n=0):K6 l=false:=by
 refine a5p ?_;have a:=b20 h1 hx D0 D1;have b:=b20 (by omega) hy D2 D3
 have c:=a7D l (show i+1<=j by omega)
 have d:=a7D l (show j+1<=l.length from(z8.1 hy).1);omega
structure AtT(st:Rd)(s:Rf):Prop where
 op:st.op=[⟨0,[],0⟩]
 ds:st.ds=[]
 tx:st.tx=[]
 ns:st.ns=s.ns
 rest:st.rest=s.rest
 bad:s.bad=false
 r13:(13:UInt8)∉s.rest
 ne:s.ns≠[]
theorem b8W{ns:List Nd}(h:ns≠[]):Env ns 0 []:=⟨D7.2 h,fun s=>by rw[a3l];rfl⟩
theorem AtT.at2{st:Rd}{s:Rf}(h:AtT st s):At2 st [] ⟨0,[],0⟩ s:=⟨h.op,h.rest,h.bad,h.r13,by rw[h.ds];exact b8W h.ne⟩
theorem At2.top{st:Rd}{s:Rf}(h:At2 st [] ⟨0,[],0⟩ s)(hd:st.ds=[])(ht:st.tx=[])(hn:st.ns=s.ns):AtT st s:=⟨h.op,hd,ht,hn,h.rest,h.bad,h.r13,b0A h.env⟩
def a7l(st:Rd)(s s':Rf):Prop :=
 (a2x s'/\a5B st)∨(s'.bad=false/\(∃c z,s'.rest=c::z/\c≠60)/\a5B st) ∨
 ∃st',X6 st=X6 st'/\AtT st' s'/\s.ns <+: s'.ns/\(b1E s.ns->b1E s'.ns)/\(s'.rest=[]∨((∃r,m9 [60] s'.rest=some r)/\m9 [60,33,45,45] s'.rest=none/\m9 [60,63] s'.rest=none))
theorem a7l.step{st st1:Rd}{s s1 s':Rf}(h:a7l st1 s1 s')(he:X6 st=X6 st1)(hp:s.ns <+: s1.ns)(hn:b1E s.ns->b1E s1.ns):a7l st s s':=by
 rcases h with⟨h1,h2⟩|⟨h1,h2,h3⟩|⟨st',h1,h2,h3,h4,h5⟩
 ·exact .inl ⟨h1,M7 he h2⟩
 ·exact .inr (.inl ⟨h1,h2,M7 he h3⟩)
 ·exact .inr (.inr ⟨st',he.trans h1,h2,hp.trans h3,fun h=>h4 (hn h),h5⟩)
theorem b0B{ns:List Nd}(h:b1E ns){x:Nd}(hx:x.k≠1):b1E (ns++[x]):=fun y hy=>by
 rcases D6.1 hy with hy|hy
 ·exact h y hy
 ·rw[r8.1 hy];exact hx
theorem a6s{c:UInt8}{s:List UInt8}(h:m9 [c] s=none)(h0:s≠[]):∃d z,s=d::z/\d≠c:=by
 cases s with
 |nil=>exact absurd rfl h0
 |cons d z =>
  refine⟨d,z,rfl,?_⟩;rintro rfl;rw[a29]at h;cases h
theorem b7o{st:Rd}{s:Rf}(h:AtT st s) :
 (∃c z,n8 st.rest=c::z/\c≠60/\a5B st)∨((n8 st.rest=[]∨∃z,n8 st.rest=60::z)/\X6 st=X6 { st with rest:=n8 st.rest }/\AtT { st with rest:=n8 st.rest } (C8 s)):=by
 have hT:AtT { st with rest:=n8 st.rest } (C8 s):=⟨h.op,h.ds,h.tx,h.ns,by show n8 st.rest=n8 s.rest;rw[h.rest],h.bad,(I8 s).mem h.r13,h.ne⟩
 have E2:st.op=[]++[⟨0,[],0⟩]:=h.op;have D2:st.op.length=1:=by rw[h.op];rfl
 obtain⟨b,hb,D3⟩:=a8p st.rest
 have D0:∀c∈b,c∉([60] : List UInt8):=fun c hc hm=>by
  rw[r8]at hm;subst hm;exact absurd (D3 60 hc) (by decide)
 obtain⟨u1,u2⟩:=a2y D0 (n8 st.rest);rw[<-hb]at u1 u2
 have key:∀(hq:n8 st.rest=[]∨∃z,n8 st.rest=60::z),X6 st=X6 { st with rest:=n8 st.rest }:=fun hq=>by
  have hu:G9 [60] (n8 st.rest)=[]/\J9 [60] (n8 st.rest)=n8 st.rest:=by
   rcases hq with h|⟨z,h⟩
   ·rw[h];exact⟨rfl,rfl⟩
   ·rw[h];exact a2b (by simp)
  rw[hu.1,A7]at u1;rw[hu.2]at u2;cases D1:b with
  |nil=>rw[D1,l7]at hb;rw[<-hb]
  |cons c t =>
   have E3:st.rest≠[]:=by rw[hb,D1];simp
   have D9:c≠60:=fun e=>D0 c (by rw[D1];exact List.mem_cons_self) (by rw[e];exact r8.2 rfl)
   have E0:m9 [60] st.rest=none:=by rw[hb,D1,i9];exact a0K (Ne.symm D9) _
   refine U8 E2 E3 ?_;rw[a80 E0];unfold a3t;rw[g8 D2,u1,g8 (a92.2 D3),u2]
 cases hq:n8 st.rest with
 |nil=>exact .inr ⟨.inl rfl,by rw[<-hq];exact key (.inl hq),by rw[<-hq];exact hT⟩
 |cons c z =>
  by_cases hc:c=60
  ·subst hc
   exact .inr ⟨.inr ⟨z,rfl⟩,by rw[<-hq];exact key (.inr ⟨z,hq⟩),by rw[<-hq];exact hT⟩
  ·refine .inl ⟨c,z,rfl,hc,N9 (R3 E2 (by rw[hb,hq];simp) ?_)⟩
   have E0:m9 [60] st.rest=none:=by
    rw[hb,hq];cases D1:b with
    |nil=>exact a0K (Ne.symm hc) _
    |cons d t =>
     have E1:d≠60:=fun e=>D0 d (by rw[D1];exact List.mem_cons_self) (by rw[e];exact r8.2 rfl)
     rw[i9];exact a0K (Ne.symm E1) _
   rw[a80 E0];unfold a3t;rw[g8 D2,f6];intro ht;rw[a92]at ht
   have E4:c∈G9 [60] st.rest:=by
    rw[u1,hq];refine List.mem_append_right _ ?_;unfold G9;rw[List.takeWhile_cons_of_pos (by simpa using hc)]
    exact List.mem_cons_self
   have h1:=ht c E4;rw[a5c hq]at h1;cases h1
theorem a50:∀(k:Nat) (st:Rd) (s:Rf),AtT st s->st.rest.length<k->a7l st s (a1t k s)
 |0,st,_,_,h=>by omega
 |k+1,st,s,hT,hk=>by
  rw[a1t,f6 (by rw[hT.bad];simp)]
  have E2:(C8 s).rest=n8 st.rest:=by rw[hT.rest];rfl
  have E8:=I0 st.rest;rcases b7o hT with⟨c,z,hq,hc,hD⟩|⟨hq,he,D9⟩
  ·have n1:m9 [60,33,45,45] (C8 s).rest=none:=by rw[E2,hq];unfold m9;rw[f6 (by simp[List.isPrefixOf,Ne.symm hc])]
   have n2:m9 [60,63] (C8 s).rest=none:=by rw[E2,hq];unfold m9;rw[f6 (by simp[List.isPrefixOf,Ne.symm hc])]
   rw[f6 (by rw[Q9 n1];simp),f6 (by rw[Q9 n2];simp)]
   exact .inr (.inl ⟨hT.bad,⟨c,z,by rw[E2];exact hq,hc⟩,hD⟩)
  refine a7l.step (s1:=C8 s) ?_ he (List.prefix_refl _) id;obtain⟨st1,E3⟩ : ∃st1,st1={ st with rest:=n8 st.rest }:=⟨_,rfl⟩;have G0:st1.rest=(C8 s).rest:=by rw[E3,E2]
  rw[<-E3]at D9 ⊢;have G8:(C8 s).rest.length<k+1:=by rw[E2];omega
  have J1:(C8 s).rest=[]∨∃z,(C8 s).rest=60::z:=by rw[E2];exact hq
  clear E3 he hT E2 E8 hq;generalize C8 s=s1 at *;have E6:st1.op=[]++[⟨0,[],0⟩]:=D9.op;have E4:(Q1 st1 ⟨0,[],0⟩).ns=s1.ns:=by rw[a5P _ _ D9.tx];exact D9.ns
  have G1:=D9.ne;cases D3:m9 [60,33,45,45] s1.rest with
  |some q =>
   rw[g8 (L8 D3)];have D1:m9 [60,33,45,45] st1.rest=some q:=by rw[G0];exact D3
   have E5:st1.rest≠[]:=a4R D1 (by simp)
   have G4:=I7 D3;simp only[i8,t7]at G4;cases D0:K5 [45,45,62] q with
   |none =>
    left
    refine⟨a2x.mono (.inl ?_) (X8 k _),N9 (R3 E6 E5 ?_)⟩
    ·unfold a0d;rw[L4 D3,a1c (s:=s1.to q) D0];rfl
    ·rw[a81 D1];unfold a3R;dsimp only;rw[D0]
   |some pr =>
    obtain⟨p,r⟩:=pr;obtain⟨_,J2,_⟩:=P4 D0
    have hR:a0d 0 s1=(s1.to r).add ⟨3,0,⟨#[]⟩,⟨#[]⟩,⟨#[]⟩,ba p,[],[]⟩:=by
     unfold a0d;rw[L4 D3,a0I (s:=s1.to q) D0];rfl
    have E0:L0 st1 [] ⟨0,[],0⟩=some (a1o { st1 with rest:=r } ⟨0,[],0⟩ (a15 p)):=by
     rw[a81 D1];unfold a3R;dsimp only;rw[D0]
    have hm:=a4c 0 s1
    have G5:AtT (a1o { st1 with rest:=r } ⟨0,[],0⟩ (a15 p)) (a0d 0 s1):=by
     refine⟨D9.op,D9.ds,rfl,?_,by rw[hR];rfl,by rw[hR];exact D9.bad,hm.mem D9.r13,by rw[hR];simp[Rf.add]⟩
     rw[hR]
     show(Q1 st1 _).ns++[G6 (a15 p) 0]=_
     rw[E4];rfl
    refine(a50 k _ (a0d 0 s1) G5 (by show r.length<k;omega)).step (U8 E6 E5 E0) hm.2.1 (fun h => ?_)
    rw[hR];exact b0B h (by simp)
  |none =>
  rw[f6 (by rw[Q9 D3];simp)]
  have D1:m9 [60,33,45,45] st1.rest=none:=by rw[G0];exact D3
  cases D2:m9 [60,63] s1.rest with
  |some q =>
   rw[g8 (L8 D2)];have E1:m9 [60,63] st1.rest=some q:=by rw[G0];exact D2
   have E7:m9 [60,33,91,67,68,65,84,65,91] st1.rest=none:=a8T E1 _ (by decide)
   have E5:st1.rest≠[]:=a4R E1 (by simp)
   have G4:=I7 D2;simp only[i8,t7]at G4;have G7:(13:UInt8)∉q:=fun hm=>D9.r13 ((V1 D2).subset hm);obtain⟨i1,i2⟩:=b0S (s1.to q) G7;have hm:=a4a 0 s1;cases D0:K5 [63,62] q with
   |none =>
    left
    refine⟨a2x.mono (.inl ?_) (X8 k _),N9 (R3 E6 E5 ?_)⟩
    ·unfold W5;rw[L4 D2];exact i1 D0
    ·rw[a6z D1 E7 E1];unfold a2v;dsimp only;rw[D0]
   |some pr =>
    obtain⟨p,r⟩:=pr;obtain⟨_,J2,_⟩:=P4 D0
    have E0:L0 st1 [] ⟨0,[],0⟩=some (a1o { st1 with rest:=r } ⟨0,[],0⟩ (a0Z (G9 [32,9,10] p) (n8 (J9 [32,9,10] p)))):=by
     rw[a6z D1 E7 E1];unfold a2v;dsimp only;rw[D0]
    rcases i2 p r D0 with⟨g1,g2⟩|⟨g1,g2⟩
    ·have hR:W5 0 s1=(s1.to r).add ⟨4,0,⟨#[]⟩,ba (G9 [32,9,10] p),⟨#[]⟩,ba (n8 (J9 [32,9,10] p)),[],[]⟩:=by
      unfold W5;rw[L4 D2,g1,g2];rfl
     have G5:AtT (a1o { st1 with rest:=r } ⟨0,[],0⟩ (a0Z (G9 [32,9,10] p) (n8 (J9 [32,9,10] p)))) (W5 0 s1):=by
      refine⟨D9.op,D9.ds,rfl,?_,by rw[hR];rfl,by rw[hR];exact D9.bad,hm.mem D9.r13,by rw[hR];simp[Rf.add]⟩
      rw[hR]
      show(Q1 st1 _).ns++[G6 (a0Z _ _) 0]=_
      rw[E4];rfl
     refine(a50 k _ (W5 0 s1) G5 (by show r.length<k;omega)).step (U8 E6 E5 E0) hm.2.1 (fun h => ?_)
     rw[hR];exact b0B h (by simp)
    ·left
     refine⟨a2x.mono (.inl ?_) (X8 k _),M7 (U8 E6 E5 E0) (a4u ?_)⟩
     ·unfold W5;rw[L4 D2];exact g1
     ·show a2Y ((Q1 st1 _).ns++[G6 (a0Z _ _) 0])
      exact a17 (by rw[E4];exact G1) (b21 g2)
  |none =>
  rw[f6 (by rw[Q9 D2];simp)]
  refine .inr (.inr ⟨st1,rfl,D9,List.prefix_refl _,id,?_⟩);cases hl:m9 [60] s1.rest with
  |some r=>exact .inr ⟨⟨r,rfl⟩,D3,D2⟩
  |none =>
   rcases J1 with h|⟨z,h⟩
   ·exact .inl h
   ·rw[h,a29]at hl;cases hl
theorem a2N(x y z:UInt8)(h:(65<=y.toNat/\y.toNat<=90/\z.toNat=y.toNat+32)∨(¬(65<=y.toNat/\y.toNat<=90)/\¬(97<=y.toNat/\y.toNat<=122)/\z=y)):Lib.foldEq x y=decide (b4i x=z):=by
 have hx:=x.toNat_lt;have hy:=y.toNat_lt;unfold Lib.foldEq b4i;refine decide_eq_decide.2 ?_
 split
 ·next hu =>
  have he:(x+32).toNat=x.toNat+32:=by rw[UInt8.toNat_add];show(x.toNat+32)%256=_;omega
  rw[<-F1,he];rcases h with h|⟨h1,h2,rfl⟩<;>omega
 ·next hu =>
  rw[<-F1];rcases h with h|⟨h1,h2,rfl⟩<;>omega
theorem b3o(v:List UInt8):isE v=decide (a2B v=[117,116,102,45,56]):=by
 have c1:=fun x=>a2N x 85 117 (.inl (by decide))
 have c2:=fun x=>a2N x 84 116 (.inl (by decide))
 have c3:=fun x=>a2N x 70 102 (.inl (by decide))
 have c4:=fun x=>a2N x 45 45 (.inr (by decide))
 have c5:=fun x=>a2N x 56 56 (.inr (by decide))
 unfold isE a2B
 match v with
 | []=>rfl
 | [a]=>simp[Lib.equalFold]
 | [a,b]=>simp[Lib.equalFold]
 | [a,b,c]=>simp[Lib.equalFold]
 | [a,b,c,d]=>simp[Lib.equalFold]
 | [a,b,c,d,e]=>simp[Lib.equalFold,c1,c2,c3,c4,c5]
 |a::b::c::d::e::f::t=>simp[Lib.equalFold]
theorem a6m(key:List UInt8)(may:List UInt8->Bool)(s:Rf)(hb:s.bad=false) :
 (Q0 key s=(none,s)/\E7 key may s.rest=none) ∨
 (∃v r,Q0 key s=(some v,s.to r)/\E7 key may s.rest=if may v=true then some r else none) ∨
 (∃v,(Q0 key s).1=some v/\(Q0 key s).2.bad=true/\E7 key may s.rest=none/\∃r,m9 key (n8 s.rest)=some r):=by
 have D2:=I0 s.rest;by_cases D0:(n8 s.rest).length<s.rest.length
 rotate_left 1
 ·left
  refine⟨?_,?_⟩
  ·unfold Q0;rw[g8 (.inl (by unfold Y6;omega))]
  ·unfold E7;rw[f6 D0]
 have D1:¬Y6 s=0:=by unfold Y6;omega
 cases hp:m9 key (n8 s.rest)with
 |none =>
  left
  refine⟨?_,?_⟩
  ·unfold Q0;rw[g8 (.inr (Q9 hp))]
  ·unfold E7;rw[g8 D0,hp]
 |some r =>
  right
  have hs:Q0 key s=(some (M1 (s.to r)).1,(M1 (s.to r)).2):=by
   unfold Q0;rw[f6 (by rw[L8 (s:=C8 s) hp];simp[D1]),L4 (s:=C8 s) hp];rfl
  obtain⟨q1,q2⟩:=b0q (s.to r);cases he:V3 r with
  |none =>
   right
   refine⟨_,by rw[hs],by rw[hs];exact q2 (.inl he),?_,r,rfl⟩
   unfold E7;rw[g8 D0,hp];dsimp only;rw[he]
  |some r2 =>
   cases hq:V0 r2 with
   |none =>
    right
    refine⟨_,by rw[hs],by rw[hs];exact q2 (.inr ⟨r2,he,hq⟩),?_,r,rfl⟩
    unfold E7;rw[g8 D0,hp];dsimp only;rw[he];dsimp only;rw[hq]
   |some vr =>
    obtain⟨v,r3⟩:=vr
    left
    have:=q1 r2 v r3 he hq;refine⟨v,r3,by rw[hs,this];rfl,?_⟩
    unfold E7;rw[g8 D0,hp];dsimp only;rw[he];dsimp only;rw[hq]
theorem b5e(s:Rf)(hb:s.bad=false):(∃r,a3P s=s.to r/\E7 a0u isV s.rest=some r)∨((a3P s).bad=true/\E7 a0u isV s.rest=none):=by
 rcases a6m a0u isV s hb with⟨h1,h2⟩|⟨v,r,h1,h2⟩|⟨v,h1,h2,h3,_⟩
 ·right;refine⟨?_,h2⟩
  unfold a3P;rw[h1];simp[Rf.or]
 ·by_cases hv:v=[49,46,48]
  ·left
   refine⟨r,?_,?_⟩
   ·unfold a3P;rw[h1];dsimp only;rw[f8 (by simp[hv]),T0]
   ·rw[h2,g8 (by unfold isV;exact i6 hv)]
  ·right
   refine⟨?_,?_⟩
   ·unfold a3P;rw[h1];dsimp only;rw[i6 hv];simp[Rf.or]
   ·rw[h2,f6 (by unfold isV;rw[f8 hv];simp)]
 ·right;refine⟨?_,h3⟩
  unfold a3P;exact a1G h2 _
theorem b5d(s:Rf)(hb:s.bad=false):a3v s=s.to ((E7 Q2 isE s.rest).getD s.rest)∨((a3v s).bad=true/\E7 Q2 isE s.rest=none/\∃r,m9 Q2 (n8 s.rest)=some r):=by
 rcases a6m Q2 isE s hb with⟨h1,h2⟩|⟨v,r,h1,h2⟩|⟨v,h1,h2,h3,h4⟩
 ·left
  unfold a3v;rw[h1,h2];dsimp only;rw[T0];rfl
 ·by_cases hv:isE v=true
  ·left
   rw[h2,g8 hv];rw[b3o,t8]at hv;unfold a3v;rw[h1];dsimp only;rw[f8 (by simp[hv]),T0];rfl
  ·right
   have hp:∃r,m9 Q2 (n8 s.rest)=some r:=by
    cases hp:m9 Q2 (n8 s.rest)with
    |some r=>exact⟨r,rfl⟩
    |none =>
     exfalso
     have:Q0 Q2 s=(none,s):=by unfold Q0;rw[g8 (.inr (Q9 hp))]
     rw[this]at h1;cases h1
   refine⟨?_,by rw[h2,f6 hv],hp⟩
   rw[b3o,t8]at hv;unfold a3v;rw[h1];dsimp only;rw[i6 hv];simp[Rf.or]
 ·right;exact⟨by unfold a3v;exact a1G h2 _,h3,h4⟩
theorem b5c(s:Rf)(hb:s.bad=false):a3u s=s.to ((E7 V6 isS s.rest).getD s.rest)∨((a3u s).bad=true/\E7 V6 isS s.rest=none/\∃r,m9 V6 (n8 s.rest)=some r):=by
 rcases a6m V6 isS s hb with⟨h1,h2⟩|⟨v,r,h1,h2⟩|⟨v,h1,h2,h3,h4⟩
 ·left
  unfold a3u;rw[h1,h2];dsimp only;rw[T0];rfl
 ·have hS:isS v = !(decide (v≠[121,101,115])&&decide (v≠[110,111])):=by
   unfold isS;by_cases a:v=[121,101,115]<;>by_cases b:v=[110,111]<;>simp[a,b]
  by_cases hv:isS v=true
  ·left
   rw[h2,g8 hv];rw[hS]at hv;unfold a3u;rw[h1];dsimp only;rw[show(decide (v≠[121,101,115])&&decide (v≠[110,111]))=false from(by rw[Bool.not_eq_true']at hv;exact hv),T0];rfl
  ·right
   have hp:∃r,m9 V6 (n8 s.rest)=some r:=by
    cases hp:m9 V6 (n8 s.rest)with
    |some r=>exact⟨r,rfl⟩
    |none =>
     exfalso
     have:Q0 V6 s=(none,s):=by unfold Q0;rw[g8 (.inr (Q9 hp))]
     rw[this]at h1;cases h1
   refine⟨?_,by rw[h2,f6 hv],hp⟩
   rw[hS]at hv;unfold a3u;rw[h1];dsimp only;rw[show(decide (v≠[121,101,115])&&decide (v≠[110,111]))=true from(by rw[Bool.not_eq_true',Bool.not_eq_false]at hv;exact hv)];simp[Rf.or]
 ·right;exact⟨by unfold a3u;exact a1G h2 _,h3,h4⟩
theorem a9f{c d:UInt8}{t t' s r:List UInt8}(h:m9 (c::t) s=some r)(hd:d≠c):m9 (d::t') s=none:=by
 rw[I6 h];unfold m9;rw[f6 (by simp[List.isPrefixOf,hd])]
theorem b5W{c d:UInt8}{t t' s r:List UInt8}{may:List UInt8->Bool}(h:m9 (c::t) (n8 s)=some r)(hd:d≠c):E7 (d::t') may s=none:=by
 unfold E7
 split
 ·rw[a9f h hd]
 ·rfl
theorem b4D(s:Rf):L6 s (a3v s):=(a1X _ _).trans (a0j _ _)
theorem a7U(s:Rf):L6 s (a3u s):=(a1X _ _).trans (a0j _ _)
theorem b87(s:List UInt8)(E8:(13:UInt8)∉s):a04 (rf0 s)=(rf0 s).to (L1 s)∨((a04 (rf0 s)).bad=true/\a5B (rd0 (L1 s))):=by
 cases hx:m9 [60,63,120,109,108] s with
 |none =>
  left
  have h1:a1k s=false:=by unfold a1k;rw[hx]
  unfold a04 L1;rw[f6 (by show ¬a1k s=true;rw[h1];simp),hx];rfl
 |some r =>
  by_cases hd:a1k s=true
  rotate_left 1
  ·left
   have hn:E7 a0u isV r=none:=by
    cases r with
    |nil=>rfl
    |cons c z =>
     have hc:X0 c=false:=by
      unfold a1k at hd;rw[hx]at hd;simpa using hd
     unfold E7;rw[a1b hc,f6 (by omega)]
   unfold a04 L1;rw[f6 (by show ¬a1k s=true;exact hd),hx]
   dsimp only;rw[hn];rfl
  have D3:a04 (rf0 s)=D0 [63,62] (C8 (a3u (a3v (a3P ((rf0 s).to r))))):=by
   unfold a04;rw[g8 (show a1k (rf0 s).rest=true from hd),L4 (s:=rf0 s) hx]
  have D1:L1 s=s->a5B (rd0 (L1 s)):=fun he=>by
   rw[he];have hs:=I6 hx;have G5:m9 [60] s=some ([63,120,109,108]++r):=by rw[hs];rfl
   have c1:m9 [60,33,45,45] s=none:=by rw[hs];rfl
   have c2:m9 [60,33,91,67,68,65,84,65,91] s=none:=by rw[hs];rfl
   have c3:m9 [60,63] s=some ([120,109,108]++r):=by rw[hs];rfl
   have E1:(rd0 s).rest≠[]:=by show s≠[];rw[hs];simp
   have E2:(rd0 s).op=[]++[⟨0,[],0⟩]:=rfl;have E3:L0 (rd0 s) [] ⟨0,[],0⟩=a2v { rd0 s with rest:=[120,109,108]++r } ⟨0,[],0⟩:=a6z (st:=rd0 s) c1 c2 c3;cases r with
   |nil=>unfold a1k at hd;rw[hx]at hd;cases hd
   |cons c z =>
    have hc:X0 c=true:=by unfold a1k at hd;rw[hx]at hd;exact hd
    have D9:c≠13:=fun e=>E8 (by rw[hs,e];simp)
    have G0:c∈([32,9,10] : List UInt8):=by
     simp only[q8,C5,or_false];rcases(a5Y c).1 hc with h|h|h|h
     ·exact .inl h
     ·exact .inr (.inl h)
     ·exact .inr (.inr h)
     ·exact absurd h D9
    have E0:(63:UInt8)∉([120,109,108,c] : List UInt8):=by
     intro hm;simp only[q8,C5,or_false]at hm;rcases hm with h|h|h|h
     ·exact absurd h (by decide)
     ·exact absurd h (by decide)
     ·exact absurd h (by decide)
     ·rw[<-h]at hc;exact absurd hc (by decide)
    have D2:K5 [63,62] ([120,109,108]++c::z)=(K5 [63,62] z).map fun q=>([120,109,108,c]++q.1,q.2):=a5T E0 z;cases E4:K5 [63,62] z with
    |none =>
     rw[E4]at D2;refine N9 (R3 E2 E1 ?_);rw[E3];unfold a2v;dsimp only;rw[D2];rfl
    |some q =>
     obtain⟨p,y⟩:=q;rw[E4]at D2
     have G1:L0 (rd0 s) [] ⟨0,[],0⟩=some (a1o { rd0 s with rest:=y } ⟨0,[],0⟩ (a0Z (G9 [32,9,10] ([120,109,108,c]++p)) (n8 (J9 [32,9,10] ([120,109,108,c]++p))))):=by
      rw[E3];unfold a2v;dsimp only;rw[D2];rfl
     refine M7 (U8 E2 E1 G1) (a4u ?_)
     have hu:G9 [32,9,10] ([120,109,108,c]++p)=[120,109,108]:=by
      have:=(a2y (e:=[32,9,10]) (a:=[120,109,108]) (fun d hd=>by
       simp only[q8,C5,or_false]at hd;rcases hd with rfl|rfl|rfl<;>decide) (c::p)).1
      rw[(a2b G0).1]at this;exact this
     show a2Y ([Y3]++_++[G6 (a0Z (G9 [32,9,10] ([120,109,108,c]++p)) _) 0])
     refine a17 (by simp) ?_
     rw[hu]
     have ht:a6f (ba [120,109,108])=false:=by
      unfold a6f;rw[B5,show Lib.equalFold [120,109,108] [120,109,108]=true by decide];simp
     unfold N0
     show(bif ((4:Int)==1)then _ else bif ((4:Int)==2)then _ else bif ((4:Int)==3)then _ else bif ((4:Int)==4)then _&&(a6f (ba [120,109,108])&&_)else false)=false
     rw[ht,show((4:Int)==1)=false from rfl,show((4:Int)==2)=false from rfl,show((4:Int)==3)=false from rfl,show((4:Int)==4)=true from rfl];simp
  rw[D3]
  have hP:∀{T},(match E7 a0u isV r with
   |none=>s
   |some r1=>match m9 [63,62] (n8 ((E7 V6 isS ((E7 Q2 isE r1).getD r1)).getD ((E7 Q2 isE r1).getD r1)))with
    |none=>s
    |some r4=>r4)=T->L1 s=T:=fun h=>by rw[<-h];unfold L1;rw[hx];rfl
  rcases b5e ((rf0 s).to r) rfl with⟨r1,a1,a2⟩|⟨a1,a2⟩
  rotate_left 1
  ·have a2':E7 a0u isV r=none:=a2
   exact .inr ⟨((b4D _).trans ((a7U _).trans ((I8 _).trans (G8 _ _)))).1 a1,D1 (hP (by rw[a2']))⟩
  have a2':E7 a0u isV r=some r1:=a2;rw[a1];rcases b5d (((rf0 s).to r).to r1) rfl with b1|⟨b1,b2,q,b3⟩
  rotate_left 1
  ·have b2':E7 Q2 isE r1=none:=b2
   have b3':m9 Q2 (n8 r1)=some q:=b3;refine .inr ⟨((a7U _).trans ((I8 _).trans (G8 _ _))).1 b1,D1 (hP ?_)⟩;have n1:E7 V6 isS r1=none:=b5W (d:=115) b3' (by decide)
   have n2:m9 [63,62] (n8 r1)=none:=a9f (d:=63) b3' (by decide)
   rw[a2'];dsimp only;rw[b2',Option.getD_none,n1,Option.getD_none,n2]
  rw[b1];rcases b5c ((((rf0 s).to r).to r1).to ((E7 Q2 isE (((rf0 s).to r).to r1).rest).getD (((rf0 s).to r).to r1).rest)) rfl with c1|⟨c1,c2,q,c3⟩
  rotate_left 1
  ·have c2':E7 V6 isS ((E7 Q2 isE r1).getD r1)=none:=c2
   have c3':m9 V6 (n8 ((E7 Q2 isE r1).getD r1))=some q:=c3;refine .inr ⟨((I8 _).trans (G8 _ _)).1 c1,D1 (hP ?_)⟩;have n2:m9 [63,62] (n8 ((E7 Q2 isE r1).getD r1))=none:=a9f (d:=63) c3' (by decide)
   rw[a2'];dsimp only;rw[c2',Option.getD_none,n2]
  rw[c1];generalize E5:((E7 V6 isS ((E7 Q2 isE r1).getD r1)).getD ((E7 Q2 isE r1).getD r1))=r3 at hP
  have G4:C8 ((((((rf0 s).to r).to r1).to ((E7 Q2 isE (((rf0 s).to r).to r1).rest).getD (((rf0 s).to r).to r1).rest))).to ((E7 V6 isS ((((rf0 s).to r).to r1).to ((E7 Q2 isE (((rf0 s).to r).to r1).rest).getD (((rf0 s).to r).to r1).rest)).rest).getD ((((rf0 s).to r).to r1).to ((E7 Q2 isE (((rf0 s).to r).to r1).rest).getD (((rf0 s).to r).to r1).rest)).rest))=(rf0 s).to (n8 r3):=by
   rw[<-E5];rfl
  rw[G4]
  have E6:∀{T},(match m9 [63,62] (n8 r3)with
   |none=>s
   |some r4=>r4)=T->L1 s=T:=fun h=>by
   rw[<-h];unfold L1;rw[hx];dsimp only;rw[a2'];dsimp only;rw[E5]
   rfl
  cases h4:m9 [63,62] (n8 r3)with
  |none =>
   right
   refine⟨by rw[V5 (s:=(rf0 s).to (n8 r3)) h4];rfl,D1 (E6 (by rw[h4]))⟩
  |some r4 =>
   left
   rw[L4 (s:=(rf0 s).to (n8 r3)) h4,E6 (T:=r4) (by rw[h4])];rfl
theorem b3g{s:Rf}{c:UInt8}{z:List UInt8}(h:s.rest=c::z)(hc:Off c):(O5 s).bad=true:=by
 obtain⟨n,x,hr⟩:=a2e s.rest;cases n with
 |nil=>exact a39 hr
 |cons r n =>
  exfalso
  have hp:=P7 r;have he:=hr.eq;rw[h,J4]at he;cases hb:C3 r with
  |nil=>rw[hb]at hp;simp at hp
  |cons d t =>
   rw[hb]at he;simp only[i9,r7]at he;refine a5G hc hr.ok ?_;rw[J4,hb,he.1];simp
theorem a5Q{f:Nat}{n:Int}{s:Rf}(h:(D0 [60] s).bad=true∨(O5 (D0 [60] s)).bad=true):a2x (M0 (f+1) n s):=by
 refine a48 ?_;unfold F6;refine a9c _ ?_;unfold W9;rcases h with h|h
 ·exact a9l h
 ·exact b0W h
theorem a93{st:Rd}{s:Rf}(f:Nat)(hT:AtT st s)(hf:st.rest.length<=f)(hl:∃r,m9 [60] s.rest=some r)(E1:m9 [60,33,45,45] s.rest=none)(E2:m9 [60,63] s.rest=none) :
 b7M st [] ⟨0,[],0⟩ s (M0 f 0 s):=by
 obtain⟨r,hr⟩:=hl;have E7:=I7 hr;simp only[i8,t7]at E7;have D9:m9 [60] st.rest=some r:=hT.rest ▸ hr;have D1:m9 [60,33,45,45] st.rest=none:=hT.rest ▸ E1;have D2:m9 [60,63] st.rest=none:=hT.rest ▸ E2;have E4:st.rest≠[]:=a4R D9 (by simp)
 have E5:st.op=[]++[⟨0,[],0⟩]:=hT.op;have D3:st.op.length=1:=by rw[hT.op];rfl
 obtain⟨g,rfl⟩ : ∃g,f=g+1:=⟨f-1,by rw[hT.rest]at hf;omega⟩
 have E6:D0 [60] s=s.to r:=L4 hr;cases E0:m9 [60,33,91,67,68,65,84,65,91] st.rest with
 |some q =>
  left
  refine⟨a5Q (.inr ?_),N9 (R3 E5 E4 ?_)⟩
  ·have h2:=I6 E0
   have h1:=I6 D9;rw[h2]at h1;simp only[i9,l7,r7,true_and]at h1;rw[E6];exact b3g (s:=s.to r) (c:=33) h1.symm ⟨by decide,by decide⟩
  ·rw[b2h D1 E0];unfold a4w;dsimp only
   cases K5 [93,93,62] q with
   |none=>rfl
   |some pr=>dsimp only;rw[g8 D3]
 |none =>
  cases E3:m9 [60,47] st.rest with
  |some q =>
   left
   refine⟨a5Q (.inr ?_),N9 (R3 E5 E4 ?_)⟩
   ·have h2:=I6 E3
    have h1:=I6 D9;rw[h2]at h1;simp only[i9,l7,r7,true_and]at h1;rw[E6];exact b3g (s:=s.to r) (c:=47) h1.symm ⟨by decide,by decide⟩
   ·rw[b6i D1 E0 D2 E3];unfold Z8;dsimp only;rw[g8 D3]
  |none =>
   exact b3C (g+1) st [] ⟨0,[],0⟩ s r hT.at2 (by rw[a5P _ _ hT.tx];exact hT.ns) hf D9 D1 E0 D2 E3
theorem b58(s:List UInt8)(D9:(13:UInt8)∉s):(∃l,a3Y s=some l/\X6 (rd0 (L1 s))=some l)∨((∀l,a3Y s=some l->K6 l=false)/\a5B (rd0 (L1 s))):=by
 have D0:a2x (a0U s)->∀l,a3Y s=some l->K6 l=false:=fun h l hl=>by
  unfold a3Y at hl
  split at hl
  ·cases hl
  ·next hb =>
   simp only[f5]at hl;subst hl;rcases h with h|h
   ·exact absurd (.inl h) hb
   ·exact a7f h
 have mBC:L6 (a0a s) (a0U s):=by
  unfold a0U;split
  ·exact L6.refl _
  ·exact X8 _ _
 have mAB:L6 (a1r s) (a0a s):=by
  unfold a0a;split
  ·exact L6.refl _
  ·exact a1i _ _ _
 rcases b87 s D9 with hd|⟨hd,hD⟩
 rotate_left 1
 ·exact .inr ⟨D0 (.inl (mBC.1 (mAB.1 ((X8 _ _).1 hd)))),hD⟩
 have E6:=a9x s;have E0:a1r s=a1t (s.length+1) ((rf0 s).to (L1 s)):=by unfold a1r;rw[hd]
 have E1:L6 (rf0 s) ((rf0 s).to (L1 s)):=by
  have:=a4b (rf0 s);rw[hd]at this;exact this
 have E2:AtT (rd0 (L1 s)) ((rf0 s).to (L1 s)):=⟨rfl,rfl,rfl,rfl,rfl,rfl,E1.mem D9,by simp[rf0,Rf.to]⟩
 have hA:=a50 (s.length+1) (rd0 (L1 s)) ((rf0 s).to (L1 s)) E2 (by show(L1 s).length<_;omega)
 have E7:(a1r s).rest.length<=(L1 s).length:=by
  have:=(X8 (s.length+1) ((rf0 s).to (L1 s))).len;rw[<-E0]at this;exact this
 rw[<-E0]at hA;rcases hA with⟨h1,h2⟩|⟨h1,⟨c,z,h2,h3⟩,h4⟩|⟨st1,g1,D1,g2,g3,g4⟩
 ·exact .inr ⟨D0 (h1.mono (mAB.trans mBC)),h2⟩
 ·refine .inr ⟨D0 (a2x.mono ?_ mBC),h4⟩
  unfold a0a;rw[f6 (by rw[h1];simp)]
  refine a5Q (.inl ?_);rw[V5 (by rw[h2];exact a0K (Ne.symm h3) _)];rfl
 rcases g4 with g4|⟨g4,g5,g6⟩
 ·refine .inr ⟨D0 (a2x.mono ?_ mBC),?_⟩
  ·unfold a0a
   rw[f6 (by rw[D1.bad];simp)]
   refine a5Q (.inl ?_);rw[V5 (by rw[g4];exact a1U _ _)];rfl
  ·intro l hl
   rw[g1,a8X (by rw[D1.rest];exact g4),g8 (by rw[D1.op];rfl),D1.ns]at hl
   simp only[f5]at hl;subst hl
   have E3:b1E (a1r s).ns:=g3 (fun x hx=>by
    have:x=Y3:=by simpa [rf0,Rf.to]using hx
    rw[this];simp[Y3])
   refine a5p ?_;rw[a7C E3];simp
 have hB:=a93 (s.length+1) D1 (by rw[D1.rest];omega) g4 g5 g6
 have E4:a0a s=M0 (s.length+1) 0 (a1r s):=by unfold a0a;rw[f6 (by rw[D1.bad];simp)]
 rw[<-E4]at hB;rcases hB with⟨k1,k2⟩|⟨st2,k1,k2,k3,k4,k5,k6,⟨x,kx,kxk,kxn⟩,k7⟩
 ·exact .inr ⟨D0 (k1.mono mBC),M7 g1 k2⟩
 have D3:AtT st2 (a0a s):=k2.top (k3.trans D1.ds) k4 k5;have E5:a0U s=a1t (s.length+1) (a0a s):=by unfold a0U;rw[f6 (by rw[D3.bad];simp)]
 have hC:=a50 (s.length+1) st2 (a0a s) D3 (by rw[D3.rest];omega)
 rw[<-E5]at hC;rcases hC with⟨m1,m2⟩|⟨m1,⟨c,z,m2,m3⟩,m4⟩|⟨st3,m1,D2,m2,_,m4⟩
 ·exact .inr ⟨D0 m1,M7 g1 (M7 k1 m2)⟩
 ·refine .inr ⟨fun l hl => ?_,M7 g1 (M7 k1 m4)⟩
  unfold a3Y at hl;rw[g8 (.inr (by rw[m2];simp))]at hl;cases hl
 rcases m4 with m4|⟨m4,m5,m6⟩
 ·left
  refine⟨(a0U s).ns,?_,?_⟩
  ·unfold a3Y
   rw[f6 (by rw[m4,D2.bad];simp)]
  ·rw[g1,k1,m1,a8X (by rw[D2.rest];exact m4),g8 (by rw[D2.op];rfl),D2.ns]
 ·right
  obtain⟨r,hr⟩:=m4;refine⟨fun l hl => ?_,?_⟩
  ·unfold a3Y at hl
   rw[g8 (.inr (a4R hr (by simp)))]at hl;cases hl
  ·refine M7 g1 (M7 k1 (M7 m1 ?_))
   have E8:(a0U s).rest.length<=(a0a s).rest.length:=mBC.len;rcases a93 (s.length+1) D2 (by rw[D2.rest];omega) ⟨r,hr⟩ m5 m6 with⟨_,n2⟩|⟨st4,n1,n2,_,_,n5,n6,⟨y,ny,nyk,nyn⟩,_⟩
   ·exact n2
   ·refine M7 n1 (fun l hl => ?_)
    have hp:=b3d hl;rw[n5]at hp;refine b5J (i:=(a1r s).ns.length) (j:=(a0U s).ns.length) (x:=x) (y:=y) (D7.2 D1.ne) ?_ (a9H (m2.trans (n6.trans hp)) kx) kxk kxn (a9H hp ny) nyk nyn;have h1:=(z8.1 kx).1;have h2:=m2.length_le;omega
end Go.Proofs.YteinegfbpfhflaaGreatDoor
