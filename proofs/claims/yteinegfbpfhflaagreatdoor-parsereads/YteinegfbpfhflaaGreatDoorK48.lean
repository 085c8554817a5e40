/-
  What the document's own reader keeps: each node hangs on one ahead of it, none is too long, there are not too many. Plain mathematics. Conditions: none.
  apostilleref08.Reader: sees, as a call that only reads. Conditions: the reader lies as it is; the texts are not too long.
  apostilleref08.Reader: inside, its first steps. Conditions: the reader lies as it is; nothing is too long.
-/
import Derived.Test.YteinegfbpfhflaaGreatDoorK47
import Derived.Test.YteinegfbpfhflaaGreatDoorK35
import Derived.Test.YteinegfbpfhflaaGreatDoorK43
import Derived.Test.YteinegfbpfhflaaGreatDoorK44
namespace Go.Proofs.YteinegfbpfhflaaGreatDoor
open Go.RowKit
set_option linter.unusedVariables false
set_option maxRecDepth 100000
set_option maxHeartbeats 8000000
structure Kp(s:Rf):Prop where
 ne:s.ns≠[]
 h0:pa s.ns 0 = -1
 hung:W4 s.ns s.ns.length
 sm:∀x∈s.ns,Sm x
theorem Kp.of{s s':Rf}(h:Kp s)(e:s'.ns=s.ns):Kp s':=⟨e ▸ h.ne,e ▸ h.h0,e ▸ h.hung,e ▸ h.sm⟩
theorem Kp.add{s:Rf}(h:Kp s){x:Nd}(hx:Sm x)(h1:0<=x.n)(h2:x.n<(s.ns.length:Int)):Kp (s.add x):=by
 have hp:s.ns <+: s.ns++[x]:=F8 _ _;have D1:0<s.ns.length:=D7.2 h.ne;refine⟨by show s.ns++[x]≠[];simp,(a6v hp D1).trans h.h0,fun j D2 D3 => ?_,fun y hy => ?_⟩
 ·have D0:j<s.ns.length+1:=by
   have:j<(s.ns++[x]).length:=D3
   rwa [e8,j0]at this
  rcases E9 (I2 D0)with hlt|rfl
  ·show 0<=pa (s.ns++[x]) j/\pa (s.ns++[x]) j<(j:Int)
   rw[a6v hp hlt];exact h.hung j D2 hlt
  ·show 0<=pa (s.ns++[x]) s.ns.length/\pa (s.ns++[x]) s.ns.length<(s.ns.length:Int)
   have e:pa (s.ns++[x]) s.ns.length=x.n:=by unfold pa;simp
   rw[e];exact⟨h1,h2⟩
 ·rcases D6.1 (show y∈s.ns++[x]from hy)with hy|hy
  ·exact h.sm y hy
  ·rw[r8.1 hy];exact hx
theorem a6c(t:List UInt8)(s:Rf):(J3 t s).1.length<=s.rest.length:=by
 unfold J3
 split
 ·next p q hc=>have:=P4 hc;dsimp only;omega
 ·simp
theorem a9k(s:Rf):(K8 s).1.1.length<=s.rest.length/\(K8 s).1.2.length<=s.rest.length:=by
 unfold K8
 split
 ·next r hr =>
  refine⟨a4g _,?_⟩;have h1:=a08 hr;have h2:=(a1g s).len;have h3:(a1H ((O5 s).to r)).length<=r.length:=a4g r;dsimp only;omega
 ·exact⟨o4 _,a4g _⟩
theorem b2K{n:Int}{s:Rf}(h:Kp s)(hr:s.rest.length<=100000)(h1:0<=n)(h2:n<(s.ns.length:Int)):Kp (a0d n s):=by
 have e:a0d n s=(J3 [45,45,62] (D0 [60,33,45,45] s)).2.add ⟨3,n,⟨#[]⟩,⟨#[]⟩,⟨#[]⟩,ba (J3 [45,45,62] (D0 [60,33,45,45] s)).1,[],[]⟩:=rfl;have hn:(J3 [45,45,62] (D0 [60,33,45,45] s)).2.ns=s.ns:=by rw[a1E,P5]
 have hl:=a6c [45,45,62] (D0 [60,33,45,45] s);have D1:=(G8 [60,33,45,45] s).len;rw[e];exact(h.of hn).add (a2m X2 (a0O (by omega))) h1 (by rw[hn];exact h2)
theorem a9g{n:Int}{s:Rf}(h:Kp s)(hr:s.rest.length<=100000)(h1:0<=n)(h2:n<(s.ns.length:Int)):Kp (W5 n s):=by
 have e:W5 n s=(J3 [63,62] (a0v (O5 (D0 [60,63] s)))).2.add ⟨4,n,⟨#[]⟩,ba (a1H (D0 [60,63] s)),⟨#[]⟩,ba (J3 [63,62] (a0v (O5 (D0 [60,63] s)))).1,[],[]⟩:=rfl;have hn:(J3 [63,62] (a0v (O5 (D0 [60,63] s)))).2.ns=s.ns:=by rw[a1E,b3r,b2k,P5]
 have hl:=a6c [63,62] (a0v (O5 (D0 [60,63] s)));have D1:=(G8 [60,63] s).len;have D2:=((a1g (D0 [60,63] s)).trans (a3c _)).len;have D3:(a1H (D0 [60,63] s)).length<=(D0 [60,63] s).rest.length:=a4g _;rw[e];exact(h.of hn).add (a2m (a0O (by omega)) (a0O (by omega))) h1 (by rw[hn];exact h2)
theorem b18{n:Int}{t:List UInt8}{s:Rf}(h:Kp s)(ht:t.length<=2000000)(h1:0<=n)(h2:n<(s.ns.length:Int)):Kp (J2 n t s):=by
 unfold J2
 split
 ·exact h
 ·exact h.add (a2m X2 (a0O ht)) h1 h2
theorem a8R(n:Int)(t:List UInt8)(s:Rf):(J2 n t s).ns.length=s.ns.length+(if t=[]then 0 else 1):=by
 unfold J2
 split
 ·rfl
 ·show(s.ns++[_]).length=_;simp
theorem b4O(s:Rf)(x:Nd):(a2k s x).k=x.k/\(a2k s x).n=x.n/\(a2k s x).p=x.p/\(a2k s x).l=x.l/\(a2k s x).u=x.u/\(a2k s x).t=x.t:=a5e _ _ _ _
theorem b8B{s:Rf}{x:Nd}(hx:Sm x)(hr:s.rest.length<=100000)(hn:x.ds.length+x.ats.length<=1000000):Sm (a2k s x):=by
 have h1:=a9k s;have h2:=a6r (K8 s).2;have h3:=(X7 s).len;refine b3U hx hn (by omega) (by omega) (a0O ?_)
 cases hv:X5 (M1 (K8 s).2).1 with
 |none=>simp
 |some y=>have:=b5C hv;rw[Option.getD_some];omega
theorem b6E:∀(k:Nat) (s:Rf) (x:Nd),Sm x->s.rest.length<=100000->x.ds.length+x.ats.length+s.rest.length<=1000000 ->
 Sm (Y4 k s x).2/\(Y4 k s x).1.ns=s.ns/\(Y4 k s x).2.n=x.n/\(Y4 k s x).2.k=x.k/\(Y4 k s x).2.p=x.p/\(Y4 k s x).2.l=x.l/\(Y4 k s x).2.ds.length+(Y4 k s x).2.ats.length+(Y4 k s x).1.rest.length<=x.ds.length+x.ats.length+s.rest.length
 |0,s,x,hx,hr,hn=>⟨hx,rfl,rfl,rfl,rfl,rfl,c9 _⟩
 |k+1,s,x,hx,hr,hn=>by
  have hb:=(I8 s).len;rw[Y4]
  split
  ·exact⟨hx,rfl,rfl,rfl,rfl,rfl,c9 _⟩
  ·split
   ·exact⟨hx,rfl,rfl,rfl,rfl,rfl,by show x.ds.length+x.ats.length+(C8 s).rest.length<=_;omega⟩
   ·split
    ·exact⟨hx,rfl,rfl,rfl,rfl,rfl,by show x.ds.length+x.ats.length+(C8 s).rest.length<=_;omega⟩
    ·next hz =>
     have D0:(C8 s).rest.length<s.rest.length:=by unfold Y6 at hz;show(n8 s.rest).length<_;omega
     have D1:=(a3b (C8 s)).len;have D2:(a2k (C8 s) x).ds.length+(a2k (C8 s) x).ats.length=x.ds.length+x.ats.length+1:=a7j _ _ _ _;obtain⟨m1,m2,m3,m4,m5,m6⟩:=b4O (C8 s) x;obtain⟨a1,a2,a3,a4,a5,a6,a7⟩:=b6E k (a4Y (C8 s)) (a2k (C8 s) x) (b8B hx (by omega) (by omega)) (by omega) (by omega)
     exact⟨a1,a2.trans (b3j _),a3.trans m2,a4.trans m1,a5.trans m3,a6.trans m4,by omega⟩
theorem c0s{l:List Nd}(h:∀x∈l,Sm x)(s:List UInt8):∀n u,a0n l n s=some u->u.size<=2000000:=by
 intro n
 induction n using Nat.strongRecOn with
 |ind n ih =>
  intro u hu;rw[a4k]at hu
  split at hu
  ·cases hf:a0b (dsR l n) s with
   |some v =>
    rw[hf]at hu;simp only[Option.some_or,f5]at hu;subst hu;unfold a0b at hf;obtain⟨d,hd,rfl⟩:=Option.map_eq_some_iff.1 hf;have hm:=List.mem_of_find?_eq_some hd;unfold dsR at hm;cases hx:l[n]? with
    |none=>rw[hx]at hm;cases hm
    |some x =>
     rw[hx]at hm;exact((h x (List.mem_of_getElem? hx)).ds d hm).2
   |none =>
    rw[hf,Option.none_or]at hu
    split at hu
    ·next hp=>exact ih _ hp.2 u hu
    ·cases hu
  ·cases hu
theorem b0H{l:List Nd}(h:∀x∈l,Sm x)(n:Nat)(p:ByteArray):(G4 l n p).1.size<=2000000:=by
 unfold G4;cases N4 p a1K with
 |true=>show(⟨a3T.toArray⟩ : ByteArray).size<=2000000;decide
 |false =>
  rw[cond_false];cases hf:a0n l n p.data.toList with
  |none=>exact X2
  |some u=>exact c0s h _ n u hf
theorem b3E{l:List Nd}{x:Nd}(h:∀y∈l,Sm y)(hx:Sm x):Sm (Q4 l x):=by
 have hl:∀y∈l++[x],Sm y:=fun y hy=>by
  rcases D6.1 hy with hy|hy
  ·exact h y hy
  ·rw[r8.1 hy];exact hx
 refine⟨hx.p,hx.l,b0H hl _ _,hx.t,hx.nd,by show(x.ats.map _).length<=_;rw[C9];exact hx.na,hx.ds,fun a ha => ?_⟩
 have ha':a∈x.ats.map (b5q (l++[x]) l.length):=ha;obtain⟨b,hb,rfl⟩:=List.mem_map.1 ha';obtain⟨h1,h2,h3,h4⟩:=hx.ats b hb;unfold b5q
 split
 ·exact⟨h1,h2,h3,h4⟩
 ·exact⟨h1,h2,b0H hl _ _,h4⟩
def R6(s:Rf):Nat:=s.ns.length+2*s.rest.length
def b9E(f:Nat):Prop:=∀(n:Int) (s:Rf),Kp s->s.rest.length<=100000->s.rest.length<=f->0<=n->n<(s.ns.length:Int)->Kp (M0 f n s)/\R6 (M0 f n s)<=R6 s+1/\(F3 [60] s=true->R6 (M0 f n s)+1<=R6 s)
theorem a3j{f:Nat}(hE:b9E f):∀(k:Nat) (n:Int) (t:List UInt8) (s:Rf),Kp s->s.rest.length<=100000->s.rest.length<=f->t.length+4*s.rest.length<=1000000->0<=n->n<(s.ns.length:Int)->Kp (M6 (M0 f) k n t s)/\R6 (M6 (M0 f) k n t s)<=R6 s+(if t=[]then 0 else 1)
 |0,n,t,s,h,hr,hf,ht,h1,h2=>by
  refine⟨b18 h (by omega) h1 h2,?_⟩
  show(J2 n t s).ns.length+2*(J2 n t s).rest.length<=s.ns.length+2*s.rest.length+_
  rw[a8R,(a2D n t s).1];omega
 |k+1,n,t,s,h,hr,hf,ht,h1,h2=>by
  have D1:=(a2D n t s).1;have E8:(J2 n t s).rest.length=s.rest.length:=by rw[D1]
  have E0:=a8R n t s;have E2:Kp (J2 n t s):=b18 h (by omega) h1 h2
  have E5:n<((J2 n t s).ns.length:Int):=by rw[E0];split<;>omega
  rw[M6]
  split
  ·refine⟨E2,?_⟩
   show(J2 n t s).ns.length+2*(J2 n t s).rest.length<=s.ns.length+2*s.rest.length+_
   rw[E0,D1];omega
  ·next G0 =>
   split
   ·next hc =>
    have hl:=a1v hc;have hu:=(V7 [93,93,62] (D0 [60,33,91,67,68,65,84,65,91] s)).len;have G5:=a6c [93,93,62] (D0 [60,33,91,67,68,65,84,65,91] s)
    have G6:(J3 [93,93,62] (D0 [60,33,91,67,68,65,84,65,91] s)).1.length+(J3 [93,93,62] (D0 [60,33,91,67,68,65,84,65,91] s)).2.rest.length<=(D0 [60,33,91,67,68,65,84,65,91] s).rest.length:=by
     unfold J3
     split
     ·next p q hc=>have:=P4 hc;show p.length+q.length<=_;omega
     ·simp[Rf.fail]
    have D3:(J3 [93,93,62] (D0 [60,33,91,67,68,65,84,65,91] s)).2.ns=s.ns:=by rw[a1E,P5]
    simp only[i8,t7]at hl;obtain⟨a1,a2⟩:=a3j hE k n (t++(J3 [93,93,62] (D0 [60,33,91,67,68,65,84,65,91] s)).1) (J3 [93,93,62] (D0 [60,33,91,67,68,65,84,65,91] s)).2 (h.of D3) (by omega) (by omega) (by rw[e8];omega) h1 (by rw[D3];exact h2)
    refine⟨a1,d8 a2 ?_⟩;unfold R6;rw[D3]
    split<;>omega
   ·split
    ·next hc E3 =>
     have G1:s.rest≠[]:=fun e=>G0 (.inr (.inl e))
     have D2:m9 [60] s.rest=none:=by
      cases hq:m9 [60] s.rest with
      |none=>rfl
      |some r=>rw[L8 hq]at E3;cases E3
     obtain⟨d,z,hd,E6⟩:=a6s D2 G1;have G4:=a8x [60] s.rest
     have hA:1<=(G9 [60] s.rest).length:=by
      rw[hd];unfold G9;rw[List.takeWhile_cons_of_pos (by simpa using E6)];simp
     have G7:((J7 (G9 [60] s.rest)).getD []).length<=4*(G9 [60] s.rest).length:=by
      cases hc:J7 (G9 [60] s.rest)with
      |none=>simp
      |some y=>rw[Option.getD_some];exact a4y hc
     have D3:((s.to (J9 [60] s.rest)).or (J7 (G9 [60] s.rest)).isNone).ns=s.ns:=rfl;have E4:((s.to (J9 [60] s.rest)).or (J7 (G9 [60] s.rest)).isNone).rest=J9 [60] s.rest:=rfl;obtain⟨a1,a2⟩:=a3j hE k n (t++(J7 (G9 [60] s.rest)).getD []) ((s.to (J9 [60] s.rest)).or (J7 (G9 [60] s.rest)).isNone) (h.of D3) (by rw[E4];omega) (by rw[E4];omega) (by rw[e8,E4];omega) h1 (by rw[D3];exact h2)
     refine⟨a1,d8 a2 ?_⟩;unfold R6;rw[D3,E4]
     split<;>omega
    ·next hc E3 =>
     have D2:F3 [60] s=true:=by simpa using E3
     split
     ·next E1 =>
      have D9:F3 [60,33,45,45] (J2 n t s)=true:=by unfold F3 at E1 ⊢;rw[D1];exact E1
      have hl:=a5W (n:=n) D9;have hn:=a9C n (J2 n t s);obtain⟨a1,a2⟩:=a3j hE k n [] (a0d n (J2 n t s)) (b2K E2 (by rw[D1];exact hr) h1 E5) (by omega) (by omega) (by simp;omega) h1 (by rw[hn];omega)
      refine⟨a1,d8 a2 ?_⟩;unfold R6;rw[hn,E0,g8 rfl];omega
     ·split
      ·next E1 =>
       have D9:F3 [60,63] (J2 n t s)=true:=by unfold F3 at E1 ⊢;rw[D1];exact E1
       have hl:=a5M (n:=n) D9;have hn:=a5L n (J2 n t s);obtain⟨a1,a2⟩:=a3j hE k n [] (W5 n (J2 n t s)) (a9g E2 (by rw[D1];exact hr) h1 E5) (by omega) (by omega) (by simp;omega) h1 (by rw[hn];omega)
       refine⟨a1,d8 a2 ?_⟩;unfold R6;rw[hn,E0,g8 rfl];omega
      ·have E7:F3 [60] (J2 n t s)=true:=by unfold F3 at D2 ⊢;rw[D1];exact D2
       obtain⟨b1,b2,b3⟩:=hE n (J2 n t s) E2 (by rw[D1];exact hr) (by rw[D1];exact hf) h1 E5
       have b3':=b3 E7;have hm:=a1i f n (J2 n t s);have G8:=hm.len;have J1:=hm.2.1.length_le;obtain⟨a1,a2⟩:=a3j hE k n [] (M0 f n (J2 n t s)) b1 (by omega) (by omega) (by simp;omega) h1 (by omega)
       refine⟨a1,d8 a2 ?_⟩;unfold R6 at b3' ⊢;rw[E0,D1]at b3';rw[g8 rfl];omega
theorem b5b{n:Int}{p l:List UInt8}(hp:p.length<=2000000)(hl:l.length<=2000000):Sm ⟨1,n,ba p,ba l,⟨#[]⟩,⟨#[]⟩,[],[]⟩:=⟨a0O hp,a0O hl,X2,X2,o4 _,o4 _,fun d hd=>(by cases hd),fun a ha=>(by cases ha)⟩
theorem b3F{n:Int}{s:Rf}(hr:s.rest.length<=100000):Sm (F6 n s).2/\(F6 n s).1.ns=s.ns/\(F6 n s).2.n=n/\(F6 n s).2.k=1/\(F6 n s).2.p=ba (W9 s).1.1/\(F6 n s).2.l=ba (W9 s).1.2/\(F6 n s).2.ds.length+(F6 n s).2.ats.length+(F6 n s).1.rest.length<=s.rest.length:=by
 have h1:=a9k (D0 [60] s);have h2:=(G8 [60] s).len;have h3:=((G8 [60] s).trans (X7 _)).len;have he:(W9 s).2.rest.length<=s.rest.length:=h3;obtain⟨a1,a2,a3,a4,a5,a6,a7⟩:=b6E ((W9 s).2.rest.length+1) (W9 s).2 ⟨1,n,ba (W9 s).1.1,ba (W9 s).1.2,⟨#[]⟩,⟨#[]⟩,[],[]⟩ (b5b (by show(K8 (D0 [60] s)).1.1.length<=_;omega) (by show(K8 (D0 [60] s)).1.2.length<=_;omega)) (by omega) (by simp;omega)
 refine⟨a1,a2.trans ?_,a3,a4,a5,a6,?_⟩
 ·show(K8 (D0 [60] s)).2.ns=s.ns
  rw[a41,P5]
 ·simp only[t7]at a7
  show(Y4 _ _ _).2.ds.length+(Y4 _ _ _).2.ats.length+(Y4 _ _ _).1.rest.length<=_
  omega
theorem b83(pl:List UInt8×List UInt8)(s:Rf):(a9s pl s).ns=s.ns:=by
 show(D0 [62] (C8 (K8 (D0 [60,47] s)).2)).ns=s.ns
 rw[P5]
 show(K8 (D0 [60,47] s)).2.ns=s.ns
 rw[a41,P5]
theorem b2E:∀f:Nat,b9E f
 |0=>fun n s h hr hf h1 h2=>by
  refine⟨h,Nat.le_succ _,fun hs => ?_⟩;have:=a1v hs;simp only[i8,t7]at this;omega
 |f+1=>fun n s h hr hf h1 h2=>by
  obtain⟨m1,m2,m3,m4,m5,m6,m7⟩:=b3F (n:=n) hr;have D2:Kp (F6 n s).1:=h.of m2;have hn':n<((F6 n s).1.ns.length:Int):=by rw[m2];exact h2
  have E4:=a3e n s;have E7:=E4.len
  have E1:F3 [60] s=true->(F6 n s).1.rest.length+1<=s.rest.length:=fun hs=>by
   have a:=a1v hs;have b:=((X7 (D0 [60] s)).trans (a1h ((W9 s).2.rest.length+1) (W9 s).2 ⟨1,n,ba (W9 s).1.1,ba (W9 s).1.2,⟨#[]⟩,⟨#[]⟩,[],[]⟩)).len;simp only[i8,t7]at a;have b':(F6 n s).1.rest.length<=(D0 [60] s).rest.length:=b;omega
  rw[M0]
  split
  ·refine⟨D2.add m1 (by rw[m3];exact h1) (by rw[m3];exact hn'),?_,fun hs => ?_⟩
   ·show((F6 n s).1.ns++[_]).length+2*(F6 n s).1.rest.length<=s.ns.length+2*s.rest.length+1
    rw[e8,j0,m2];omega
   ·have:=E1 hs
    show((F6 n s).1.ns++[_]).length+2*(F6 n s).1.rest.length+1<=s.ns.length+2*s.rest.length
    rw[e8,j0,m2];omega
  ·next D3 =>
   have D1:F3 [60] s=true:=by
    cases hq:F3 [60] s with
    |true=>rfl
    |false =>
     exfalso
     refine D3 ((a1h _ _ _).1 (a9l ?_))
     rw[V5 (by
      cases hp:m9 [60] s.rest with
      |none=>rfl
      |some r=>rw[L8 hp]at hq;cases hq)];rfl
   have E8:=E1 D1;have E2:Kp ((F6 n s).1.add (Q4 (F6 n s).1.ns (F6 n s).2)):=D2.add (b3E D2.sm m1) (by show 0<=(F6 n s).2.n;rw[m3];exact h1) (by show(F6 n s).2.n<_;rw[m3];exact hn')
   have D9:((F6 n s).1.add (Q4 (F6 n s).1.ns (F6 n s).2)).ns.length=s.ns.length+1:=by
    show((F6 n s).1.ns++[_]).length=_
    rw[e8,j0,m2]
   split
   ·next G0 =>
    have E5:=E2.of (P5 [47,62] ((F6 n s).1.add (Q4 (F6 n s).1.ns (F6 n s).2)));have E3:=(G8 [47,62] ((F6 n s).1.add (Q4 (F6 n s).1.ns (F6 n s).2))).len;have G1:(D0 [47,62] ((F6 n s).1.add (Q4 (F6 n s).1.ns (F6 n s).2))).rest.length<=(F6 n s).1.rest.length:=E3
    have hc:R6 (D0 [47,62] ((F6 n s).1.add (Q4 (F6 n s).1.ns (F6 n s).2)))+1<=R6 s:=by
     unfold R6;rw[P5,D9];omega
    exact⟨E5,by omega,fun _=>hc⟩
   ·have E6:L6 ((F6 n s).1.add (Q4 (F6 n s).1.ns (F6 n s).2)) (D0 [62] ((F6 n s).1.add (Q4 (F6 n s).1.ns (F6 n s).2))):=G8 _ _
    have E3:(D0 [62] ((F6 n s).1.add (Q4 (F6 n s).1.ns (F6 n s).2))).rest.length<=(F6 n s).1.rest.length:=E6.len;have E0:=P5 [62] ((F6 n s).1.add (Q4 (F6 n s).1.ns (F6 n s).2));obtain⟨a1,a2⟩:=a3j (b2E f) ((F6 n s).1.rest.length+1) ((F6 n s).1.ns.length:Nat) [] (D0 [62] ((F6 n s).1.add (Q4 (F6 n s).1.ns (F6 n s).2))) (E2.of E0) (by omega) (by omega) (by simp;omega) (by omega) (by rw[E0,D9,m2];omega)
    have hE:=b83 (W9 s).1 (M6 (M0 f) ((F6 n s).1.rest.length+1) ((F6 n s).1.ns.length:Nat) [] (D0 [62] ((F6 n s).1.add (Q4 (F6 n s).1.ns (F6 n s).2))));have G4:=(a3f (W9 s).1 (M6 (M0 f) ((F6 n s).1.rest.length+1) ((F6 n s).1.ns.length:Nat) [] (D0 [62] ((F6 n s).1.add (Q4 (F6 n s).1.ns (F6 n s).2))))).len
    have hc:R6 (a9s (W9 s).1 (M6 (M0 f) ((F6 n s).1.rest.length+1) ((F6 n s).1.ns.length:Nat) [] (D0 [62] ((F6 n s).1.add (Q4 (F6 n s).1.ns (F6 n s).2)))))+1<=R6 s:=by
     rw[g8 rfl]at a2;unfold R6 at a2 ⊢;rw[hE];rw[E0,D9]at a2;omega
    exact⟨a1.of hE,by omega,fun _=>hc⟩
theorem b9R(S T:ByteArray)(b:Nat)(v:Value)(s:Rf)(k:Nat)(w:World)(h:U5 w b S v s k)(hS:S.size<=1000000)(hT:T.size<=1000000) :
 Calls Tryz.prog 57 #[.pointer (some ⟨b,0,none⟩),.string T] w fun e w'=>e=.returned (.bool (F3 T.data.toList s))/\∃m,w'=w.drewN m:=by
 obtain⟨c0,c1,c2,c3⟩:=h.cells;have hk:=h.le;have D3:=h.lt;have D1:=h.len;have hx:F3 T.data.toList s=decide ((S.data.toList.drop k).take T.size=T.data.toList):=by unfold F3;rw[c0U,h.rest,j9 T]
 obtain⟨B,hB⟩ : ∃B,F3 T.data.toList s=B:=⟨_,rfl⟩;rw[hB]at hx ⊢;clear h c2 c3 hB;by_cases D0:(S.size:Int)-(k:Int) ≥ (T.size:Int)
 ·have hd:decide ((S.size:Int)-(k:Int) ≥ (T.size:Int))=true:=i6 D0
  obtain⟨Z,hZ⟩ : ∃Z,S.extract k (k+T.size)=Z:=⟨_,rfl⟩
  have D9:∀w,(Instr.slice 9 (.string S) (some (.int .i64 (k:Int))) (some (.int .i64 ((k:Int)+(T.size:Int)))) none).run Tryz.prog w=.ok (.string Z) w:=fun w=>by
   rw[<-hZ];exact Y9 S (Nat.le_add_right k T.size) (by omega) w
  have ht:(Z.toList==T.toList)=B:=by
   rw[f9,f9,hx,<-hZ,a7g];exact A8.2 (by rw[x8,decide_eq_true_iff])
  clear hx hZ D1;go_enter Tryz.func57,Tryz.ntmps57
  go_wp2_with fail
  go_quiet (fail)
  go_wp2;go_ret;exact⟨rfl,_,rfl⟩
 ·have hd:decide ((S.size:Int)-(k:Int) ≥ (T.size:Int))=false:=f8 D0
  have D2:B=false:=by
   rw[hx,F4];intro e;have:=congrArg List.length e;rw[u0,B6,<-j9,<-j9]at this;omega
  subst D2;clear hx D1;go_enter Tryz.func57,Tryz.ntmps57
  go_wp2_with fail
  go_quiet (fail)
  go_wp2;go_ret;exact⟨rfl,_,rfl⟩
theorem b5U{S:ByteArray}{b:Nat}{v:Value}{s:Rf}{k:Nat}{w:World}(T:ByteArray)(h:U5 w b S v s k)(hS:S.size<=1000000)(hT:T.size<=1000000)(n:Nat) :
 Calls Tryz.prog 57 #[.pointer (some ⟨b,0,none⟩),.string T] (w.drewN n) fun e w'=>e=.returned (.bool (F3 T.data.toList s))/\∃m,w'=w.drewN m:=(b9R S T b v s k _ (h.below (i7 (b8 _ _) _)) hS hT).mono fun e w' ⟨h1,m,h2⟩=>⟨h1,n+m,by rw[h2];simp[World.drewN,Nat.add_assoc]⟩
def b7N(f:Nat):Prop:=∀(S:ByteArray) (B rb:Nat) (s:Rf) (vn:Value) (ys:List Ny) (n:Int) (w:World),S5 w B rb S s vn ys->S.size<=100000->s.rest.length<=f->1<=f->Kp s->0<=n->n<(s.ns.length:Int)->R6 s<=800000 ->
 Calls Tryz.prog 35 #[.pointer (some ⟨rb,0,none⟩),.int .i64 n] w fun e w'=>e=.returned (.tuple #[])/\U4 B rb S (M0 f n s) vn w w'
theorem a6o(q:List UInt8)(hq:q.length<=100000)(w:World):Calls Tryz.prog 104 #[.string (ba q)] w fun e w'=>e=.returned (.tuple #[.string (ba ((J7 q).getD [])),.bool (J7 q).isSome])/\Below w.heap.size w w' :=
 (a6p (ba q) (by rw[I9];exact hq) w).mono fun e w' ⟨ha,hb⟩=>by
   rw[B5]at ha;rcases ha with⟨Y,h1,rfl⟩|⟨h1,rfl⟩
   ·rw[h1,Option.getD_some,a3q];exact⟨rfl,hb⟩
   ·rw[h1];exact⟨rfl,hb⟩
theorem a5d(a b:List UInt8):ba a++ba b=ba (a++b):=by
 apply G0
 rw[B5];simp[ba]
def b7K(w:World)(B rb:Nat)(S:ByteArray)(vn:Value)(f:Nat)(n:Int)(T:Rf)(v:Value)(wr:World):Prop :=
 ∃(k:Nat) (t:List UInt8) (s:Rf) (vn':Value) (ys:List Ny),v=.string (ba t)/\s.rest.length<k/\M6 (M0 f) k n t s=T/\S5 wr B rb S s vn' ys/\L7 rb vn vn' w wr/\Below B w wr/\Kp s/\n<(s.ns.length:Int)/\t.length+4*s.rest.length<=1000000/\R6 s+(if t=[]then 0 else 1)<=800000/\s.rest.length<=f
def c0P(w:World)(rb:Nat)(S:ByteArray)(v:Value)(s:Rf)(k:Nat)(u:Value)(wr:World):Prop :=
 ∃j:Nat,k<=j/\U5 wr rb S v (s.to (S.data.toList.drop j)) j/\M3 rb S v (s.to (S.data.toList.drop j)) w wr/\∀c∈(S.data.toList.drop k).take (j-k),c∉([60] : List UInt8)
theorem a91{S:ByteArray}{k j:Nat}{r:List UInt8}(hr:r=S.data.toList.drop k)(D2:k<=j)(D0:∀c∈(S.data.toList.drop k).take (j-k),c∉([60] : List UInt8))(D1:S.data.toList.drop j=[]∨∃z,S.data.toList.drop j=60::z):G9 [60] r=(S.data.toList.drop k).take (j-k)/\J9 [60] r=S.data.toList.drop j:=by
 have e:r=(S.data.toList.drop k).take (j-k)++S.data.toList.drop j:=by
  rw[hr]
  conv=>lhs;rw[<-I5 (j-k) (S.data.toList.drop k)]
  rw[List.drop_drop,show k+(j-k)=j by omega]
 obtain⟨u1,u2⟩:=a2y D0 (S.data.toList.drop j);rw[<-e]at u1 u2;rcases D1 with h|⟨z,h⟩
 ·rw[h]at u1 u2
  rw[u1,u2,h];exact⟨by simp[G9],rfl⟩
 ·rw[h]at u1 u2
  rw[(a2b (by simp)).1,A7]at u1
  rw[(a2b (by simp)).2]at u2
  rw[u1,u2,h];exact⟨rfl,rfl⟩
end Go.Proofs.YteinegfbpfhflaaGreatDoor
