/-
  A document's text with more behind it, and more nodes ahead of it: it is read as it was, the nodes moved. Plain mathematics. Conditions: what stands behind is nothing, or begins a tag.
  A reader with more behind its text and more nodes ahead of its own: each step is the same. Plain mathematics. Conditions: what stands behind is nothing, or begins a tag.
  Blanks, comments and instructions ahead of a document and behind it: its nodes, moved, between theirs. Plain mathematics. Conditions: the document doesn't begin with its declaration.
-/
import Derived.Test.YteinegfbpfhflaaGreatDoorKLimits
namespace Go.Proofs.YteinegfbpfhflaaGreatDoor
open Go.RowKit
set_option linter.unusedVariables false
set_option maxRecDepth 100000
def c2w(T:List UInt8):Prop:=T=[]∨∃z,T=60::z
theorem c2J(p z:List UInt8):m9 p (p++z)=some z:=by
 unfold m9;rw[g8 (by simp)];simp
theorem c1H{p s r:List UInt8}(h:m9 p s=some r)(T:List UInt8):m9 p (s++T)=some (r++T):=by
 rw[I6 h,List.append_assoc];exact c2J p _
theorem c1R{p s:List UInt8}(h:m9 p s=none)(hs:p.length<=s.length)(T:List UInt8):m9 p (s++T)=none:=by
 cases hq:m9 p (s++T)with
 |none=>rfl
 |some r =>
  obtain⟨z,rfl⟩:=List.prefix_of_prefix_length_le (⟨r,(I6 hq).symm⟩ : p <+: s++T) ⟨T,rfl⟩ hs;rw[c2J]at h;cases h
theorem a6s{c d:UInt8}(h:c≠d)(p s:List UInt8):m9 (c::p) (d::s)=none:=by simp[m9,h]
theorem c1W{q:UInt8->Bool}{T:List UInt8}:∀{s:List UInt8},s.dropWhile q≠[]->(s++T).dropWhile q=s.dropWhile q++T/\(s++T).takeWhile q=s.takeWhile q
 | [],h=>absurd rfl h
 |c::s,h=>by
  rw[i9];simp only[List.dropWhile_cons,List.takeWhile_cons]at *;cases hc:q c with
  |false=>exact⟨rfl,rfl⟩
  |true =>
   simp only[hc,if_true]at h ⊢;have:=c1W (T:=T) h;exact⟨this.1,by rw[this.2]⟩
theorem c1U{s:List UInt8}(h:n8 s≠[])(T:List UInt8):n8 (s++T)=n8 s++T:=(c1W h).1
theorem c2y{e s:List UInt8}(h:J9 e s≠[])(T:List UInt8):G9 e (s++T)=G9 e s/\J9 e (s++T)=J9 e s++T:=⟨(c1W h).2,(c1W h).1⟩
theorem c2Q{T:List UInt8}(hT:c2w T):∀s:List UInt8,G9 [60] (s++T)=G9 [60] s/\J9 [60] (s++T)=J9 [60] s++T
 | []=>by
  rcases hT with rfl|⟨z,rfl⟩
  ·exact⟨rfl,rfl⟩
  ·exact⟨by kernel_rfl,by kernel_rfl⟩
 |c::s=>by
  have ih:=c2Q hT s;unfold G9 J9 at *;rw[i9];simp only[List.dropWhile_cons,List.takeWhile_cons];by_cases hc:(!([60] : List UInt8).contains c)=true
  ·simp only[hc,if_true];exact⟨by rw[ih.1],ih.2⟩
  ·simp only[hc];exact⟨rfl,rfl⟩
theorem c2d{t T:List UInt8}:∀{s:List UInt8},Lib.index s t≠-1->Lib.index (s++T) t=Lib.index s t
 | [],h=>by
  rw[Lib.index]at h ⊢;cases t with
  |nil=>rw[l7];cases T<;>simp[Lib.index]
  |cons c t=>simp at h
 |c::s,h=>by
  rw[i9];rw[Lib.index]at h;rw[Lib.index,Lib.index];by_cases hp:t.isPrefixOf (c::s)=true
  ·have h2:t.isPrefixOf (c::(s++T))=true:=by
    rw[F0]at hp ⊢;obtain⟨z,hz⟩:=hp;exact⟨z++T,by rw[<-List.append_assoc,hz];rfl⟩
   rw[g8 hp,g8 h2]
  ·rw[f6 hp]at h ⊢
   have hi:Lib.index s t≠-1:=fun e=>by rw[e]at h;simp at h
   have h2:¬t.isPrefixOf (c::(s++T))=true:=fun h2=>by
    rw[F0]at h2;have D1:=Lib.index_ge s t;have h0:0<=Lib.index s t:=by omega
    obtain⟨n,_,hn,_⟩:=a1a (show K5 t s=some (_,_)by unfold K5;rw[g8 h0])
    have D0:t.length<=(c::s).length:=by rw[i8];omega
    have:t <+: c::s:=List.prefix_of_prefix_length_le h2 ⟨T,rfl⟩ D0;exact hp (F0.2 this)
   rw[f6 h2,c2d hi]
theorem c1T{t s p r:List UInt8}(h:K5 t s=some (p,r))(T:List UInt8):K5 t (s++T)=some (p,r++T):=by
 obtain⟨n,h1,h2,h3,h4⟩:=a1a h;have hi:=c2d (T:=T) (s:=s) (t:=t) (by rw[h1];omega)
 unfold K5;rw[hi,h1,g8 (by omega)]
 simp only[J0,f5,Prod.mk.injEq];exact⟨by rw[List.take_append_of_le_length (by omega),h3],by rw[List.drop_append_of_le_length (by omega),h4]⟩
theorem c29{s p r:List UInt8}(h:V0 s=some (p,r))(T:List UInt8):V0 (s++T)=some (p,r++T):=by
 unfold V0 at h ⊢;cases h1:m9 [39] s with
 |some q =>
  rw[h1]at h;rw[c1H h1];exact c1T h T
 |none =>
  rw[h1]at h;dsimp only at h;cases h2:m9 [34] s with
  |none=>rw[h2]at h;cases h
  |some q =>
   rw[h2]at h;rw[c1R h1 (by rw[I6 h2];simp),c1H h2]
   exact c1T h T
theorem c3e{s r:List UInt8}(h:V3 s=some r)(hr:r≠[])(T:List UInt8):V3 (s++T)=some (r++T):=by
 unfold V3 at h ⊢;obtain⟨q,hq,rfl⟩:=Option.map_eq_some_iff.1 h;have hs:n8 s≠[]:=by rw[I6 hq];simp
 rw[c1U hs,c1H hq,Option.map_some,c1U hr]
theorem c3p{s:List UInt8}{q:List UInt8×List UInt8}(h:V0 s=some q):s≠[]:=fun e=>by rw[e]at h;cases h
theorem c3q{s r:List UInt8}(h:V3 s=some r):s≠[]:=fun e=>by rw[e]at h;cases h
theorem c20{s r:List UInt8}{x x':Nd}(h:T5 s x=some (r,x'))(T:List UInt8):T5 (s++T) x=some (r++T,x'):=by
 unfold T5 at h ⊢
 split at h
 ·cases h
 ·next p l h1 =>
  split at h
  ·cases h
  ·next r2 h2 =>
   split at h
   ·cases h
   ·next q r3 h3 =>
    split at h
    ·cases h
    ·next v h4 =>
     obtain⟨ha,hb⟩:=c2y (c3q h2) T;simp only[f5,Prod.mk.injEq]at h;obtain⟨rfl,rfl⟩:=h;rw[ha,hb,h1];dsimp only;rw[c3e h2 (c3p h3)];dsimp only;rw[c29 h3];dsimp only;rw[h4]
theorem c3i(z:List UInt8):¬nm (33::z):=by
 rintro⟨l,hl,hn,he⟩;cases l with
 |nil=>exact hl rfl
 |cons r l =>
  have hc:R7 r=true:=by
   have:=a89 hn;simp only[List.all_cons,i4]at this;exact this.1
  rw[J4]at he
  have hm:(33:UInt8)∈C3 r:=by
   have:=P7 r;cases hb:C3 r with
   |nil=>rw[hb]at this;simp at this
   |cons c t=>rw[hb]at he;simp only[i9,r7]at he;rw[he.1];simp
  have hr:=(a63 hc hm (by decide)).2
  simp only[nmL,i4]at hn;rw[hr]at hn;exact absurd hn.1 (by decide)
theorem c2q(z:List UInt8):M4 (33::z)=none:=a5g fun p l h=>by
 rcases h with⟨_,_,h⟩|⟨hp,_,he⟩
 ·exact c3i _ h
 ·cases p with
  |nil=>exact b6q hp rfl
  |cons c p=>simp only[i9,r7]at he;rw[<-he.1]at hp;exact c3i _ hp
theorem c1Z:M4 []=none:=a5g fun p l h=>by
 rcases h with⟨_,_,h⟩|⟨hp,_,he⟩
 ·exact b6q h rfl
 ·simp at he
theorem c2S(z:List UInt8)(a:Rd)(o:Po):a1Q { a with rest:=33::z } o=none:=by
 unfold a1Q;dsimp only;rw[show G9 y8 (33::z)=33::G9 y8 z by kernel_rfl,c2q]
theorem c24(a:Rd)(o:Po):a1Q { a with rest:=[] } o=none:=by
 unfold a1Q;dsimp only;rw[show G9 y8 []=[]from rfl,c1Z]
section
def shZ(m:Nat)(z:Int):Int:=if 0<z then z+m else z
def shX(m:Nat)(x:Nd):Nd:={ x with n:=shZ m x.n }
def shI(m k:Nat):Nat:=if k=0 then 0 else k+m
def shO(m:Nat)(o:Po):Po:={ o with node:=shI m o.node }
def shN(A:List Nd):List Nd->List Nd
 | [] => []
 |r::N=>r::(A++N.map (shX A.length))
def shR(A:List Nd)(T:List UInt8)(a:Rd):Rd:=⟨a.rest++T,shN A a.ns,a.op.map (shO A.length),a.ds,a.tx⟩
theorem c2m{A l:List Nd}(h:l≠[])(x:Nd):shN A (l++[x])=shN A l++[shX A.length x]:=by
 cases l with
 |nil=>exact absurd rfl h
 |cons r N=>simp[shN]
theorem c2H{A l:List Nd}(h:l≠[]):(shN A l).length=l.length+A.length:=by
 cases l with
 |nil=>exact absurd rfl h
 |cons r N=>simp[shN];omega
theorem c2l(m:Nat)(x:Nd)(k:Nat):shX m (G6 x k)=G6 x (shI m k):=by
 unfold shX G6 shZ shI;by_cases h:k=0
 ·subst h;rfl
 ·have:(0:Int)<(k:Int):=by omega
  simp only[g8 this,f6 h]
  rfl
structure Ok(a:Rd):Prop where
 ns:a.ns≠[]
 op:∃o r,a.op=o::r/\o.node=0
 tx:a.op.length=1->a.tx=[]
variable {A:List Nd} {T:List UInt8} {a y:Rd} {fr:List Po} {o:Po}
theorem c2g(h:a.ns≠[]):Q1 (shR A T a) (shO A.length o)=shR A T (Q1 a o):=by
 unfold Q1 shR;by_cases ht:a.tx=[]
 ·simp[ht]
 ·simp only[ht,if_false]
  rw[c2m h,c2l];rfl
theorem c2i(h:a.ns≠[]):(Q1 a o).ns≠[]:=by unfold Q1;simp[h]
theorem c2s(h:a.ns≠[])(x:Nd):a1o (shR A T a) (shO A.length o) x=shR A T (a1o a o x):=by
 unfold a1o;rw[c2g h];unfold shR;simp only;rw[c2m (c2i h),c2l];rfl
theorem c2W(h:a.ns≠[]):a5z (shR A T a) (fr.map (shO A.length)) (shO A.length o)=shR A T (a5z a fr o):=by
 unfold a5z;rw[c2g h];rfl
theorem c3r(h:a.ns≠[])(k:Nat)(full:List UInt8)(out:Nat)(hk:k≠0):a.op.map (shO A.length)++[⟨k+A.length,full,out⟩]=(a.op++[(⟨k,full,out⟩ : Po)]).map (shO A.length):=by
 simp[shO,shI,hk]
theorem c2X(h:a.ns≠[])(x:Nd)(full:List UInt8):a1s (shR A T a) (shO A.length o) x full=shR A T (a1s a o x full):=by
 have h1:=c2s (A:=A) (T:=T) (o:=o) (a:={ a with ds:=a.ds++x.ds }) h (elM (a.ds++x.ds) x);have h2:=c2g (A:=A) (T:=T) (o:=o) (a:={ a with ds:=a.ds++x.ds }) h;have h3:(Q1 { a with ds:=a.ds++x.ds } o).ns≠[]:=c2i h;have h4:(Q1 { a with ds:=a.ds++x.ds } o).ns.length≠0:=fun e=>h3 (j8 e);unfold a1s;rw[show({ shR A T a with ds:=(shR A T a).ds++x.ds }:Rd)=shR A T { a with ds:=a.ds++x.ds } from rfl,show(shR A T a).ds=a.ds from rfl,h1,h2];rw[show(shR A T (Q1 { a with ds:=a.ds++x.ds } o)).ns.length=(Q1 { a with ds:=a.ds++x.ds } o).ns.length+A.length from c2H h3];rw[show(shR A T a).op=a.op.map (shO A.length)from rfl,c3r h _ _ _ h4]
 rfl
theorem Ok.add(h:Ok a)(x:Nd):Ok (a1o a o x):=⟨by unfold a1o;simp,h.op,fun _=>rfl⟩
theorem Ok.rest(h:Ok a)(r:List UInt8):Ok { a with rest:=r }:=⟨h.ns,h.op,h.tx⟩
theorem Ok.beg(h:Ok a)(x:Nd)(full:List UInt8):Ok (a1s a o x full):=by
 obtain⟨o0,r,he,h0⟩:=h.op;exact⟨by unfold a1s a1o;simp,⟨o0,r++[_],by unfold a1s;rw[he];rfl,h0⟩,fun _=>rfl⟩
theorem Ok.cls(h:a.ns≠[])(hf:∃o r,fr=o::r/\o.node=0):Ok (a5z a fr o):=⟨c2i h,hf,fun _=>rfl⟩
theorem c2V{full:List UInt8}:∀{n n':Nat} {a:Rd} {x:Nd},Ok a->n<=n'->a2A full o n a x=some y->a2A full (shO A.length o) n' (shR A T a) x=some (shR A T y)/\Ok y
 |0,n',a,x,ha,hn,h=>by cases h
 |n+1,0,a,x,ha,hn,h=>by omega
 |n+1,n'+1,a,x,ha,hn,h=>by
  rw[a2A]at h;rw[a2A];have hr:(shR A T a).rest=a.rest++T:=rfl
  split at h
  ·next r h1 =>
   have hb:n8 a.rest≠[]:=by rw[I6 h1];simp
   rw[hr,c1U hb,c1H h1];simp only[f5]at h;subst h;exact⟨congrArg some (c2X (a:={ a with rest:=r }) ha.ns x full),(ha.rest r).beg x full⟩
  ·next h1 =>
   split at h
   ·next r h2 =>
    have hb:n8 a.rest≠[]:=by rw[I6 h2];simp
    rw[hr,c1U hb,c1R h1 (by rw[I6 h2];simp),c1H h2]
    simp only[f5]at h;subst h;have h3:=c2X (A:=A) (T:=T) (o:=o) (a:={ a with rest:=r }) ha.ns x full;have h4:=c2g (A:=A) (T:=T) (o:=o) (a:={ a with rest:=r,ds:=a.ds++x.ds }) ha.ns;have h5:(Q1 { a with rest:=r,ds:=a.ds++x.ds } o).ns≠[]:=c2i ha.ns;have h6:(Q1 { a with rest:=r,ds:=a.ds++x.ds } o).ns.length≠0:=fun e=>h5 (j8 e);have D0:=(ha.rest r).beg (o:=o) x full;refine⟨congrArg some ?_,Ok.cls D0.ns ha.op⟩;have h7:=c2W (A:=A) (T:=T) (a:=a1s { a with rest:=r } o x full) (fr:=a.op) (o:=⟨(Q1 { a with rest:=r,ds:=a.ds++x.ds } o).ns.length,full,a.ds.length⟩) D0.ns;refine Eq.trans ?_ h7
    have h8:(⟨(Q1 (shR A T { a with rest:=r,ds:=a.ds++x.ds }) (shO A.length o)).ns.length,full,a.ds.length⟩ : Po)=shO A.length ⟨(Q1 { a with rest:=r,ds:=a.ds++x.ds } o).ns.length,full,a.ds.length⟩:=by
     rw[h4,show(shR A T (Q1 { a with rest:=r,ds:=a.ds++x.ds } o)).ns.length=(Q1 { a with rest:=r,ds:=a.ds++x.ds } o).ns.length+A.length from c2H h5];simp[shO,shI,h6]
    exact(congrArg (fun q=>a5z q (a.op.map (shO A.length)) ⟨(Q1 (shR A T { a with rest:=r,ds:=a.ds++x.ds }) (shO A.length o)).ns.length,full,a.ds.length⟩) h3).trans (congrArg (fun q=>a5z _ _ q) h8)
   ·next h2 =>
    split at h
    ·next h3 =>
     split at h
     ·next r x' h4 =>
      have hb:n8 a.rest≠[]:=fun e=>by
       rw[e]at h4;unfold T5 at h4;rw[show G9 y8 []=[]from rfl,c1Z]at h4;cases h4
      have h5:m9 [47,62] (n8 a.rest++T)=none:=by
       cases hq:n8 a.rest with
       |nil=>exact absurd hq hb
       |cons c z =>
        rw[hq]at h2 h4;cases z with
        |nil =>
         by_cases hc:(47:UInt8)=c
         ·subst hc
          unfold T5 at h4;rw[show G9 y8 [47]=[]by kernel_rfl,c1Z]at h4
          cases h4
         ·exact a6s hc _ _
        |cons d z=>exact c1R h2 (by simp) T
      have h6:1<=(n8 a.rest).length:=D7.2 hb;rw[hr,c1U hb,c1R h1 h6 T,h5];dsimp only;rw[g8 (by rw[e8,e8];omega),c20 h4]
      exact c2V (a:={ a with rest:=r }) (ha.rest r) (by omega) h
     ·cases h
    ·cases h
theorem c26(ha:Ok a)(h:a1Q a o=some y):a1Q (shR A T a) (shO A.length o)=some (shR A T y)/\Ok y:=by
 unfold a1Q at h ⊢
 split at h
 ·cases h
 ·next p l h1 =>
  have hu:J9 y8 a.rest≠[]:=fun e=>by
   rw[e]at h;simp[a2A,n8,m9]at h
  obtain⟨ha',hb'⟩:=c2y hu T;rw[show(shR A T a).rest=a.rest++T from rfl,ha',hb',h1];exact c2V (a:={ a with rest:=J9 y8 a.rest }) (ha.rest _) (by rw[e8];omega) h
theorem c3o(ha:Ok a)(h:a3R a o=some y):a3R (shR A T a) (shO A.length o)=some (shR A T y)/\Ok y:=by
 unfold a3R at h ⊢
 split at h
 ·cases h
 ·next p r h1 =>
  simp only[f5]at h;subst h;rw[show(shR A T a).rest=a.rest++T from rfl,c1T h1];exact⟨congrArg some (c2s (a:={ a with rest:=r }) ha.ns _),(ha.rest r).add _⟩
theorem c3m(ha:Ok a)(h:a2v a o=some y):a2v (shR A T a) (shO A.length o)=some (shR A T y)/\Ok y:=by
 unfold a2v at h ⊢
 split at h
 ·cases h
 ·next p r h1 =>
  simp only[f5]at h;subst h;rw[show(shR A T a).rest=a.rest++T from rfl,c1T h1];exact⟨congrArg some (c2s (a:={ a with rest:=r }) ha.ns _),(ha.rest r).add _⟩
theorem c2r:(shR A T a).op.length=a.op.length:=by simp[shR]
theorem c3n(ha:Ok a)(h:a4w a=some y):a4w (shR A T a)=some (shR A T y)/\Ok y:=by
 unfold a4w at h ⊢
 split at h
 ·cases h
 ·next p r h1 =>
  split at h
  ·cases h
  ·next h2 =>
   simp only[f5]at h;subst h;rw[show(shR A T a).rest=a.rest++T from rfl,c1T h1];dsimp only;rw[c2r,f6 h2];exact⟨rfl,ha.ns,ha.op,fun e=>absurd e h2⟩
theorem c28(ha:Ok a)(ho:a.op=fr++[o])(h:Z8 a fr o=some y):Z8 (shR A T a) (fr.map (shO A.length)) (shO A.length o)=some (shR A T y)/\Ok y:=by
 unfold Z8 at h ⊢;rw[c2r]
 split at h
 ·cases h
 ·next h1 =>
  rw[f6 h1]
  split at h
  ·cases h
  ·next r h2 =>
   split at h
   ·cases h
   ·next r' h3 =>
    simp only[f5]at h;subst h;rw[show(shR A T a).rest=a.rest++T from rfl,show(shO A.length o).full=o.full from rfl,c1H h2];dsimp only;rw[c1U (by rw[I6 h3];simp),c1H h3]
    dsimp only;have h4:=c2W (A:=A) (T:=T) (a:={ a with rest:=n8 r }) (fr:=fr) (o:=o) ha.ns;refine⟨?_,?_⟩
    ·rw[show({ shR A T a with rest:=n8 r++T }:Rd)=shR A T { a with rest:=n8 r } from rfl,h4];rfl
    ·obtain⟨o0,q,he,h0⟩:=ha.op
     cases fr with
     |nil=>rw[ho]at h1;simp at h1
     |cons f fr =>
      rw[ho]at he;simp only[i9,r7]at he;exact(Ok.cls (a:={ a with rest:=n8 r }) (o:=o) ha.ns ⟨f,fr,rfl,by rw[he.1];exact h0⟩).rest r'
theorem c3l(hT:c2w T)(ha:Ok a)(h:a3t a=some y):a3t (shR A T a)=some (shR A T y)/\Ok y:=by
 unfold a3t at h ⊢;rw[c2r,show(shR A T a).rest=a.rest++T from rfl,(c2Q hT a.rest).1,(c2Q hT a.rest).2]
 split at h
 ·next h1 =>
  rw[g8 h1]
  split at h
  ·next h2 =>
   simp only[f5]at h;subst h;rw[g8 h2];exact⟨rfl,ha.rest _⟩
  ·cases h
 ·next h1 =>
  rw[f6 h1]
  split at h
  ·cases h
  ·next z h2 =>
   simp only[f5]at h;subst h;exact⟨rfl,ha.ns,ha.op,fun e=>absurd e h1⟩
theorem c3j(h:a.rest=[60]):L0 a fr o=none:=by
 unfold L0;rw[h];exact c24 a o
theorem c3v{z:List UInt8}(h:a.rest=60::33::z)(h1:m9 [60,33,45,45] a.rest=none)(h2:m9 [60,33,91,67,68,65,84,65,91] a.rest=none):L0 a fr o=none:=by
 unfold L0;rw[h1,h2,h];exact c2S z a o
theorem c3h(h:L0 a fr o=some y)(hr:a.rest≠[])(h1:m9 [60,33,45,45] a.rest=none)(h2:m9 [60,33,91,67,68,65,84,65,91] a.rest=none)(p:List UInt8):m9 (60::33::p) (a.rest++T)=none:=by
 cases hq:a.rest with
 |nil=>exact absurd hq hr
 |cons c z =>
  by_cases hc:(60:UInt8)=c
  ·subst hc
   cases z with
   |nil=>rw[c3j hq]at h;cases h
   |cons d z =>
    by_cases hd:(33:UInt8)=d
    ·subst hd
     rw[c3v hq h1 h2]at h;cases h
    ·simp[m9,hd]
  ·exact a6s hc _ _
theorem c2U(h:L0 a fr o=some y)(hr:a.rest≠[]){c:UInt8}(h1:m9 [60,c] a.rest=none):m9 [60,c] (a.rest++T)=none:=by
 by_cases h2:2<=a.rest.length
 ·exact c1R h1 h2 T
 ·cases hq:a.rest with
  |nil=>exact absurd hq hr
  |cons d z =>
   rw[hq,i8]at h2;obtain rfl:z=[]:=j8 (by omega)
   by_cases hc:(60:UInt8)=d
   ·subst hc
    rw[c3j hq]at h;cases h
   ·exact a6s hc _ _
theorem c27(hT:c2w T)(ha:Ok a)(hr:a.rest≠[])(ho:a.op=fr++[o])(h:L0 a fr o=some y):L0 (shR A T a) (fr.map (shO A.length)) (shO A.length o)=some (shR A T y)/\Ok y:=by
 have h0:=h;have hl:1<=a.rest.length:=D7.2 hr;unfold L0 at h ⊢;rw[show(shR A T a).rest=a.rest++T from rfl]
 split at h
 ·next r h1=>rw[c1H h1];exact c3o (ha.rest r) h
 ·next h1 =>
  split at h
  ·next r h2 =>
   have:=I7 h2;simp only[i8,t7]at this;rw[c1R h1 (by simp only[i8,t7];omega) T,c1H h2];exact c3n (ha.rest r) h
  ·next h2 =>
   rw[c3h h0 hr h1 h2,c3h h0 hr h1 h2];dsimp only
   split at h
   ·next r h3=>rw[c1H h3];exact c3m (ha.rest r) h
   ·next h3 =>
    rw[c2U h0 hr h3];dsimp only
    split at h
    ·next r h4=>rw[c1H h4];exact c28 (ha.rest r) ho h
    ·next h4 =>
     rw[c2U h0 hr h4];dsimp only
     split at h
     ·next r h5=>rw[c1H h5];exact c26 (ha.rest r) h
     ·next h5=>rw[c1R h5 hl T];exact c3l hT ha h
theorem c2F(hT:c2w T):∀{n:Nat} {a:Rd} {l:List Nd},Ok a->Q7 n a=some l->∃j z,j<n/\Ok z/\z.rest=[]/\z.op.length=1/\z.ns=l/\∀q,Q7 (q+j) (shR A T a)=Q7 q (shR A T z)
 |0,a,l,ha,h=>by cases h
 |n+1,a,l,ha,h=>by
  rw[Q7]at h
  split at h
  ·next h1 =>
   split at h
   ·next h2=>exact⟨0,a,by omega,ha,h1,h2,Option.some.inj h,fun q=>rfl⟩
   ·cases h
  ·next h1 =>
   split at h
   ·cases h
   ·next o h2 =>
    split at h
    ·cases h
    ·next y h3 =>
     have ho:a.op=a.op.dropLast++[o]:=by
      obtain⟨ys,he⟩:=List.getLast?_eq_some_iff.1 h2;rw[he];simp
     obtain⟨h4,hy⟩:=c27 (A:=A) hT ha h1 ho h3;obtain⟨j,z,hj,hz,h5,h6,h7,h8⟩:=c2F hT hy h;refine⟨j+1,z,by omega,hz,h5,h6,h7,fun q => ?_⟩
     rw[<-Nat.add_assoc,Q7,f6 (by show ¬a.rest++T=[];simp[h1])]
     have h9:(shR A T a).op.getLast? = some (shO A.length o):=by
      show(a.op.map (shO A.length)).getLast? = _
      rw[List.getLast?_map,h2];rfl
     rw[h9];dsimp only;rw[show(shR A T a).op.dropLast=a.op.dropLast.map (shO A.length)by show(a.op.map (shO A.length)).dropLast=_;rw[List.map_dropLast],h4]
     exact h8 q
end
def c1G:List UInt8:=[32,60,33,45,45,99,45,45,62,10,60,63,103,111,63,62]
def c1F:List UInt8:=[60,63,110,111,119,32,120,63,62,9,60,33,45,45,45,45,62,32]
def c1D{α:Type}(p:List α):Nat->List α
 |0 => []
 |k+1=>c1D p k++p
def c1K:List Nd:=[⟨3,0,⟨#[]⟩,⟨#[]⟩,⟨#[]⟩,⟨#[99]⟩,[],[]⟩,⟨4,0,⟨#[]⟩,⟨#[103,111]⟩,⟨#[]⟩,⟨#[]⟩,[],[]⟩]
def c1N:List Nd:=[⟨4,0,⟨#[]⟩,⟨#[110,111,119]⟩,⟨#[]⟩,⟨#[120]⟩,[],[]⟩,⟨3,0,⟨#[]⟩,⟨#[]⟩,⟨#[]⟩,⟨#[]⟩,[],[]⟩]
theorem c1J{α:Type}(p:List α):∀k,(c1D p k).length=k*p.length
 |0=>by simp[c1D]
 |k+1=>by rw[c1D,e8,c1J p k,Nat.succ_mul]
theorem c1I{α:Type}(p:List α):∀k,c1D p (k+1)=p++c1D p k
 |0=>by simp[c1D]
 |k+1=>by
  show c1D p (k+1)++p=p++(c1D p k++p)
  rw[c1I p k,List.append_assoc]
theorem c1S{α:Type}(p:List α){P:α->Prop}(h:∀x∈p,P x):∀k,∀x∈c1D p k,P x
 |0,x,hx=>by simp[c1D]at hx
 |k+1,x,hx=>by
  rw[c1D,D6]at hx;rcases hx with hx|hx
  ·exact c1S p h k x hx
  ·exact h x hx
theorem c3c(q:Nat)(R:List UInt8)(ns:List Nd)(ds:List Dc)(f:List UInt8)(u:Nat):Q7 (q+4) ⟨c1G++R,ns,[⟨0,f,u⟩],ds,[]⟩=Q7 q ⟨R,ns++c1K,[⟨0,f,u⟩],ds,[]⟩ :=
 (show Q7 (q+4) ⟨c1G++R,ns,[⟨0,f,u⟩],ds,[]⟩=Q7 q ⟨R,(ns++[]++[⟨3,0,⟨#[]⟩,⟨#[]⟩,⟨#[]⟩,⟨#[99]⟩,[],[]⟩])++[]++[⟨4,0,⟨#[]⟩,⟨#[103,111]⟩,⟨#[]⟩,⟨#[]⟩,[],[]⟩],[⟨0,f,u⟩],ds,[]⟩by kernel_rfl).trans (by simp[c1K])
theorem c25(q:Nat){R:List UInt8}(hR:c2w R)(ns:List Nd)(ds:List Dc)(f:List UInt8)(u:Nat):Q7 (q+4) ⟨c1F++R,ns,[⟨0,f,u⟩],ds,[]⟩=Q7 q ⟨R,ns++c1N,[⟨0,f,u⟩],ds,[]⟩:=by
 have h:Q7 (q+4) ⟨c1F++R,ns,[⟨0,f,u⟩],ds,[]⟩=Q7 q ⟨R,(ns++[]++[⟨4,0,⟨#[]⟩,⟨#[110,111,119]⟩,⟨#[]⟩,⟨#[120]⟩,[],[]⟩])++[]++[⟨3,0,⟨#[]⟩,⟨#[]⟩,⟨#[]⟩,⟨#[]⟩,[],[]⟩],[⟨0,f,u⟩],ds,[]⟩:=by
  rcases hR with rfl|⟨z,rfl⟩<;>kernel_rfl
 rw[h];simp[c1N]
theorem c2I:∀(a q:Nat) (R:List UInt8) (ns:List Nd) (ds:List Dc) (f:List UInt8) (u:Nat),Q7 (q+4*a) ⟨c1D c1G a++R,ns,[⟨0,f,u⟩],ds,[]⟩=Q7 q ⟨R,ns++c1D c1K a,[⟨0,f,u⟩],ds,[]⟩
 |0,q,R,ns,ds,f,u=>by simp[c1D]
 |a+1,q,R,ns,ds,f,u=>by
  rw[show q+4*(a+1)=(q+4*a)+4 by omega,c1I,List.append_assoc,c3c,c2I a,c1I,List.append_assoc]
theorem c2f(c:Nat):c2w (c1D c1F c):=by
 cases c with
 |zero=>exact .inl rfl
 |succ c=>exact .inr ⟨_,by rw[c1I];rfl⟩
theorem c2E:∀(c q:Nat) (ns:List Nd) (ds:List Dc) (f:List UInt8) (u:Nat),Q7 (q+1+4*c) ⟨c1D c1F c,ns,[⟨0,f,u⟩],ds,[]⟩=some (ns++c1D c1N c)
 |0,q,ns,ds,f,u=>by simp[c1D,Q7]
 |c+1,q,ns,ds,f,u=>by
  rw[show q+1+4*(c+1)=(q+1+4*c)+4 by omega,c1I,c25 _ (c2f c),c2E c,c1I,List.append_assoc]
theorem c13{s t:List UInt8}(hs:txt s)(ht:txt t):txt (s++t):=by
 obtain⟨l,h1,h2,rfl⟩:=hs;obtain⟨k,h3,h4,rfl⟩:=ht;exact⟨l++k,by rw[List.all_append,h1,h3];rfl,by rw[List.all_append,h2,h4];rfl,by rw[K7]⟩
theorem c2c:∀{s:List UInt8},(13:UInt8)∉s->C4 s=s
 | [],_=>rfl
 |c::s,h=>by
  simp only[q8,not_or]at h;rw[Y5,f6 (Ne.symm h.1),c2c h.2]
theorem c17{T:List UInt8}(D0:(13:UInt8)∉T)(hT:c2w T):∀b:List UInt8,C4 (b++T)=C4 b++T
 | []=>c2c D0
 |c::b=>by
  rw[i9,Y5,Y5,c17 D0 hT b];by_cases hc:c=13
  ·rw[g8 hc,g8 hc]
   cases b with
   |nil =>
    rw[f6 (by rcases hT with rfl|⟨z,rfl⟩<;>simp),f6 (by simp)];rfl
   |cons d b =>
    have he:((d::b)++T).head? = some 10↔(d::b).head? = some 10:=by simp
    by_cases hd:(d::b).head? = some 10
    ·rw[g8 (he.2 hd),g8 hd]
    ·rw[f6 (fun h=>hd (he.1 h)),f6 hd];rfl
  ·rw[f6 hc,f6 hc];rfl
theorem c12:∀{p b r:List UInt8},(10:UInt8)∉p->C4 b=p++r->∃r',b=p++r'
 | [],b,r,_,_=>⟨b,rfl⟩
 |d::p,[],r,_,h=>by simp[C4]at h
 |d::p,c::b,r,h10,h=>by
  simp only[q8,not_or]at h10;rw[Y5]at h
  split at h
  ·split at h
   ·next hb =>
    exfalso
    cases b with
    |nil=>simp at hb
    |cons e b =>
     simp only[List.head?_cons,f5]at hb;rw[hb,Y5,f6 (by decide)]at h
     simp only[i9,r7]at h;exact h10.1 h.1
   ·simp only[i9,r7]at h
    exact absurd h.1 h10.1
  ·simp only[i9,r7]at h
   obtain⟨r',hr⟩:=c12 h10.2 h.2;exact⟨r',by rw[hr,h.1];rfl⟩
def c1L:List UInt8:=[60,63,120,109,108]
theorem c3d(c:Nat){B:List UInt8}(h:m9 c1L B=none):m9 c1L (B++c1D c1F c)=none:=by
 by_cases hl:5<=B.length
 ·exact c1R h hl _
 ·cases hq:m9 c1L (B++c1D c1F c)with
  |none=>rfl
  |some r =>
   have he:=I6 hq;cases c with
   |zero=>rw[show c1D c1F 0=[]from rfl,A7]at hq;rw[h]at hq;cases hq
   |succ c =>
    rw[c1I]at he
    exfalso
    match B,hl with
    | [],_=>simp[c1L,c1F]at he
    | [_],_=>simp[c1L,c1F]at he
    | [_,_],_=>simp[c1L,c1F]at he
    | [_,_,_],_=>simp[c1L,c1F]at he
    | [_,_,_,_],_=>simp[c1L,c1F]at he
    |_::_::_::_::_::_,hl=>simp at hl
theorem c23(a c:Nat){b:List UInt8}{l:List Nd}(hx:¬∃r,b=c1L++r)(h:a2Q L1 b=some l):a2Q L1 (c1D c1G a++b++c1D c1F c)=some (shN (c1D c1K a) l++c1D c1N c):=by
 unfold a2Q at h
 split at h
 ·next ht =>
  have D9:m9 c1L (C4 b)=none:=by
   cases hq:m9 c1L (C4 b)with
   |none=>rfl
   |some r=>exact absurd (c12 (by decide) (I6 hq)) hx
  have E1:L1 (C4 b)=C4 b:=by unfold L1;rw[show m9 [60,63,120,109,108] (C4 b)=none from D9]
  rw[E1]at h;have E2:(13:UInt8)∉c1D c1F c:=fun hm=>c1S c1F (P:=fun x=>x≠13) (by decide) c 13 hm rfl
  have D0:(13:UInt8)∉c1D c1G a:=fun hm=>c1S c1G (P:=fun x=>x≠13) (by decide) a 13 hm rfl
  have D1:C4 (c1D c1G a++b++c1D c1F c)=c1D c1G a++(C4 b++c1D c1F c):=by
   rw[List.append_assoc,a7Y D0,c17 E2 (c2f c)]
  have hd:L1 (c1D c1G a++(C4 b++c1D c1F c))=c1D c1G a++(C4 b++c1D c1F c):=by
   have:m9 [60,63,120,109,108] (c1D c1G a++(C4 b++c1D c1F c))=none:=by
    cases a with
    |zero=>exact c3d c D9
    |succ a=>rw[c1I,List.append_assoc];kernel_rfl
   unfold L1;rw[this]
  have E0:∀(p:List UInt8) (k:Nat),txt p->txt (c1D p k):=fun p k hp=>by
   induction k with
   |zero=>exact⟨[],rfl,rfl,rfl⟩
   |succ k ih=>exact c13 ih hp
  have E3:a1q (c1D c1G a++b++c1D c1F c)=true:=U6.2 (c13 (c13 (E0 c1G a (a5E (by decide))) (U6.1 ht)) (E0 c1F c (a5E (by decide))))
  unfold a2Q;rw[g8 E3,D1,hd];have E4:Ok (rd0 (C4 b)):=⟨by simp[rd0],⟨⟨0,[],0⟩,[],rfl,rfl⟩,fun _=>rfl⟩
  obtain⟨j,z,hj,hz,h5,h6,h7,h8⟩:=c2F (A:=c1D c1K a) (c2f c) E4 h
  have D2:(c1D c1G a++(C4 b++c1D c1F c)).length=a*16+((C4 b).length+c*18):=by
   rw[e8,e8,c1J,c1J];rfl
  rw[D2];rw[show rd0 (c1D c1G a++(C4 b++c1D c1F c))=⟨c1D c1G a++(C4 b++c1D c1F c),[Y3],[⟨0,[],0⟩],[],[]⟩from rfl];obtain⟨q,hq⟩ : ∃q,a*16+((C4 b).length+c*18)+1=((q+1+4*c)+j)+4*a:=⟨a*12+(C4 b).length+c*14-j,by omega⟩
  rw[hq,c2I]
  have hs:(⟨C4 b++c1D c1F c,[Y3]++c1D c1K a,[⟨0,[],0⟩],[],[]⟩ : Rd)=shR (c1D c1K a) (c1D c1F c) (rd0 (C4 b)):=by
   simp[shR,rd0,shN,shO,shI]
  rw[hs,h8];obtain⟨o,r,ho,h0⟩:=hz.op;have hr:r=[]:=by rw[ho,i8]at h6;exact j8 (by omega)
  subst hr;have D3:=hz.tx h6
  have E5:shR (c1D c1K a) (c1D c1F c) z=⟨c1D c1F c,shN (c1D c1K a) l,[⟨0,o.full,o.outer⟩],z.ds,[]⟩:=by
   unfold shR;rw[h5,h7,ho,D3];simp[shO,shI,h0]
  rw[E5,c2E]
 ·cases h
end Go.Proofs.YteinegfbpfhflaaGreatDoor
