/-
  What is in scope at an element: the declarations met, the nearest first, of each prefix the first one; and that it is what its meaning tells. Plain mathematics.
-/
import Derived.Test.YtlgcigmolfhamaaGreatDoorK22
namespace Go.Proofs.YtlgcigmolfhamaaGreatDoor
open Go.RowKit
set_option linter.unusedVariables false
def c43:Dc:=⟨⟨a1K.toArray⟩,⟨a3T.toArray⟩⟩
def c5q(l:List Nd)(n:Nat):List Dc:=dsR l n++(upL l n).flatMap (fun a=>dsR l a.toNat)
def c48(l:List Nd)(n:Nat):List Dc:=c43::c5q l n
theorem c45(s:List UInt8):a0b [] s=none:=rfl
theorem c4Z(d:Dc)(r:List Dc)(s:List UInt8):a0b (d::r) s=if d.p.data.toList=s then some d.u else a0b r s:=by
 unfold a0b;by_cases h:d.p.data.toList=s
 ·simp[h]
 ·simp[h]
theorem c5k(a b:List Dc)(s:List UInt8):a0b (a++b) s=(a0b a s).or (a0b b s):=by
 induction a with
 |nil=>simp[c45]
 |cons d r ih =>
  rw[i9,c4Z,c4Z];by_cases h:d.p.data.toList=s
  ·simp[h]
  ·simp[h,ih]
theorem c5w{l:List Nd}{n p:Nat}(hp:pa l n=(p:Int))(D0:p<n):c5q l n=dsR l n++c5q l p:=by
 have h:0<=pa l n/\(pa l n).toNat<n:=by rw[hp];omega
 unfold c5q;rw[c4i h,List.flatMap_cons,hp]
 rfl
theorem c5v{l:List Nd}(h0:pa l 0 = -1)(hr:dsR l 0=[]):c5q l 0=[]:=by
 unfold c5q;rw[c4h (by rw[h0];omega),hr];rfl
theorem c54{l:List Nd}{b:Nat}(hh:W4 l (b+1))(h0:pa l 0 = -1)(hr:dsR l 0=[])(s:List UInt8):∀m n,n<=m->n<=b->a0n l n s=a0b (c5q l n) s:=by
 intro m
 induction m with
 |zero =>
  intro n hn _;obtain rfl:n=0:=by omega
  rw[a3l,c5v h0 hr,c45]
 |succ m ih =>
  intro n hn hb;rcases a6w hh h0 hb with⟨rfl,_⟩|⟨p,hp,D0⟩
  ·rw[a3l,c5v h0 hr,c45]
  ·rw[a3m s (by omega) hp D0,c5w hp D0,c5k,ih p (by omega) (by omega)]
def c41(L:List Dc)(s:List UInt8):ByteArray×Bool:=match a0b L s with|some u=>(u,!N4 u [])|none=>(⟨#[]⟩,false)
def c5c(pre:List Dc)(x:Dc):Bool:=(a0b pre x.p.data.toList).isNone && !N4 x.u []
def c46:List Dc->List Dc->List Dc
 |_,[] => []
 |pre,x::r=>(if c5c pre x then[x]else[])++c46 (pre++[x]) r
def c4X(L:List Dc):List Dc:=c46 [] L
theorem c50(L K:List Dc):∀pre,c46 pre (L++K)=c46 pre L++c46 (pre++L) K:=by
 induction L with
 |nil=>intro pre;simp[c46]
 |cons x r ih=>intro pre;rw[i9,c46,c46,ih];simp
theorem c5r(L:List Dc)(x:Dc):c4X (L++[x])=c4X L++(if c5c L x then[x]else[]):=by
 unfold c4X;rw[c50];simp[c46]
theorem c5h(L:List Dc)(x:Dc)(s:List UInt8):a0b (L++[x]) s=(a0b L s).or (if x.p.data.toList=s then some x.u else none):=by
 rw[c5k,c4Z,c45]
theorem c5C(L:List Dc):(∀d,d∈c4X L↔a0b L d.p.data.toList=some d.u/\N4 d.u []=false)/\(c4X L).Pairwise (fun a b=>a.p.data.toList≠b.p.data.toList):=by
 generalize hk:L.length=k
 induction k generalizing L with
 |zero =>
  obtain rfl:=List.length_eq_zero_iff.1 hk;exact⟨fun d=>by simp[c4X,c46,c45],by simp[c4X,c46]⟩
 |succ k ih =>
  obtain⟨M,x,rfl⟩ : ∃M x,L=M++[x]:=by
   rcases List.eq_nil_or_concat L with h|⟨M,x,h⟩
   ·rw[h]at hk;simp at hk
   ·exact⟨M,x,by simpa using h⟩
  obtain⟨h1,h2⟩:=ih M (by simpa using hk)
  rw[c5r]
  have hd:∀a b:Dc,a.p.data.toList=b.p.data.toList->a.u=b.u->a=b:=by
   rintro⟨⟨⟨p⟩⟩,u⟩⟨⟨⟨q⟩⟩,v⟩e f;simp only at e f;rw[e,f]
  constructor
  ·intro d
   rw[D6,h1,c5h];cases hn:c5c M x with
   |false =>
    simp only[Bool.false_eq_true,if_false,C5,or_false]
    constructor
    ·rintro⟨a,b⟩;exact⟨by rw[a];rfl,b⟩
    ·rintro⟨a,b⟩
     refine⟨?_,b⟩;cases hf:a0b M d.p.data.toList with
     |some z=>rw[hf]at a;simpa using a
     |none =>
      rw[hf]at a;by_cases he:x.p.data.toList=d.p.data.toList
      ·rw[g8 he]at a
       simp only[Option.none_or,f5]at a;unfold c5c at hn;rw[he,hf,a,b]at hn;simp at hn
      ·rw[f6 he]at a;simp at a
   |true =>
    simp only[if_true,r8];unfold c5c at hn;rw[i4,Option.isNone_iff_eq_none,Bool.not_eq_true']at hn
    constructor
    ·rintro(⟨a,b⟩| rfl)
     ·exact⟨by rw[a];rfl,b⟩
     ·rw[hn.1,g8 rfl];exact⟨rfl,hn.2⟩
    ·rintro⟨a,b⟩
     cases hf:a0b M d.p.data.toList with
     |some z=>rw[hf]at a;exact .inl ⟨by simpa using a,b⟩
     |none =>
      rw[hf]at a;by_cases he:x.p.data.toList=d.p.data.toList
      ·rw[g8 he]at a
       simp only[Option.none_or,f5]at a;exact .inr (hd _ _ he.symm a.symm)
      ·rw[f6 he]at a;simp at a
  ·rw[List.pairwise_append]
   refine⟨h2,?_,?_⟩
   ·split<;>simp
   ·intro a ha b hb
    cases hn:c5c M x with
    |false=>rw[hn]at hb;simp at hb
    |true =>
     rw[hn]at hb;simp only[if_true,r8]at hb;subst hb;intro he;unfold c5c at hn;rw[i4,Option.isNone_iff_eq_none]at hn;rw[h1,he,hn.1]at ha;simp at ha
theorem c5t{L:List Dc}(h:L.Pairwise (fun a b=>a.p.data.toList≠b.p.data.toList)):L.Nodup:=by
 unfold List.Nodup
 induction h with
 |nil=>exact List.Pairwise.nil
 |cons h1 _ ih=>exact List.Pairwise.cons (fun b hb e=>h1 b hb (by rw[e])) ih
theorem c5R{L K:List Dc}(hL:L.Pairwise (fun a b=>a.p.data.toList≠b.p.data.toList))(hK:K.Pairwise (fun a b=>a.p.data.toList≠b.p.data.toList))(h:∀d,d∈L↔d∈K):L.Perm K :=
 (List.perm_ext_iff_of_nodup (c5t hL) (c5t hK)).2 h
def c5S(l:List Nd)(n:Nat):List Dc->List ByteArray->List Dc
 |o,[]=>o
 |o,p::r=>c5S l n (if(G4 l n p).2&&(!N4 (G4 l n p).1 [])&&(a0b o p.data.toList).isNone then o++[⟨p,(G4 l n p).1⟩]else o) r
def c6A:ByteArray:=⟨#[]⟩
def c6d(l:List Nd)(n:Nat):List ByteArray:=c43.p::c6A::(c5q l n).map (·.p)
def c6v(l:List Nd)(n:Nat):List Dc:=c5S l n [] (c6d l n)
theorem c6r{a b:ByteArray}(h:a.data.toList=b.data.toList):a=b:=by
 rcases a with⟨⟨a⟩⟩;rcases b with⟨⟨b⟩⟩;simp only at h;rw[h]
theorem c40{o:List Dc}{s:List UInt8}:a0b o s=none↔∀d∈o,d.p.data.toList≠s:=by
 induction o with
 |nil=>simp[c45]
 |cons d r ih =>
  rw[c4Z];by_cases h:d.p.data.toList=s
  ·simp[h]
  ·simp[h,ih]
theorem c5n(l:List Nd)(n:Nat):∀(ps:List ByteArray) (o:List Dc),(∀d∈o,G4 l n d.p=(d.u,true)/\N4 d.u []=false)->o.Pairwise (fun a b=>a.p.data.toList≠b.p.data.toList) ->
 (∀d,d∈c5S l n o ps↔d∈o∨(d.p∈ps/\G4 l n d.p=(d.u,true)/\N4 d.u []=false))/\(c5S l n o ps).Pairwise (fun a b=>a.p.data.toList≠b.p.data.toList)
 | [],o,h1,h2=>⟨fun d=>by simp[c5S],h2⟩
 |p::r,o,h1,h2=>by
  rw[c5S];by_cases hc:((G4 l n p).2&&(!N4 (G4 l n p).1 [])&&(a0b o p.data.toList).isNone)=true
  ·rw[g8 hc]
   rw[i4,i4,Option.isNone_iff_eq_none,Bool.not_eq_true']at hc;obtain⟨⟨c1,c2⟩,c3⟩:=hc;have hm:G4 l n p=((G4 l n p).1,true):=by rw[<-c1]
   obtain⟨a,b⟩:=c5n l n r (o++[⟨p,(G4 l n p).1⟩]) (by
    intro d hd;rcases D6.1 hd with hd|hd
    ·exact h1 d hd
    ·rw[r8]at hd;subst hd;exact⟨hm,c2⟩) (by
    rw[List.pairwise_append];refine⟨h2,by simp,fun x hx y hy => ?_⟩
    rw[r8]at hy;subst hy;exact c40.1 c3 x hx)
   refine⟨fun d => ?_,b⟩;rw[a,D6,r8,q8]
   constructor
   ·rintro((h|rfl) |⟨h,k⟩)
    ·exact .inl h
    ·exact .inr ⟨.inl rfl,hm,c2⟩
    ·exact .inr ⟨.inr h,k⟩
   ·rintro(h |⟨h|h,k1,k2⟩)
    ·exact .inl (.inl h)
    ·refine .inl (.inr ?_)
     rcases d with⟨dp,du⟩;simp only at h k1;subst h;rw[k1]
    ·exact .inr ⟨h,k1,k2⟩
  ·rw[f6 hc]
   obtain⟨a,b⟩:=c5n l n r o h1 h2;refine⟨fun d => ?_,b⟩;rw[a,q8]
   constructor
   ·rintro(h |⟨h,k⟩)
    ·exact .inl h
    ·exact .inr ⟨.inr h,k⟩
   ·rintro(h |⟨h|h,k1,k2⟩)
    ·exact .inl h
    ·refine .inl ?_
     rw[<-h,k1,k2]at hc;simp only[Bool.not_false,Bool.and_self,Bool.true_and,Option.isNone_iff_eq_none]at hc
     obtain⟨x,hx,he⟩ : ∃x∈o,x.p.data.toList=d.p.data.toList:=by
      refine Classical.byContradiction fun D1=>hc (c40.2 fun x hx he=>D1 ⟨x,hx,he⟩)
     have D0:=c6r he;have:=(h1 x hx).1;rw[D0,k1]at this;rcases x with⟨xp,xu⟩;rcases d with⟨dp,du⟩;simp only[Prod.mk.injEq,and_true]at this D0;rw[<-D0,this]at *;exact hx
    ·exact .inr ⟨h,k1,k2⟩
theorem c5Y{p:ByteArray}:N4 p a1K=true↔c43.p.data.toList=p.data.toList:=by rw[a0p];exact eq_comm
theorem c6p{l:List Nd}{n b:Nat}(hb:n<=b)(hh:W4 l (b+1))(h0:pa l 0 = -1)(hr:dsR l 0=[]):(c4X (c48 l n)).Perm (c6v l n):=by
 obtain⟨a1,a2⟩:=c5C (c48 l n);obtain⟨b1,b2⟩:=c5n l n (c6d l n) [] (by simp) (by simp)
 refine c5R a2 b2 fun d => ?_;rw[a1];unfold c6v;rw[b1];simp only[C5,false_or];have D0:=c54 hh h0 hr d.p.data.toList n n (c9 _) hb;unfold c48;rw[c4Z];unfold G4;by_cases hx:c43.p.data.toList=d.p.data.toList
 ·rw[g8 hx,c5Y.2 hx]
  simp only[cond_true,f5,Prod.mk.injEq,and_true]
  constructor
  ·rintro⟨e,f⟩
   exact⟨by unfold c6d;rw[<-c6r hx];simp,e,f⟩
  ·rintro⟨_,e,f⟩;exact⟨e,f⟩
 ·rw[f6 hx,show N4 d.p a1K=false from by rw[<-Bool.not_eq_true];exact fun h=>hx (c5Y.1 h),D0]
  simp only[cond_false];cases hf:a0b (c5q l n) d.p.data.toList with
  |none =>
   simp only[reduceCtorEq,false_and,Prod.mk.injEq,false_iff,not_and];rintro _⟨e,_⟩f;rw[<-e]at f;simp[N4]at f
  |some z =>
   simp only[f5,Prod.mk.injEq,and_true]
   constructor
   ·rintro⟨e,f⟩
    refine⟨?_,e,f⟩;unfold c6d
    obtain⟨x,hx,he⟩ : ∃x∈c5q l n,x.p.data.toList=d.p.data.toList:=by
     refine Classical.byContradiction fun D1 => ?_;rw[c40.2 fun x hx he=>D1 ⟨x,hx,he⟩]at hf;exact absurd hf (by simp)
    rw[<-c6r he];exact List.mem_cons_of_mem _ (List.mem_cons_of_mem _ (List.mem_map_of_mem hx))
   ·rintro⟨_,e,f⟩;exact⟨e,f⟩
end Go.Proofs.YtlgcigmolfhamaaGreatDoor
