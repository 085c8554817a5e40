/-
  The laws' own look whether the program does anything. Conditions: the tables lie as they are laid, internal/bytealg.MaxLen holds some number. apostilleref07.Few: has a list few nodes, with few things. Conditions: the list lies as it is. apostilleref07.Check: the document's own. Conditions: the list lies as it is; there are not too many nodes, the texts are not too long. What the document asks of a list's prefixes and elements is what the program asks: no walk. Conditions: the nodes hang where they may; no list declares twice. What the document asks of a list is what the program asks: no walk. Conditions: the texts are not too long. A list is formed for the document just if it is for the program: no walk. Conditions: the texts are not too long. DocForms walked. Conditions: the list lies as it is, its texts are not too long; the tables lie as they are laid, internal/bytealg.MaxLen holds some number.
-/
import Derived.Test.YteinegfbpfhflaaGreatDoorK20
import Derived.Test.YteinegfbpfhflaaGreatDoorK09
import Derived.Test.YteinegfbpfhflaaGreatDoorK12
import Derived.Test.YteinegfbpfhflaaGreatDoorK40
import Derived.BigQuiet
namespace Go.Proofs.YteinegfbpfhflaaGreatDoor
open Go.RowKit
open Go.RowKit
open Go.RowKit
open Go.RowKit
set_option linter.unusedVariables false
set_option maxRecDepth 100000
set_option maxHeartbeats 16000000
noncomputable def T7(l:List Nd):Int:=bif Y2 l then(bif J6 l then 0 else 3)else 2
theorem b32{l:List Nd}{j:Nat}(hj:j<l.length)(h:¬(dp l j<=64/\mks l j<=64)):J6 l=false:=by
 unfold J6;rw[F4];exact fun hh=>h (hh.2 j hj)
theorem a9V{l:List Nd}(h:¬l.length<=4000):J6 l=false:=by
 unfold J6;rw[F4];exact fun hh=>h hh.1
theorem b1K{l:List Nd}(h1:l.length<=4000)(h2:∀i,i<l.length->dp l i<=64/\mks l i<=64):J6 l=true:=by
 unfold J6;rw[t8];exact⟨h1,h2⟩
def c1k(w:World)(l:List Nd)(i:Value)(wr:World):Prop:=∃k:Nat,k<=l.length/\i=.int .i64 k/\(∀j,j<k->dp l j<=64/\mks l j<=64)/\Below w.heap.size w wr
theorem b5k(l:List Nd)(v:Value)(w:World)(hv:S3 w w.heap.size v l)(D3:l.length<=100000)(hs:∀x∈l,Sm x) :
 Calls Tryz.prog 36 #[v] w fun e w'=>e=.returned (.int .i64 (T7 l))/\Below w.heap.size w w':=by
 have D2:=a8 (b2w l v w hv D3 hs);cases hf:Y2 l with
 |false =>
  rw[hf]at D2;have hR:T7 l=2:=by unfold T7;rw[hf];rfl
  rw[hR];obtain⟨A,cap,rfl,E8,J2⟩:=hv.slice;clear hv hf hR hs;go_enter Tryz.func36,Tryz.ntmps36
  go_wp2_with fail
  refine D2.out.mono ?_;rintro e w1⟨rfl,E0⟩;go_wp2;go_ret;exact⟨rfl,E0⟩
 |true =>
  rw[hf]at D2;have E2:a1p l:=Classical.byContradiction fun h=>by rw[a3O h]at hf;cases hf
  have hh:W4 l l.length:=a4Z (c9 _) E2.nodes
  have h0:pa l 0 = -1:=by
   obtain⟨h0,h1⟩:=E2.root;unfold S9 at h1;simp only[i4,x8]at h1;rw[Z5 h0];exact h1.2.1
  have G0:Hid (∀w' n,n<l.length->Below w.heap.size w w'->Calls Tryz.prog 69 #[v,.int .i64 (n:Nat)] w' fun e w''=>e=.returned (.int .i64 (dp l n:Nat))/\w''=w'):=fun w' n hn hb=>b7a l v n w' (hv.later hb) hn (by omega) (hh.mono (by omega)) h0
  have HV:=a8 hv;have J3:=a8 hs;obtain⟨R,hR⟩ : ∃R,T7 l=R:=⟨_,rfl⟩;rw[hR];have G1:Hid (J6 l=false->R=3):=fun h=>by rw[<-hR,T7,hf,h];rfl
  have J4:Hid (J6 l=true->R=0):=fun h=>by rw[<-hR,T7,hf,h];rfl
  obtain⟨A,cap,rfl,E8,J2⟩:=hv.slice;obtain⟨q,E3⟩ : ∃q,l.length=q:=⟨_,rfl⟩;have HQ:=a8 E3;rw[E3]at E8 D3 G0 D2 ⊢;clear hv hf hR hs E2 hh h0 E3;go_enter Tryz.func36,Tryz.ntmps36
  go_wp2_with fail
  refine D2.out.mono ?_;rintro e w1⟨rfl,E0⟩;clear D2;go_wp2
  go_loopw [9] (c1k w l) (fun i _=>q-(intOf i).toNat)
  case atStart=>exact⟨0,o4 _,rfl,fun j h=>by omega,E0⟩
  case round =>
   obtain⟨k,hk,rfl,G4,hb⟩:=hrel;rw[HQ.out]at hk;have G5:=a8 G4;clear G4 E0;by_cases G6:k<q
   ·have D0:k<l.length:=by rw[HQ.out];exact G6
    have J5:(k:Int)<(q:Int):=by omega
    obtain⟨b,o,cap',e,_,_,G7,G8⟩:=HV.out.open (by intro h;rw[h]at D0;simp at D0)
    simp only[o5]at e;obtain⟨rfl,-,rfl⟩:=e;obtain⟨vd,va,-,-,-,-,-,-,d6,d7,J7,J8⟩:=(G8 k D0).cells;replace d6:=(hb.cell (p:=⟨b,o+k*8+6,none⟩) G7).trans d6;replace d7:=(hb.cell (p:=⟨b,o+k*8+7,none⟩) G7).trans d7;have E4:=J3.out _ (o0 D0);have sn1:=E4.nd;have sn2:=E4.na;have G9:Hid (mks l k=l[k].ds.length+l[k].ats.length):=b6A D0;obtain⟨A1,c1,rfl,-⟩:=J7;obtain⟨A2,c2,rfl,-⟩:=J8;have J1:=a8 D0;have E1:Hid (∀z,Calls Tryz.prog 69 #[.slice (some ⟨b,o,none⟩) q cap,.int .i64 (k:Nat)] (wr.drewN z) fun e w''=>e=.returned (.int .i64 (dp l k:Nat))/\w''=wr.drewN z):=fun z=>G0.out (wr.drewN z) k G6 (i7 hb _);have D1:Hid (¬(dp l k<=64/\mks l k<=64)->R=3):=fun h=>G1.out (b32 J1.out h);generalize l[k].ds.length=a1 at *;generalize l[k].ats.length=a2 at *;clear G8 D0 E4;obtain⟨dk,E5⟩ : ∃d,dp l k=d:=⟨_,rfl⟩;have J9:=a8 E5;rw[E5]at E1 D1;have L0:Hid (dk<=64->a1+a2<=64->∀j,j<k+1->dp l j<=64/\mks l j<=64):=fun h1 h2=>a2J G5.out ⟨by rw[J9.out];exact h1,by rw[G9.out];exact h2⟩
    clear E5;by_cases hd:(dk:Int)>64
    ·have D9:R=3:=D1.out (fun h=>by omega)
     subst D9;have L1:=i6 hd
     go_wp2_with fail
     go_quiet (first|(go_at_call 69;refine Calls.quiet_of_same (E1.out _)))
     go_wp2;go_ret;exact⟨rfl,i7 hb _⟩
    ·have L1:=f8 hd
     by_cases hm:(a1:Int)+(a2:Int)>64
     ·have D9:R=3:=D1.out (fun h=>by have:=G9.out;omega)
      subst D9;have L2:=i6 hm
      go_wp2_with fail
      go_quiet (first|(go_at_call 69;refine Calls.quiet_of_same (E1.out _)))
      go_wp2;go_ret;exact⟨rfl,i7 hb _⟩
     ·have L2:=f8 hm
      have E6:=a8 (L0.out (by omega) (by omega))
      go_wp2_with fail
      go_quiet (first|(go_at_call 69;refine Calls.quiet_of_same (E1.out _)))
      go_wp2
      go_roundw
      case rel=>exact⟨k+1,J1.out,by go_num,E6.out,i7 hb _⟩
      case measure=>simp[intOf];omega
   ·have J5:¬(k:Int)<(q:Int):=by omega
    have E7:Hid (∀j,j<l.length->dp l j<=64/\mks l j<=64):=fun j hj=>G5.out j (by rw[HQ.out]at hj;omega)
    by_cases L3:(q:Int)>4000
    ·have D9:R=3:=G1.out (a9V (by rw[HQ.out];omega))
     subst D9;go_wp2;go_ret;exact⟨rfl,hb⟩
    ·have L4:R=0:=J4.out (b1K (by rw[HQ.out];omega) E7.out)
     subst L4;have L5:=f8 L3;go_wp2;go_ret;exact⟨rfl,hb⟩
def DsU(ds:List Dc):Prop:=ds.Pairwise fun a b=>a.p.data.toList≠b.p.data.toList
theorem a6X:∀{ds:List Dc} (s:List UInt8),DsU ds->a0x ds.reverse s=a0b ds s
 | [],s,_=>rfl
 |d::r,s,h=>by
  have hr:DsU r:=(List.pairwise_cons.1 h).2;have hd:=(List.pairwise_cons.1 h).1;have ih:=a6X s hr;unfold a0x a0b at ih ⊢;rw[List.reverse_cons,List.find?_append];by_cases hp:d.p.data.toList=s
  ·have hn:r.find? (fun d=>decide (d.p.data.toList=s))=none:=by
    rw[List.find?_eq_none];intro x hx;simp only[t8];exact fun e=>hd x hx (hp.trans e.symm)
   have hn':r.reverse.find? (fun d=>decide (d.p.data.toList=s))=none:=by
    rw[List.find?_eq_none]at hn ⊢;exact fun x hx=>hn x (List.mem_reverse.1 hx)
   rw[hn'];simp[hp]
  ·have h1:[d].find? (fun d=>decide (d.p.data.toList=s))=none:=by simp[hp]
   have h2:(d::r).find? (fun d=>decide (d.p.data.toList=s))=r.find? (fun d=>decide (d.p.data.toList=s)):=by simp[hp]
   rw[h1,h2,Option.or_none];exact ih
theorem b6U(A B:List Dc)(s:List UInt8):a0x (A++B) s=(a0x A s).or (a0x B s):=by
 unfold a0x;rw[List.find?_append];cases A.find? (fun d=>decide (d.p.data.toList=s))<;>simp
structure a5C(l:List Nd)(n:Nat):Prop where
 zero:dsR l 0=[]
 ok:∀m,m<=n->∀d∈dsR l m,T6 d=true
 one:∀m,m<=n->DsU (dsR l m)
theorem a5C.mono{l:List Nd}{n m:Nat}(h:a5C l n)(hm:m<=n):a5C l m:=⟨h.zero,fun k hk=>h.ok k (by omega),fun k hk=>h.one k (by omega)⟩
theorem b8U{l:List Nd}(hh:W4 l l.length)(h0:pa l 0 = -1)(s:List UInt8):∀n,n<l.length->a5C l n->a0x (stk l n) s=a0n l n s:=by
 intro n
 induction n using Nat.strongRecOn with
 |ind n ih =>
  intro hn hA;rcases B9 n with rfl|h1
  ·rw[a96 (by rw[h0];omega),show dsA l 0=dsR l 0 from rfl,hA.zero,a3l];rfl
  ·obtain⟨D1,D0⟩:=hh.toNat h1 hn
   obtain⟨p,hp⟩ : ∃p:Nat,pa l n=(p:Int):=⟨(pa l n).toNat,by omega⟩
   rw[hp,J0]at D0;rw[a6h (by rw[hp];omega),hp,J0,b6U,show dsA l n=dsR l n from rfl,a6X s (hA.one n (c9 _)),ih p D0 (by omega) (hA.mono (by omega)),a3m s h1 hp D0]
theorem b4Z{l:List Nd}(hh:W4 l l.length):∀n,n<l.length->a5C l n->a0n l n L2=none:=by
 intro n
 induction n using Nat.strongRecOn with
 |ind n ih =>
  intro hn hA;rcases B9 n with rfl|h1
  ·rw[a3l]
  ·obtain⟨D1,D0⟩:=hh.toNat h1 hn
   obtain⟨p,hp⟩ : ∃p:Nat,pa l n=(p:Int):=⟨(pa l n).toNat,by omega⟩
   rw[hp,J0]at D0;rw[a3m _ h1 hp D0,ih p D0 (by omega) (hA.mono (by omega))]
   have:a0b (dsR l n) L2=none:=a42 (fun j hj e=>by
    have hd:=hA.ok n (c9 _) _ (o0 hj);unfold T6 at hd;simp only[i4,Bool.not_eq_true']at hd;have:=a0p.2 e;rw[hd.2.1]at this;cases this)
   rw[this];rfl
theorem b8C(L:List UInt8):(⟨L.toArray⟩ : ByteArray).toList=L:=by rw[f9]
theorem b3i{l:List Nd}(hh:W4 l l.length)(h0:pa l 0 = -1){n:Nat}(hn:n<l.length)(hA:a5C l n)(p u:ByteArray):a1Y (stk l n) p u=((G4 l n p).2&&((G4 l n p).1.toList==u.toList)):=by
 unfold a1Y G4;cases hx:N4 p a1K with
 |true =>
  simp only[cond_true,Bool.true_and];rw[b8C,A8];unfold N4;rw[x8,x8];exact eq_comm
 |false =>
  simp only[cond_false];rw[b8U hh h0 _ n hn hA];cases a0n l n p.data.toList with
  |some z =>
   simp only[Bool.true_and];rw[A8,x8,x8];exact eq_comm
  |none =>
   show(N4 p []&&N4 u [])=(N4 p []&&_)
   congr 1
   unfold N4;rw[A8,x8,x8,show(⟨#[]⟩ : ByteArray).toList=[]from by rw[f9]]
   exact eq_comm
theorem a6J{l:List Nd}(hh:W4 l l.length){n:Nat}(hn:n<l.length)(hA:a5C l n){p:ByteArray}(h:(G4 l n p).2=true):N4 p L2=false:=by
 cases he:N4 p L2 with
 |false=>rfl
 |true =>
  exfalso
  have e:=a0p.1 he;unfold G4 at h
  have h1:N4 p a1K=false:=by
   cases h2:N4 p a1K with
   |false=>rfl
   |true=>have:=(a0p.1 h2).symm.trans e;simp[a1K,L2]at this
  rw[h1,cond_false,e,b4Z hh n hn hA]at h;have h3:=a0p.1 h;rw[e]at h3;simp[L2]at h3
theorem b2G(ds:List Dc):(!a0c (V8 ds))=true↔DsU ds:=by
 unfold a0c V8 DsU;simp only[Bool.not_not,t8];unfold List.Nodup;rw[List.pairwise_map,List.pairwise_iff_getElem,List.pairwise_iff_getElem]
 constructor<;>intro h i j hi hj D0 e<;>refine h i j hi hj D0 ?_
 ·rw[e]
 ·simpa using e
theorem b3G{ats:List At}(hs:∀a∈ats,a.l.size<=2000000/\a.u.size<=2000000):(!a0c (X9 ats))=true↔ats.Pairwise fun a b => ¬(a.l.data.toList=b.l.data.toList/\a.u.data.toList=b.u.data.toList):=by
 unfold a0c X9;simp only[Bool.not_not,t8];unfold List.Nodup;rw[List.pairwise_map,List.pairwise_iff_getElem,List.pairwise_iff_getElem]
 constructor<;>intro h i j hi hj D0 e<;>refine h i j hi hj D0 ?_
 ·have e1:ats[i].l=ats[j].l:=G0 e.1
  have e2:ats[i].u=ats[j].u:=G0 e.2;rw[e1,e2]
 ·have si:=hs _ (o0 hi)
  have sj:=hs _ (o0 hj);obtain⟨e1,e2⟩:=b4T si.1 si.2 sj.1 sj.2 e;exact⟨by rw[e1],by rw[e2]⟩
theorem b3T{l:List Nd}(hh:W4 l l.length)(h0:pa l 0 = -1){n:Nat}(hn:n<l.length)(hA:a5C l n)(a:At):a4C l n a=true↔a0y a=true/\a2t (stk l n) a=true:=by
 unfold a4C a0y a2t a0g;rw[b3i hh h0 hn hA];cases hp:N4 a.p []with
 |true =>
  have hx:N4 a.p L2=false:=by
   cases h:N4 a.p L2 with
   |false=>rfl
   |true=>have:=(a0p.1 hp).symm.trans (a0p.1 h);simp[L2]at this
  have hu:((⟨#[]⟩ : ByteArray).toList==a.u.toList)=N4 a.u []:=by
   unfold N4;rw[A8,x8,x8,show(⟨#[]⟩ : ByteArray).toList=[]from by rw[f9]]
   exact eq_comm
  simp only[hx,cond_true,hu];cases N4 a.u []<;>cases nmS a.l<;>cases N4 a.l L2<;>cases tx a.v<;>simp
 |false =>
  have hx:=fun h=>a6J (p:=a.p) hh hn hA h;simp only[cond_false];cases hm:(G4 l n a.p).2 with
  |false=>simp
  |true =>
   rw[hx hm];cases((G4 l n a.p).1.toList==a.u.toList)<;>cases nmS a.p<;>cases nmS a.l<;>cases tx a.v<;>simp
theorem b3f{l:List Nd}(hh:W4 l l.length)(h0:pa l 0 = -1){n:Nat}(hn:n<l.length)(hA:a5C l n)(x:Nd):a6G l n x=true↔a1Y (stk l n) x.p x.u=true/\nmS x.l=true/\a0g x.p=true/\N4 x.t []=true:=by
 unfold a6G a0g;rw[b3i hh h0 hn hA];have hx:=fun h=>a6J (p:=x.p) hh hn hA h;cases hm:(G4 l n x.p).2 with
 |false=>simp
 |true =>
  rw[hx hm];cases((G4 l n x.p).1.toList==x.u.toList)<;>cases nmS x.l<;>cases(N4 x.p []||nmS x.p)<;>cases N4 x.t []<;>simp
theorem b3B{l:List Nd}(hh:W4 l l.length)(h0:pa l 0 = -1){n:Nat}(hn:n<l.length)(hA:a5C l n)(hs:Sm l[n]):a4s l n l[n]=true↔a1z l[n]=true/\a2P (stk l n) l[n]=true:=by
 have D3:∀d∈l[n].ds,T6 d=true:=by have:=hA.ok n (c9 _);rw[a49 hn]at this;exact this
 have D0:DsU l[n].ds:=by have:=hA.one n (c9 _);rw[a49 hn]at this;exact this
 have D9:∀a∈l[n].ats,a.l.size<=2000000/\a.u.size<=2000000:=fun a ha=>⟨(hs.ats a ha).2.1,(hs.ats a ha).2.2.1⟩;generalize l[n]=x at *
 have hF:a1z x=true↔(nmS x.l=true/\a0g x.p=true/\N4 x.t []=true)/\(∀a∈x.ats,a0y a=true)/\x.ats.Pairwise fun a b => ¬(a.l.data.toList=b.l.data.toList/\a.u.data.toList=b.u.data.toList):=by
  unfold a1z;have h1:x.ds.all T6=true:=o9.2 D3;have h2:(!a0c (V8 x.ds))=true:=(b2G x.ds).2 D0;rw[h1,h2];simp only[i4,Bool.true_and,o9]
  constructor
  ·rintro⟨a1,a2,a3,a4,a5⟩;exact⟨⟨a1,a2,a3⟩,a4,(b3G D9).1 a5⟩
  ·rintro⟨⟨a1,a2,a3⟩,a4,a5⟩;exact⟨a1,a2,a3,a4,(b3G D9).2 a5⟩
 have hM:a2P (stk l n) x=true↔a1Y (stk l n) x.p x.u=true/\∀a∈x.ats,a2t (stk l n) a=true:=by
  unfold a2P;simp only[i4,o9]
 rw[hF,hM]
 constructor
 ·intro h
  have D1:a3S l n x:=Classical.byContradiction fun hc=>by rw[a65 hc]at h;cases h
  obtain⟨n1,n2,n3,n4⟩:=(b3f hh h0 hn hA x).1 D1.nm
  have E0:∀a∈x.ats,a0y a=true/\a2t (stk l n) a=true:=fun a ha=>by
   obtain⟨k,hk,rfl⟩:=List.getElem_of_mem ha;exact(b3T hh h0 hn hA _).1 (D1.ats k hk).1
  refine⟨⟨⟨n2,n3,n4⟩,fun a ha=>(E0 a ha).1,?_⟩,n1,fun a ha=>(E0 a ha).2⟩;rw[List.pairwise_iff_getElem];exact fun i j hi hj E1=>(D1.ats j hj).2 i hi E1
 ·rintro⟨⟨⟨n2,n3,n4⟩,ha,hp⟩,n1,hm⟩
  refine a8g ⟨fun k hk=>⟨D3 _ (o0 hk),fun i hi D2 => ?_⟩,(b3f hh h0 hn hA x).2 ⟨n1,n2,n3,n4⟩,fun k hk=>⟨(b3T hh h0 hn hA _).2 ⟨ha _ (o0 hk),hm _ (o0 hk)⟩,fun i hi D2 => ?_⟩⟩
  ·unfold DsU at D0
   rw[List.pairwise_iff_getElem]at D0;exact D0 i k hi hk D2
  ·rw[List.pairwise_iff_getElem]at hp
   exact hp i k hi hk D2
theorem a7h(l:List Nd)(n:Nat):∀k m:Nat,O1 l n k=(m:Int)->0<m/\m<k/\pa l m=pa l n/\∀j,m<j->j<k->pa l j≠pa l n
 |0,m,h=>by rw[O1]at h;omega
 |k+1,m,h=>by
  rw[O1]at h
  split at h
  ·rename_i hc
   obtain rfl:k=m:=by omega
   exact⟨hc.1,by omega,hc.2,fun j h1 h2=>by omega⟩
  ·rename_i hc
   obtain⟨h1,h2,h3,h4⟩:=a7h l n k m h;refine⟨h1,by omega,h3,fun j h5 h6 => ?_⟩
   by_cases he:j=k
   ·subst he;exact fun e=>hc ⟨by omega,e⟩
   ·exact h4 j h5 (by omega)
theorem b5o{l:List Nd}(hh:W4 l l.length)(hg:∀i,1<=i->i<l.length->S4 l i=true)(E1:kd l 0=0){n:Nat}(h1:1<=n)(hn:n<l.length)(hk:kd l n=2) :
 (decide (O1 l n n<0) || !(kd l (O1 l n n).toNat==2)) = !R8 l n:=by
 cases hb:R8 l n with
 |true =>
  unfold R8 at hb;simp only[i4,x8]at hb;obtain⟨_,b2,b3⟩:=hb
  have D2:0<n-1:=by
   rcases B9 (n-1)with h|h
   ·rw[h,E1]at b2;cases b2
   ·exact h
  have ha:O1 l n n=((n-1:Nat):Int):=by
   obtain⟨k,E2⟩ : ∃k,n=k+1:=⟨n-1,by omega⟩
   have E3:n-1=k:=by omega
   rw[E3]at b3 D2 ⊢
   conv=>lhs;arg 3;rw[E2]
   rw[O1,g8 ⟨D2,b3.symm⟩]
  rw[ha,J0,b2,f8 (by omega)]
  rfl
 |false =>
  rcases a2W l n n with ha|⟨a,ha,_⟩
  ·rw[ha];rfl
  ·rw[ha,J0,f8 (by omega),Bool.false_or,Bool.not_false,Bool.not_eq_true']
   rw[e9];intro D3;obtain⟨s1,s2,s3,s4⟩:=a7h l n n a ha
   have G4:a≠n-1:=fun e=>by
    subst e;unfold R8 at hb;rw[hk,D3,s3]at hb;simp at hb
   have E4:a<l.length:=by omega
   have D9:a+1<l.length:=by omega
   obtain⟨pn0,pnl⟩:=hh n h1 hn;obtain⟨p,hp⟩ : ∃p:Nat,pa l n=(p:Int):=⟨(pa l n).toNat,by omega⟩
   have E5:pa l a=(p:Int):=s3.trans hp;have E6:p<a:=by have:=hh a s1 E4;omega
   have D0:=hg (a+1) (by omega) D9
   have D1:=a6T D0;rw[Nat.add_sub_cancel]at D1;obtain⟨c0,cl⟩:=hh (a+1) (by omega) D9
   obtain⟨c,hc⟩ : ∃c:Nat,pa l (a+1)=(c:Int):=⟨(pa l (a+1)).toNat,by omega⟩
   rw[hc,J0]at D1
   have E7:c≠a:=fun e=>by
    unfold S4 at D0;rw[hc,J0,e,D3]at D0;simp at D0
   have E8:=(b7l E5 E6 E7).1 D1;have G5:=a69 E8;have G0:c≠p:=fun e=>s4 (a+1) (by omega) (by omega) (by rw[hc,hp,e])
   obtain⟨e1,e2,e3,e4⟩:=b08 (show p<l.length by omega)
   have G1:a9o l p<=a+1:=by
    rcases Nat.lt_or_ge (a+1) (a9o l p)with h|h
    ·have:=e3 (a+1) (by omega) h;omega
    ·exact h
   have E0:=a6T (hg n h1 hn);rw[hp,J0]at E0;exact b9g hh hg (by omega) (n-1) (by omega) (by omega) E0
theorem b9P(S:ByteArray):Lib.hasSuffix S.data.toList [45]=(!N4 S []&&a6M S):=by
 unfold N4 a6M Lib.hasSuffix;rw[f9];generalize S.data.toList=s;rcases List.eq_nil_or_concat s with rfl|⟨t,c,rfl⟩
 ·simp
 ·rw[A8,List.isSuffixOf_iff_suffix]
  simp only[List.concat_eq_append,List.getLast?_append,List.getLast?_singleton,Option.some_or,i4,Bool.not_eq_true',e9,x8]
  constructor
  ·rintro⟨u,hu⟩
   have h:=congrArg List.getLast? hu;simp at h;rw[<-h];exact⟨by simp,rfl⟩
  ·rintro⟨_,h⟩
   have:c=45:=F1.1 (by have:c.toNat=45:=by omega
                       rw[this];rfl)
   subst this;exact⟨t,rfl⟩
theorem a6W(c a:UInt8)(x y:Int)(h:(a.toNat=120/\x=120/\y=88)∨(a.toNat=109/\x=109/\y=77)∨(a.toNat=108/\x=108/\y=76)):Lib.foldEq c a=a3U c x y:=by
 unfold Lib.foldEq a3U;rw[A8,t8,Bool.or_eq_true,x8,x8];rcases h with⟨h1,h2,h3⟩|⟨h1,h2,h3⟩|⟨h1,h2,h3⟩<;>rw[h1,h2,h3]<;>omega
theorem b31(S:ByteArray):Lib.equalFold S.data.toList [120,109,108]=a1D S:=by
 unfold a1D;generalize S.data.toList=s
 match s with
 | []=>rfl
 | [a]=>simp[Lib.equalFold]
 | [a,b]=>simp[Lib.equalFold]
 | [a,b,c] =>
  simp only[Lib.equalFold];rw[a6W a 120 120 88 (.inl ⟨rfl,rfl,rfl⟩),a6W b 109 109 77 (.inr (.inl ⟨rfl,rfl,rfl⟩)),a6W c 108 108 76 (.inr (.inr ⟨rfl,rfl,rfl⟩)),Bool.and_true]
 |a::b::c::d::r=>simp[Lib.equalFold]
theorem a9D{x:Nd}(h:Q8 x=true):x.ds=[]:=by
 unfold Q8 at h;simp only[i4,t8]at h;exact j8 h.2.2.1
theorem b0x{l:List Nd}(hh:W4 l l.length)(hg:∀i,1<=i->i<l.length->S4 l i=true)(D1:kd l 0=0){n:Nat}(h1:1<=n)(hn:n<l.length)(hk:kd l n≠1) :
 a1e l n l[n]=true↔N0 l[n]=true/\R8 l n=false/\(pa l n=0->kd l n=3∨kd l n=4):=by
 have D0:=a2s hn;have D2:=Z5 hn;by_cases h2:kd l n=2
 ·have hb:=b5o hh hg D1 h1 hn h2
  unfold a1e N0;rw[hb,<-D0,<-D2,h2];have e1:((2:Int)==2)=true:=rfl;have e2:((2:Int)==1)=false:=rfl;rw[e1,e2,cond_true,cond_false]
  have hp:(pa l n=0->(2:Int)=3∨(2:Int)=4)↔(pa l n==0)=false:=by
   rw[e9]
   constructor
   ·intro h e;rcases h e with h|h<;>cases h
   ·intro h e;exact absurd e h
  rw[hp];cases Q8 l[n]<;>cases tx l[n].t<;>cases N4 l[n].l []<;>cases N4 l[n].t []<;>cases(pa l n==0)<;>cases R8 l n<;>simp
 ·have hb:R8 l n=false:=by
   unfold R8;rw[e9.2 h2];rfl
  rw[hb];by_cases h3:kd l n=3
  ·unfold a1e N0 b2L
   rw[<-D0,h3];have e1:((3:Int)==2)=false:=rfl;have e2:((3:Int)==1)=false:=rfl;have e3:((3:Int)==3)=true:=rfl;rw[e1,e2,e3,b9P];simp only[cond_true,cond_false];cases Q8 l[n]<;>cases tx l[n].t<;>cases N4 l[n].l []<;>cases N4 l[n].t []<;>cases a0V l[n].t.data.toList [45,45]<;>cases a6M l[n].t<;>simp
  ·by_cases h4:kd l n=4
   ·unfold a1e N0 a6f b2d
    rw[<-D0,h4];have e1:((4:Int)==2)=false:=rfl;have e2:((4:Int)==1)=false:=rfl;have e3:((4:Int)==3)=false:=rfl;have e4:((4:Int)==4)=true:=rfl;rw[e1,e2,e3,e4,b31];simp only[cond_true,cond_false];cases Q8 l[n]<;>cases tx l[n].t<;>cases nmS l[n].l<;>cases a1D l[n].l<;>cases N4 l[n].t []<;>cases a0V l[n].t.data.toList [63,62]<;>cases fb l[n].t<;>simp
   ·unfold a1e N0
    rw[<-D0,e9.2 h2,e9.2 h3,e9.2 h4,e9.2 hk];simp
theorem b4X{l:List Nd}:Y2 l=true↔a1p l:=by
 constructor
 ·intro h
  exact Classical.byContradiction fun hc=>by rw[a3O hc]at h;cases h
 ·exact a5r
open Classical in
theorem b0Y{l:List Nd}:K6 l=true↔(∃h:0<l.length,S9 l[0]=true)/\(∀i,1<=i->i<l.length->okP l i=true)/\S8 l l.length=1/\(∀i (h:i<l.length),1<=i->N0 l[i]=true)/\∀j,j<l.length->a47 l j=true:=by
 match l with
 | []=>simp[K6]
 |x::r =>
  rw[show K6 (x::r)=(S9 x&&(N3 (x::r)&&(r.all N0&&X3 (x::r))))from rfl];have hp:N3 (x::r)=true↔(∀i,1<=i->i<(x::r).length->okP (x::r) i=true)/\S8 (x::r) (x::r).length=1:=by unfold N3;rw[t8]
  have hm:X3 (x::r)=true↔∀j,j<(x::r).length->a47 (x::r) j=true:=by unfold X3;rw[t8]
  have ha:r.all N0=true↔∀i (h:i<(x::r).length),1<=i->N0 (x::r)[i]=true:=by
   rw[o9]
   constructor
   ·intro h i hi h1
    obtain⟨k,rfl⟩ : ∃k,i=k+1:=⟨i-1,by omega⟩
    rw[List.getElem_cons_succ];exact h _ (o0 _)
   ·intro h y hy
    obtain⟨k,hk,rfl⟩:=List.getElem_of_mem hy;have:=h (k+1) (by simpa using hk) (by omega)
    rwa [List.getElem_cons_succ]at this
  simp only[i4];rw[hp,hm,ha]
  constructor
  ·rintro⟨a1,⟨a2,a3⟩,a4,a5⟩;exact⟨⟨by simp,a1⟩,a2,a3,a4,a5⟩
  ·rintro⟨⟨_,a1⟩,a2,a3,a4,a5⟩;exact⟨a1,⟨a2,a3⟩,a4,a5⟩
theorem a7K{l:List Nd}(h:∃h:0<l.length,S9 l[0]=true):pa l 0 = -1/\kd l 0=0/\dsR l 0=[]:=by
 obtain⟨h0,h⟩:=h;unfold S9 at h;simp only[i4,x8]at h;rw[Z5 h0,a2s h0,a49 h0];exact⟨h.2.1,h.1,a9D h.2.2.2.2⟩
theorem a55:DsU []:=List.Pairwise.nil
theorem b0X{l:List Nd}(hs:∀x∈l,Sm x):Y2 l=K6 l:=by
 rw[A8,b4X,b0Y]
 constructor
 ·intro h
  obtain⟨h0,E1,E0⟩:=a7K h.root;have hg:∀i,1<=i->i<l.length->S4 l i=true:=fun i h1 h2=>(h.nodes i h1 h2).1;have hh:W4 l l.length:=a4Z (c9 _) h.nodes
  have hA:∀n,n<l.length->a5C l n:=fun n hn=>by
   have hm:∀m,m<=n->(∀d∈dsR l m,T6 d=true)/\DsU (dsR l m):=fun m D1=>by
    rcases B9 m with rfl|h1
    ·rw[E0];exact⟨fun d hd=>(by cases hd),a55⟩
    ·have D3:m<l.length:=by omega
     rw[a49 D3];obtain⟨_,n1,n2⟩:=h.nodes m h1 D3;by_cases hk:kd l m=1
     ·have he:=n1 hk
      rw[a9t D3]at he;have D9:a3S l m l[m]:=Classical.byContradiction fun hc=>by rw[a65 hc]at he;cases he
      refine⟨fun d hd => ?_,?_⟩
      ·obtain⟨k,hk,rfl⟩:=List.getElem_of_mem hd
       exact(D9.ds k hk).1
      ·unfold DsU
       rw[List.pairwise_iff_getElem];exact fun i j hi hj E8=>(D9.ds j hj).2 i hi E8
     ·have ho:=n2 hk
      rw[a8Y D3]at ho
      have hb:Q8 l[m]=true:=by
       unfold a1e at ho;rw[i4]at ho;exact ho.1
      rw[a9D hb];exact⟨fun d hd=>(by cases hd),a55⟩
   exact⟨E0,fun m D1=>(hm m D1).1,fun m D1=>(hm m D1).2⟩
  have E5:∀n (hn:n<l.length),1<=n->kd l n=1->a1z l[n]=true/\a2P (stk l n) l[n]=true:=fun n hn h1 hk=>by
   have he:=(h.nodes n h1 hn).2.1 hk;rw[a9t hn]at he;exact(b3B hh h0 hn (hA n hn) (hs _ (o0 hn))).1 he
  have E6:∀n (hn:n<l.length),1<=n->kd l n≠1->N0 l[n]=true/\R8 l n=false/\(pa l n=0->kd l n=3∨kd l n=4):=fun n hn h1 hk=>by
   have he:=(h.nodes n h1 hn).2.2 hk;rw[a8Y hn]at he;exact(b0x hh hg E1 h1 hn hk).1 he
  refine⟨h.root,fun i h1 h2 => ?_,h.top,fun i h2 h1 => ?_,fun j hj => ?_⟩
  ·unfold okP
   rw[hg i h1 h2];by_cases hk:kd l i=1
   ·have hb:R8 l i=false:=by
     unfold R8;rw[hk];rfl
    rw[hb,hk];simp
   ·obtain⟨_,b2,b3⟩:=E6 i h2 h1 hk
    rw[b2];by_cases hp:pa l i=0
    ·rcases b3 hp with e|e<;>rw[e]<;>simp
    ·rw[e9.2 hp];simp
  ·by_cases hk:kd l i=1
   ·have:=(E5 i h2 h1 hk).1
    unfold N0;rw[<-a2s h2,hk,this];rfl
   ·exact(E6 i h2 h1 hk).1
  ·rw[a9q hj,<-a2s hj]
   rcases B9 j with rfl|h1
   ·rw[E1];rfl
   ·by_cases hk:kd l j=1
    ·rw[(E5 j hj h1 hk).2];simp
    ·rw[e9.2 hk];rfl
 ·rintro⟨D2,D9,E2,D0,E3⟩
  obtain⟨h0,E1,E0⟩:=a7K D2
  have hg:∀i,1<=i->i<l.length->S4 l i=true:=fun i h1 h2=>by
   have:=D9 i h1 h2;unfold okP at this;rw[i4]at this;exact this.1
  have hh:W4 l l.length:=b3s D9
  have hA:∀n,n<l.length->a5C l n:=fun n hn=>by
   have hm:∀m,m<=n->(∀d∈dsR l m,T6 d=true)/\DsU (dsR l m):=fun m D1=>by
    rcases B9 m with rfl|h1
    ·rw[E0];exact⟨fun d hd=>(by cases hd),a55⟩
    ·have D3:m<l.length:=by omega
     rw[a49 D3];have hn:=D0 m D3 h1;by_cases hk:l[m].k=1
     ·unfold N0 at hn
      rw[hk]at hn;have he:a1z l[m]=true:=hn;unfold a1z at he;simp only[i4,o9]at he;exact⟨he.2.2.2.1,(b2G _).1 he.2.2.2.2.2.1⟩
     ·have hb:Q8 l[m]=true:=by
       unfold N0 at hn;rw[e9.2 hk,cond_false]at hn;cases G0:Q8 l[m]with
       |true=>rfl
       |false =>
        rw[G0]at hn;simp only[Bool.false_and]at hn;cases(l[m].k==2)<;>cases(l[m].k==3)<;>cases(l[m].k==4)<;>simp at hn
      rw[a9D hb];exact⟨fun d hd=>(by cases hd),a55⟩
   exact⟨E0,fun m D1=>(hm m D1).1,fun m D1=>(hm m D1).2⟩
  refine⟨D2,fun n h1 hn=>⟨hg n h1 hn,fun hk => ?_,fun hk => ?_⟩,E2⟩
  ·rw[a9t hn]
   have E4:=D0 n hn h1;have E7:=E3 n hn;rw[a9q hn,<-a2s hn,hk]at E7;unfold N0 at E4;rw[<-a2s hn,hk]at E4;exact(b3B hh h0 hn (hA n hn) (hs _ (o0 hn))).2 ⟨E4,by simpa using E7⟩
  ·rw[a8Y hn]
   have ho:=D9 n h1 hn;unfold okP at ho;rw[hg n h1 hn,Bool.true_and,i4,Bool.not_eq_true']at ho;refine(b0x hh hg E1 h1 hn hk).2 ⟨D0 n hn h1,ho.1,fun hp => ?_⟩;have h2:=ho.2;rw[hp,e9.2 hk]at h2;simpa using h2
end Go.Proofs.YteinegfbpfhflaaGreatDoor
