/-
  Doc.Top. Conditions: the document lies as it is; nothing is too long.
  Nodes moved, with comments and instructions ahead of them and behind them, are a document's if they were one's. Plain mathematics. Conditions: what is laid around hangs on the Root, is a comment or an instruction, and is formed.
  Blanks, comments and instructions around a document: what document that is. Plain mathematics. Conditions: at most 700 bytes, which don't begin with the declaration; at most three of each around.
-/
import Derived.Test.YteinegfbpfhflaaGreatDoorK56
import Derived.Test.YteinegfbpfhflaaGreatDoorKAro
namespace Go.Proofs.YteinegfbpfhflaaGreatDoor
open Go.RowKit
set_option linter.unusedVariables false
set_option maxRecDepth 100000
set_option maxHeartbeats 8000000
def c1E:List Nd->Nat->Nat
 | [],_=>0
 |x::r,k=>if x.k=1 then k else c1E r (k+1)
def c1V(l:List Nd):Nat:=c1E l 0
theorem c1O{l:List Nd}:∀k,k<=l.length->(∀j (hj:j<l.length),j<k->l[j].k≠1)->c1V l=c1E (l.drop k) k
 |0,_,_=>rfl
 |k+1,h,hn=>by
  rw[c1O k (by omega) (fun j hj hk=>hn j hj (by omega)),B8 (show k<l.length by omega),c1E,f6 (hn k (by omega) (by omega))]
def c3u(w:World)(l:List Nd)(i:Value)(wr:World):Prop:=∃k:Nat,k<=l.length/\i=.int .i64 k/\(∀j (hj:j<l.length),j<k->l[j].k≠1)/\Below w.heap.size w wr
theorem c3k(P v:Value)(l:List Nd)(w:World)(H:Hid (Calls Tryz.prog 38 #[P] w fun e w'=>e=.returned v/\w'=w))(hv:S3 w w.heap.size v l)(hn:l.length<=100000):Calls Tryz.prog 17 #[P] w fun e w'=>e=.returned (.int .i64 (c1V l:Nat))/\Below w.heap.size w w':=by
 have HV:=a8 hv;obtain⟨A,cap,rfl,E1,G0⟩:=hv.slice;obtain⟨R,hR⟩ : ∃R,c1V l=R:=⟨_,rfl⟩;rw[hR];have HR:=a8 hR;obtain⟨n,D1⟩ : ∃n,l.length=n:=⟨_,rfl⟩;have HN:=a8 D1;rw[D1]at hn E1 H;clear hR D1;go_enter Tryz.func17,Tryz.ntmps17
 go_wp2_with fail
 refine H.out.mono ?_;rintro e w1⟨rfl,hw⟩;rw[hw];clear hw;go_wp2
 go_loopw [8] (c3u w l) (fun i _=>n-(intOf i).toNat)
 case atStart=>exact⟨0,o4 _,rfl,fun j _ h=>by omega,b8 _ _⟩
 case round =>
  obtain⟨k,hk,rfl,D3,hb⟩:=hrel;rw[HN.out]at hk;have D2:=a8 D3;clear D3;by_cases E2:k<n
  ·have D0:k<l.length:=by rw[HN.out];exact E2
   obtain⟨b,o,cap',e,_,_,G1,D9⟩:=(HV.out.below hb).open (by intro h;rw[h]at D0;simp at D0)
   simp only[o5]at e;obtain⟨rfl,_,rfl⟩:=e;obtain⟨vd,va,d0,d1,d2,d3,d4,d5,d6,d7,⟨A1,q1,rfl,_⟩,⟨A2,q2,rfl,_⟩⟩:=(D9 k D0).cells;have E3:(k:Int)<(n:Int):=by omega
   have HF:Hid (c1V l=c1E (l.drop k) k):=c1O k (by omega) D2.out
   have HD:Hid (l.drop k=l[k]::l.drop (k+1)):=B8 D0
   have E4:Hid (l[k].k≠1->∀j (hj:j<l.length),j<k+1->l[j].k≠1):=fun h j hj E5=>by
    rcases E9 (I2 E5)with h1|h1
    ·exact D2.out j hj h1
    ·subst h1;exact h
   generalize l[k]=x at *;clear D9;by_cases hx:x.k=1
   ·have t1:(x.k==1)=true:=by simpa using hx
    have E0:R=k:=by rw[<-HR.out,HF.out,HD.out,c1E,g8 hx]
    have E6:=a8 E0;clear hx E0;go_wp2;go_ret;exact⟨by rw[E6.out];rfl,hb.alloc hb.size _⟩
   ·have t1:(x.k==1)=false:=by simpa using hx
    have E7:=a8 (E4.out hx);clear hx;go_wp2
    go_roundw
    case rel=>exact⟨k+1,D0,by go_num,E7.out,hb.alloc hb.size _⟩
    case measure=>simp[intOf];omega
  ·have E3:¬(k:Int)<(n:Int):=by omega
   have E8:R=0:=by
    rw[<-HR.out,c1O k (by rw[HN.out];exact hk) D2.out,F9 (by rw[HN.out];omega)];rfl
   subst E8;go_wp2;go_ret;exact⟨rfl,hb⟩
theorem c2D{B d:Nat}{l:List Nd}(w:World)(h:a0Q w B d l)(hn:l.length<=100000)(hs:∀x∈l,Sm x):Calls Tryz.prog 17 #[.pointer (some ⟨d,0,none⟩)] w fun e w'=>e=.returned (.int .i64 (c1V l:Nat))/\Below w.heap.size w w':=by
 obtain⟨v,hc,hv,_⟩:=h.list hn hs;exact c3k _ v l w (b0M d v w hc) hv hn
section
structure c18(x:Nd):Prop where
 n:x.n=0
 k:x.k=3∨x.k=4
 f:N0 x=true
 m:x.ds=[]/\x.ats=[]
variable {A Z:List Nd} {r:Nd} {N:List Nd}
theorem c2Y{m:Nat}(hr:r.n = -1):shX m r=r:=by
 unfold shX shZ;rw[hr,f6 (by decide)]
 cases r;simp only at hr;rw[hr]
theorem c11(hr:r.n = -1){i:Nat}(hi:i<(r::N).length):(shN A (r::N)++Z)[shI A.length i]? = some (shX A.length (r::N)[i]):=by
 cases i with
 |zero=>simp[shN,shI,c2Y hr]
 |succ i =>
  rw[i8]at hi;have h1:i<N.length:=by omega
  simp only[shN,shI,f6 (Nat.succ_ne_zero i),i9,List.getElem_cons_succ];rw[show i+1+A.length=(A.length+i)+1 by omega,C7,List.append_assoc,List.getElem?_append_right (by omega),Nat.add_sub_cancel_left,List.getElem?_append_left (by simpa using h1),List.getElem?_map,i5 h1];rfl
theorem c1Q:(shN A (r::N)++Z).length=(r::N).length+A.length+Z.length:=by simp[shN];omega
theorem c1M{i:Nat}(hi:i<(shN A (r::N)++Z).length):(∃j,j<(r::N).length/\i=shI A.length j)∨(1<=i/\∃x,(shN A (r::N)++Z)[i]? = some x/\x∈A++Z):=by
 rw[c1Q]at hi;rcases B9 i with rfl|h0
 ·exact .inl ⟨0,by simp,rfl⟩
 ·by_cases h1:i<=A.length
  ·refine .inr ⟨h0,A[i-1],?_,by simp⟩
   obtain⟨k,rfl⟩ : ∃k,i=k+1:=⟨i-1,by omega⟩
   simp only[shN,i9];rw[C7,List.append_assoc,List.getElem?_append_left (by omega),i5 (by omega)];rfl
  ·by_cases h2:i<(r::N).length+A.length
   ·exact .inl ⟨i-A.length,by omega,by unfold shI;rw[f6 (by omega)];omega⟩
   ·have hz:i-(r::N).length-A.length<Z.length:=by omega
    refine .inr ⟨h0,Z[i-(r::N).length-A.length],?_,List.mem_append_right _ (o0 hz)⟩;rw[List.getElem?_append_right (by simp[shN]at h2 ⊢;omega)]
    rw[show i-(shN A (r::N)).length=i-(r::N).length-A.length by simp[shN];omega]
    exact i5 hz
theorem c1P{m j:Nat}(h:1<=j):shI m j=j+m:=by unfold shI;rw[f6 (by omega)]
theorem c15{m:Nat}{z:Int}(h:0<=z):shZ m z=0↔z=0:=by
 unfold shZ
 split<;>omega
theorem c2G{m:Nat}{z:Int}(h:0<=z):shZ m z=((shI m z.toNat:Nat):Int):=by
 unfold shZ shI
 split
 ·rw[f6 (by omega)];omega
 ·rw[g8 (by omega)];omega
section
variable (hA:∀x∈A++Z,c18 x) (hr:r.n = -1) (hk:r.k=0) (hp:∀i,1<=i->i<(r::N).length->okP (r::N) i=true)
include hr
theorem c2j{j:Nat}(hj:j<(r::N).length):pa (shN A (r::N)++Z) (shI A.length j)=shZ A.length (pa (r::N) j):=by
 unfold pa;rw[c11 hr hj,i5 hj];rfl
theorem c10{j:Nat}(hj:j<(r::N).length):kd (shN A (r::N)++Z) (shI A.length j)=kd (r::N) j:=by
 unfold kd;rw[c11 hr hj,i5 hj];rfl
include hp
omit hr in
theorem c2h{j:Nat}(h1:1<=j)(hj:j<(r::N).length):0<=pa (r::N) j/\pa (r::N) j<(j:Int):=by
 have:=hp j h1 hj;unfold okP at this;rw[i4]at this;exact a09 h1 this.1
theorem c1Y:∀j,j<(r::N).length->chn (shN A (r::N)++Z) (shI A.length j)=(chn (r::N) j).map (shI A.length)/\0∈chn (r::N) j:=by
 intro j
 induction j using Nat.strongRecOn with
 |ind j ih =>
  intro hj;have D0:=c2j (A:=A) (Z:=Z) hr hj;rcases B9 j with rfl|h1
  ·have h0:pa (r::N) 0 = -1:=hr
   rw[h0]at D0;rw[a0N (l:=r::N) (by rw[h0];omega),a0N (by rw[D0];unfold shZ;simp)]
   exact⟨rfl,by simp⟩
  ·obtain⟨h2,h3⟩:=c2h hp h1 hj
   have D1:(pa (r::N) j).toNat<j:=by omega
   obtain⟨h4,h5⟩:=ih _ D1 (by omega)
   rw[c2G h2]at D0;have h6:shI A.length (pa (r::N) j).toNat<shI A.length j:=by unfold shI;split<;>split<;>omega
   rw[a0q (l:=r::N) ⟨h2,D1⟩,a0q (by rw[D0];omega),D0,J0,h4]
   exact⟨rfl,List.mem_cons_of_mem _ h5⟩
include hA
omit hr hp in
theorem c1X{i:Nat}{x:Nd}(hx:(shN A (r::N)++Z)[i]? = some x)(hm:x∈A++Z):pa (shN A (r::N)++Z) i=0/\(kd (shN A (r::N)++Z) i=3∨kd (shN A (r::N)++Z) i=4):=by
 have:=hA x hm;unfold pa kd;rw[hx];exact⟨this.n,this.k⟩
theorem c2e{i:Nat}{x:Nd}(h1:1<=i)(hx:(shN A (r::N)++Z)[i]? = some x)(hm:x∈A++Z):chn (shN A (r::N)++Z) i=[i,0]:=by
 have h2:=(c1X hA hx hm).1;have h0:=(c1Y (A:=A) (Z:=Z) hr hp 0 (by simp)).1
 rw[a0q (by rw[h2];exact⟨Int.le_refl _,h1⟩),h2]
 rw[a0N (l:=r::N) (by show ¬(0<=pa (r::N) 0/\_);rw[show pa (r::N) 0 = -1 from hr];omega)]at h0
 exact congrArg (i :: ·) h0
theorem c2x{i:Nat}(hi:i<(shN A (r::N)++Z).length):0∈chn (shN A (r::N)++Z) i:=by
 rcases c1M hi with⟨j,hj,rfl⟩|⟨h1,x,hx,hm⟩
 ·obtain⟨h2,h3⟩:=c1Y (A:=A) (Z:=Z) hr hp j hj
  rw[h2];exact List.mem_map.2 ⟨0,h3,rfl⟩
 ·rw[c2e hA hr hp h1 hx hm];simp
include hk
theorem c3s{i:Nat}(h1:1<=i)(hi:i<(shN A (r::N)++Z).length):okP (shN A (r::N)++Z) i=true:=by
 have E1:kd (shN A (r::N)++Z) 0=0:=(c10 (A:=A) (Z:=Z) hr (j:=0) (by simp)).trans hk
 rcases c1M hi with⟨j,hj,rfl⟩|⟨_,x,hx,hm⟩
 ·have D3:1<=j:=by rcases B9 j with rfl|h;exact absurd h1 (by simp[shI]);exact h
  have D1:=c2j (A:=A) (Z:=Z) hr hj;have D9:=c10 (A:=A) (Z:=Z) hr hj;obtain⟨h2,h3⟩:=c2h hp D3 hj;have D2:(pa (r::N) j).toNat<j:=by omega
  have D0:=hp j D3 hj;unfold okP S4 R8 at D0 ⊢;simp only[i4,Bool.or_eq_true,Bool.not_eq_true',t8,x8]at D0 ⊢;obtain⟨⟨⟨_,o2⟩,o3⟩,o4,o5⟩:=D0;have E0:=D1;rw[c2G h2]at D1;have E2:=c10 (A:=A) (Z:=Z) hr (j:=(pa (r::N) j).toNat) (Nat.lt_trans D2 hj);refine⟨⟨⟨by rw[D1];omega,?_⟩,?_⟩,?_,?_⟩
  ·rw[D1,J0]
   rcases Nat.lt_or_ge 1 j with hj2|hj2
   ·rw[show shI A.length j-1=shI A.length (j-1)by rw[c1P (by omega),c1P (by omega)];omega,(c1Y (A:=A) (Z:=Z) hr hp (j-1) (by omega)).1]
    exact List.mem_map.2 ⟨_,o2,rfl⟩
   ·have:(pa (r::N) j).toNat=0:=by omega
    rw[this];exact c2x hA hr hp (by omega)
  ·rw[D1,J0,E2];exact o3
  ·cases hb:(kd (shN A (r::N)++Z) (shI A.length j)==2&&(kd (shN A (r::N)++Z) (shI A.length j-1)==2&&pa (shN A (r::N)++Z) (shI A.length j)==pa (shN A (r::N)++Z) (shI A.length j-1)))with
   |false=>rfl
   |true =>
    exfalso
    simp only[i4,x8]at hb;obtain⟨b1,b2,b3⟩:=hb;rcases Nat.lt_or_ge 1 j with hj2|hj2
    ·rw[show shI A.length j-1=shI A.length (j-1)by rw[c1P (by omega),c1P (by omega)];omega]at b2 b3
     rw[c10 hr (by omega)]at b2
     rw[D9]at b1;obtain⟨h4,h5⟩:=c2h hp (show 1<=j-1 by omega) (by omega)
     rw[E0,c2j hr (by omega)]at b3
     have:pa (r::N) j=pa (r::N) (j-1):=by
      unfold shZ at b3
      split at b3<;>split at b3<;>omega
     rw[b1,b2,this]at o4;simp at o4
    ·obtain rfl:j=1:=by omega
     rw[c1P (c9 _)]at b2;rw[show 1+A.length-1=A.length by omega]at b2
     rcases c1M (A:=A) (r:=r) (N:=N) (Z:=Z) (i:=A.length) (by rw[c1Q];simp;omega)with⟨j',hj',e⟩|⟨_,x,hx,hm⟩
     ·rw[e,c10 hr hj']at b2
      unfold shI at e
      split at e
      ·next e0=>subst e0;rw[show kd (r::N) 0=r.k from rfl,hk]at b2;cases b2
      ·omega
     ·rcases(c1X hA hx hm).2 with h|h<;>rw[h]at b2<;>cases b2
  ·rw[D9]
   rcases o5 with o5|o5
   ·left
    cases hz:(pa (shN A (r::N)++Z) (shI A.length j)==0)with
    |false=>rfl
    |true =>
     rw[x8,E0,c15 h2]at hz;rw[hz]at o5;cases o5
   ·exact .inr o5
 ·obtain⟨h2,h3⟩:=c1X hA hx hm
  unfold okP S4 R8;rw[h2];have hz:(0:Nat)∈chn (shN A (r::N)++Z) (i-1):=c2x hA hr hp (by omega)
  simp only[Int.toNat_zero,E1];rcases h3 with h3|h3<;>rw[h3]<;>simp[hz]
end
end
section
theorem c22{p:Prop}{d:Decidable p}(h:@decide p d=true):p:=of_decide_eq_true h
theorem c2n:∀{n m:Nat} {st:Rd} {l:List Nd},Pot m st->Q7 n st=some l->l.length<=2*m+1
 |0,m,st,l,hp,h=>by cases h
 |n+1,m,st,l,hp,h=>by
  rw[Q7]at h
  split at h
  ·split at h
   ·have:=hp.pn
    rw[<-Option.some.inj h];omega
   ·cases h
  ·next h1 =>
   split at h
   ·cases h
   ·next o h2 =>
    split at h
    ·cases h
    ·next y h3 =>
     have ho:st.op=st.op.dropLast++[o]:=by
      obtain⟨ys,he⟩:=List.getLast?_eq_some_iff.1 h2;rw[he];simp
     exact c2n (b0C hp ho h1 h3).1 h
variable {A Z:List Nd} {r:Nd} {N:List Nd}
section
variable (hA:∀x∈A++Z,c18 x) (hr:r.n = -1) (hk:r.k=0) (hp:∀i,1<=i->i<(r::N).length->okP (r::N) i=true)
include hA
theorem c2p{i:Nat}(h1:1<=i)(hi:i<(shN A (r::N)++Z).length)(hn:∀j,j<(r::N).length->i≠shI A.length j):kd (shN A (r::N)++Z) i≠1:=by
 rcases c1M hi with⟨j,hj,e⟩|⟨_,x,hx,hm⟩
 ·exact absurd e (hn j hj)
 ·rcases(c1X hA hx hm).2 with h|h<;>rw[h]<;>decide
theorem c2z:∀k,k<=A.length+1->S8 (shN A (r::N)++Z) k=0
 |0,_=>rfl
 |k+1,hk=>by
  rw[S8,c2z k (by omega),f6]
  rintro⟨h1,_,h2⟩;refine c2p hA h1 (by rw[c1Q,i8];omega) (fun j hj => ?_) h2
  unfold shI
  split<;>omega
include hr hp
theorem c2A:∀k,1<=k->k<=(r::N).length->S8 (shN A (r::N)++Z) (k+A.length)=S8 (r::N) k
 |1,_,_=>by
  rw[Nat.add_comm,c2z hA _ (c9 _)];simp[S8]
 |k+2,_,hk=>by
  have hj:k+1<(r::N).length:=by omega
  have D0:=c2j (A:=A) (Z:=Z) hr hj;have D1:=c10 (A:=A) (Z:=Z) hr hj;rw[c1P (by omega)]at D0 D1
  have h2:=(c2h hp (show 1<=k+1 by omega) hj).1
  rw[show k+2+A.length=(k+1+A.length)+1 by omega,S8,c2A (k+1) (by omega) (by omega),D0,D1]
  rw[show S8 (r::N) (k+2)=S8 (r::N) (k+1)+(if 1<=k+1/\pa (r::N) (k+1)=0/\kd (r::N) (k+1)=1 then 1 else 0)from rfl];by_cases hc:1<=k+1/\pa (r::N) (k+1)=0/\kd (r::N) (k+1)=1
  ·rw[g8 hc,g8 ⟨by omega,(c15 h2).2 hc.2.1,hc.2.2⟩]
  ·rw[f6 hc,f6 (fun h=>hc ⟨by omega,(c15 h2).1 h.2.1,h.2.2⟩)]
theorem c2B:∀z,z<=Z.length->S8 (shN A (r::N)++Z) ((r::N).length+A.length+z)=S8 (r::N) (r::N).length
 |0,_=>c2A hA hr hp _ (by simp) (c9 _)
 |z+1,hz=>by
  rw[<-Nat.add_assoc,S8,c2B z (by omega),f6,Nat.add_zero]
  rintro⟨h1,_,h2⟩;refine c2p hA h1 (by rw[c1Q];omega) (fun j hj => ?_) h2
  unfold shI
  split<;>omega
omit hA in
theorem c3f{j:Nat}(hj:j<(r::N).length):stk (shN A (r::N)++Z) (shI A.length j)=stk (r::N) j:=by
 unfold stk;rw[(c1Y (A:=A) (Z:=Z) hr hp j hj).1,List.flatMap_map,List.flatMap_def,List.flatMap_def];refine congrArg List.flatten (List.map_congr_left fun k hk => ?_);have:=a69 hk;have hk':k<(r::N).length:=by omega
 unfold dsA;rw[c11 hr hk',i5 hk'];rfl
theorem c2O(h:X3 (r::N)=true):X3 (shN A (r::N)++Z)=true:=by
 unfold X3 at h ⊢;have h0:=of_decide_eq_true h;refine b3J fun i hi => ?_;rcases c1M hi with⟨j,hj,rfl⟩|⟨_,x,hx,hm⟩
 ·have h1:=h0 j hj
  unfold a47 at h1 ⊢;rw[i5 hj]at h1;rw[c11 hr hj,c3f hr hp hj];exact h1
 ·unfold a47
  rw[hx];dsimp only;rcases(hA x hm).k with h|h<;>rw[h]<;>rfl
include hk
theorem c2v(h:K6 (r::N)=true):K6 (shN A (r::N)++Z)=true:=by
 rw[K6]at h;simp only[i4]at h;obtain⟨h1,h2,h3,h4⟩:=h;have h2':=h2;unfold N3 at h2;have h5:=(c22 h2).2
 have h6:N3 (shN A (r::N)++Z)=true:=by
  unfold N3;refine b3J ⟨fun i a b=>c3s hA hr hk hp a b,?_⟩;rw[c1Q,c2B hA hr hp _ (c9 _)];exact h5
 have h7:=c2O hA hr hp h4;rw[o9]at h3
 have h8:(A++N.map (shX A.length)++Z).all N0=true:=o9.2 fun x hx=>by
  rw[D6,D6]at hx;rcases hx with(hx|hx)|hx
  ·exact(hA x (List.mem_append_left _ hx)).f
  ·obtain⟨y,hy,rfl⟩:=List.mem_map.1 hx
   exact h3 y hy
  ·exact(hA x (List.mem_append_right _ hx)).f
 show K6 (r::(A++N.map (shX A.length)++Z))=true
 rw[K6,h1];rw[show(r::(A++N.map (shX A.length)++Z))=shN A (r::N)++Z from rfl,h6,h7,h8];rfl
omit hk in
theorem c2u(hl:(r::N).length+A.length+Z.length<=4000)(h:J6 (r::N)=true):J6 (shN A (r::N)++Z)=true:=by
 unfold J6 at h ⊢;have h0:=(of_decide_eq_true h).2;refine b3J ⟨by rw[c1Q];exact hl,fun i hi => ?_⟩
 rcases c1M hi with⟨j,hj,rfl⟩|⟨h1,x,hx,hm⟩
 ·have h1:=h0 j hj
  unfold dp mks at h1 ⊢;rw[(c1Y (A:=A) (Z:=Z) hr hp j hj).1,C9,c11 hr hj];rw[i5 hj]at h1;exact h1
 ·unfold dp mks
  rw[c2e hA hr hp h1 hx hm,hx];simp[(hA x hm).m]
end
theorem c2R:∀{B X:List Nd} (k:Nat),(∀x∈B,x.k≠1)->c1E (B++X) k=c1E X (k+B.length)
 | [],X,k,_=>rfl
 |x::B,X,k,h=>by
  rw[i9,c1E,f6 (h x (by simp)),c2R (k+1) (fun y hy=>h y (by simp[hy])),i8]
  congr 1;omega
theorem c2C(m:Nat):∀{N:List Nd} (k:Nat),(∃x∈N,x.k=1)->c1E (N.map (shX m)++Z) (k+m)=c1E N k+m
 | [],k,h=>by obtain⟨x,hx,_⟩:=h;cases hx
 |x::N,k,h=>by
  rw[List.map_cons,i9,c1E,c1E];by_cases hx:x.k=1
  ·rw[g8 hx,g8 (show(shX m x).k=1 from hx)]
  ·rw[f6 hx,f6 (show ¬(shX m x).k=1 from hx),show k+m+1=(k+1)+m by omega]
   refine c2C m (k+1) ?_;obtain⟨y,hy,h1⟩:=h;rcases q8.1 hy with rfl|hy
   ·exact absurd h1 hx
   ·exact⟨y,hy,h1⟩
theorem c19{l:List Nd}:∀k,S8 l k≠0->∃i,1<=i/\i<k/\kd l i=1
 |0,h=>absurd rfl h
 |k+1,h=>by
  rw[S8]at h;by_cases hc:1<=k/\pa l k=0/\kd l k=1
  ·exact⟨k,hc.1,by omega,hc.2.2⟩
  ·rw[f6 hc]at h
   obtain⟨i,h1,h2,h3⟩:=c19 k h;exact⟨i,h1,by omega,h3⟩
theorem c2M(x:Nd)(h:x∈c1K):c18 x:=by
 simp only[c1K,q8,C5,or_false]at h;rcases h with rfl|rfl
 ·exact⟨rfl,.inl rfl,b8v (by kernel_rfl),rfl,rfl⟩
 ·exact⟨rfl,.inr rfl,b8v (by kernel_rfl),rfl,rfl⟩
theorem c2L(x:Nd)(h:x∈c1N):c18 x:=by
 simp only[c1N,q8,C5,or_false]at h;rcases h with rfl|rfl
 ·exact⟨rfl,.inr rfl,b8v (by kernel_rfl),rfl,rfl⟩
 ·exact⟨rfl,.inl rfl,b8v (by kernel_rfl),rfl,rfl⟩
theorem c3g(a c:Nat)(ha:a<=3)(hc:c<=3){b:List UInt8}{l:List Nd}(hb:b.length<=700)(hx:¬∃q,b=c1L++q)(h:X4 b=.inr l) :
 X4 (c1D c1G a++b++c1D c1F c)=.inr (shN (c1D c1K a) l++c1D c1N c)/\l≠[]/\c1V (shN (c1D c1K a) l++c1D c1N c)=c1V l+2*a/\l.length<=2000:=by
 obtain⟨h1,h2,h3⟩:=a2R h
 have D2:l.length<=2*700+1:=by
  have h4:=h1;unfold a2Q at h4
  split at h4
  ·refine c2n ((b9Z _).mono ?_) h4
   have:=a9x (C4 b);have:=a2I b;omega
  ·cases h4
 cases l with
 |nil=>cases h2
 |cons r N =>
  have hA:∀x∈c1D c1K a++c1D c1N c,c18 x:=fun x hx=>by
   rcases D6.1 hx with hx|hx
   ·exact c1S c1K c2M a x hx
   ·exact c1S c1N c2L c x hx
  have D0:S9 r=true:=by
   rw[K6,i4]at h2;exact h2.1
  have hr:r.n = -1:=b27 (r:=N) D0
  have hk:r.k=0:=by
   unfold S9 at D0;rw[i4,x8]at D0;exact D0.1
  have D3:N3 (r::N)=true:=by
   rw[K6,i4,i4]at h2;exact h2.2.1
  have D1:=D3;unfold N3 at D1;obtain⟨hp,ht⟩:=c22 D1;have la:(c1D c1K a).length=a*2:=c1J c1K a;have lc:(c1D c1N c).length=c*2:=c1J c1N c;refine⟨?_,by simp,?_,by omega⟩
  ·have h5:=c23 a c hx h1
   unfold X4;rw[h5];dsimp only;rw[c2v hA hr hk hp h2,c2u hA hr hp (by rw[la,lc];omega) h3];rfl
  ·obtain⟨i,i1,i2,i3⟩:=c19 (l:=r::N) _ (by rw[ht];decide)
   have D9:∃x∈N,x.k=1:=by
    cases i with
    |zero=>omega
    |succ i =>
     rw[i8]at i2;refine⟨N[i],o0 (by omega),?_⟩
     unfold kd at i3;rw[C7,i5 (by omega)]at i3
     exact i3
   unfold c1V;rw[show shN (c1D c1K a) (r::N)++c1D c1N c=r::(c1D c1K a++(N.map (shX (c1D c1K a).length)++c1D c1N c))by simp[shN],c1E,f6 (by rw[hk];decide)]
   rw[c2R _ (fun x hx=>by rcases(hA x (List.mem_append_left _ hx)).k with h|h<;>rw[h]<;>decide),c2C _ _ D9,c1E,f6 (by rw[hk];decide),la];omega
end
end Go.Proofs.YteinegfbpfhflaaGreatDoor
